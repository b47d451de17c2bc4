/-
  DERIVED. GIVEN WITH THE SEED: THE CARDS: each row of YtlpglijikmnopaaGreatDoorRows.lean that lists a variable, with what it lists TIED to the program's text (the seventh form; the later family's looks); each row that meets fmt, with fmt's text TOLD by the authors' own Lean function (tested against real Go, not proved from fmt's source: count such statements apart). THE CARD IS WHAT COUNTS. Prove the row's statement (the work); the ties are given (YtlpglijikmnopaaGreatDoorTie.lean); close each card by the builder's one call (the guide's Derived/Test/ToyasCard.lean, 'card_holds'). Laid BY PROGRAM, IN A SANDBOX (cutbox-door.mjs). By AI agents, Wed Nov 11 2026. No macro, syntax, notation, axiom, sorry.
-/
import Derived.Test.YtlpglijikmnopaaGreatDoorRows
import GoSem.ClaimSeven
namespace Go.Proofs.YtlpglijikmnopaaGreatDoor
namespace Rows

/-- THE TIED CARD OF 'caissonlaw14.GroupWays'. -/
def groupWaysCard : Claim7 := { stood := { row := groupWaysRow, standIns := [], harness := (true, "a3d47d521de7adf7a6991cd3d5ed6530dbf1f9b635a981cc48386afb501192b1"), looks := false }, kinds := [], alts := [], laidByText := true, laidKinds := [.data, .data, .data], laidTests := true, laidLooks := .later }
def GroupWaysCardSaid : Prop := Claim7.holds Tryz.pinned (.plain (OpenSpec.ofChange groupWaysSpec)) groupWaysCard

/-- THE TIED CARD OF 'caissonlaw14.GroupRows'. -/
def groupRowsCard : Claim7 := { stood := { row := groupRowsRow, standIns := [], harness := (true, "a3d47d521de7adf7a6991cd3d5ed6530dbf1f9b635a981cc48386afb501192b1"), looks := false }, kinds := [], alts := [], laidByText := true, laidKinds := [.data, .data, .data], laidTests := true, laidLooks := .later }
def GroupRowsCardSaid : Prop := Claim7.holds Tryz.pinned (.plain (OpenSpec.ofChange groupRowsSpec)) groupRowsCard

/-- THE TIED CARD OF 'caissonlaw14.GroupKeys'. -/
def groupKeysCard : Claim7 := { stood := { row := groupKeysRow, standIns := [], harness := (true, "a3d47d521de7adf7a6991cd3d5ed6530dbf1f9b635a981cc48386afb501192b1"), looks := false }, kinds := [], alts := [], laidByText := true, laidKinds := [.data, .data, .data], laidTests := true, laidLooks := .later }
def GroupKeysCardSaid : Prop := Claim7.holds Tryz.pinned (.plain (OpenSpec.ofChange groupKeysSpec)) groupKeysCard

/-- THE TIED CARD OF 'caissonlaw14.GroupLess'. -/
def groupLessCard : Claim7 := { stood := { row := groupLessRow, standIns := [], harness := (true, "a3d47d521de7adf7a6991cd3d5ed6530dbf1f9b635a981cc48386afb501192b1"), looks := false }, kinds := [], alts := [], laidByText := true, laidKinds := [.data, .data, .data], laidTests := true, laidLooks := .later }
def GroupLessCardSaid : Prop := Claim7.holds Tryz.pinned (.plain (OpenSpec.ofChange groupLessSpec)) groupLessCard

/-- THE TIED CARD OF 'caissonlaw14.GroupBoth'. -/
def groupBothCard : Claim7 := { stood := { row := groupBothRow, standIns := [], harness := (true, "a3d47d521de7adf7a6991cd3d5ed6530dbf1f9b635a981cc48386afb501192b1"), looks := false }, kinds := [], alts := [], laidByText := true, laidKinds := [.data, .data, .data], laidTests := true, laidLooks := .later }
def GroupBothCardSaid : Prop := Claim7.holds Tryz.pinned (.plain (OpenSpec.ofChange groupBothSpec)) groupBothCard

/-- THE TIED CARD OF 'caissonlaw14.GroupFilters'. -/
def groupFiltersCard : Claim7 := { stood := { row := groupFiltersRow, standIns := [], harness := (true, "a3d47d521de7adf7a6991cd3d5ed6530dbf1f9b635a981cc48386afb501192b1"), looks := false }, kinds := [], alts := [], laidByText := true, laidKinds := [.data, .data, .data], laidTests := true, laidLooks := .later }
def GroupFiltersCardSaid : Prop := Claim7.holds Tryz.pinned (.plain (OpenSpec.ofChange groupFiltersSpec)) groupFiltersCard

/-- THE TIED CARD OF 'caissonlaw14.GroupRefines'. -/
def groupRefinesCard : Claim7 := { stood := { row := groupRefinesRow, standIns := [], harness := (true, "a3d47d521de7adf7a6991cd3d5ed6530dbf1f9b635a981cc48386afb501192b1"), looks := false }, kinds := [], alts := [], laidByText := true, laidKinds := [.data, .data, .data], laidTests := true, laidLooks := .later }
def GroupRefinesCardSaid : Prop := Claim7.holds Tryz.pinned (.plain (OpenSpec.ofChange groupRefinesSpec)) groupRefinesCard

/-- THE SECOND FORM's CARD OF 'caissonlaw14.GroupWays'. -/
def groupWaysUptoCard : Claim7 := { stood := { row := groupWaysUptoRow, standIns := [], harness := (true, "a3d47d521de7adf7a6991cd3d5ed6530dbf1f9b635a981cc48386afb501192b1"), looks := false }, kinds := [], alts := [], laidByText := true, laidKinds := [.data, .data, .data], laidTests := true, laidLooks := .later }
def GroupWaysUptoCardSaid : Prop := Claim7.holds Tryz.pinned (.plain (OpenSpec.upto groupWaysSpec)) groupWaysUptoCard

/-- THE SECOND FORM's CARD OF 'caissonlaw14.GroupRows'. -/
def groupRowsUptoCard : Claim7 := { stood := { row := groupRowsUptoRow, standIns := [], harness := (true, "a3d47d521de7adf7a6991cd3d5ed6530dbf1f9b635a981cc48386afb501192b1"), looks := false }, kinds := [], alts := [], laidByText := true, laidKinds := [.data, .data, .data], laidTests := true, laidLooks := .later }
def GroupRowsUptoCardSaid : Prop := Claim7.holds Tryz.pinned (.plain (OpenSpec.upto groupRowsSpec)) groupRowsUptoCard

/-- THE SECOND FORM's CARD OF 'caissonlaw14.GroupKeys'. -/
def groupKeysUptoCard : Claim7 := { stood := { row := groupKeysUptoRow, standIns := [], harness := (true, "a3d47d521de7adf7a6991cd3d5ed6530dbf1f9b635a981cc48386afb501192b1"), looks := false }, kinds := [], alts := [], laidByText := true, laidKinds := [.data, .data, .data], laidTests := true, laidLooks := .later }
def GroupKeysUptoCardSaid : Prop := Claim7.holds Tryz.pinned (.plain (OpenSpec.upto groupKeysSpec)) groupKeysUptoCard

/-- THE SECOND FORM's CARD OF 'caissonlaw14.GroupLess'. -/
def groupLessUptoCard : Claim7 := { stood := { row := groupLessUptoRow, standIns := [], harness := (true, "a3d47d521de7adf7a6991cd3d5ed6530dbf1f9b635a981cc48386afb501192b1"), looks := false }, kinds := [], alts := [], laidByText := true, laidKinds := [.data, .data, .data], laidTests := true, laidLooks := .later }
def GroupLessUptoCardSaid : Prop := Claim7.holds Tryz.pinned (.plain (OpenSpec.upto groupLessSpec)) groupLessUptoCard

/-- THE SECOND FORM's CARD OF 'caissonlaw14.GroupBoth'. -/
def groupBothUptoCard : Claim7 := { stood := { row := groupBothUptoRow, standIns := [], harness := (true, "a3d47d521de7adf7a6991cd3d5ed6530dbf1f9b635a981cc48386afb501192b1"), looks := false }, kinds := [], alts := [], laidByText := true, laidKinds := [.data, .data, .data], laidTests := true, laidLooks := .later }
def GroupBothUptoCardSaid : Prop := Claim7.holds Tryz.pinned (.plain (OpenSpec.upto groupBothSpec)) groupBothUptoCard

/-- THE SECOND FORM's CARD OF 'caissonlaw14.GroupFilters'. -/
def groupFiltersUptoCard : Claim7 := { stood := { row := groupFiltersUptoRow, standIns := [], harness := (true, "a3d47d521de7adf7a6991cd3d5ed6530dbf1f9b635a981cc48386afb501192b1"), looks := false }, kinds := [], alts := [], laidByText := true, laidKinds := [.data, .data, .data], laidTests := true, laidLooks := .later }
def GroupFiltersUptoCardSaid : Prop := Claim7.holds Tryz.pinned (.plain (OpenSpec.upto groupFiltersSpec)) groupFiltersUptoCard

/-- THE SECOND FORM's CARD OF 'caissonlaw14.GroupRefines'. -/
def groupRefinesUptoCard : Claim7 := { stood := { row := groupRefinesUptoRow, standIns := [], harness := (true, "a3d47d521de7adf7a6991cd3d5ed6530dbf1f9b635a981cc48386afb501192b1"), looks := false }, kinds := [], alts := [], laidByText := true, laidKinds := [.data, .data, .data], laidTests := true, laidLooks := .later }
def GroupRefinesUptoCardSaid : Prop := Claim7.holds Tryz.pinned (.plain (OpenSpec.upto groupRefinesSpec)) groupRefinesUptoCard
end Rows
end Go.Proofs.YtlpglijikmnopaaGreatDoor
