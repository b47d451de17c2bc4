/-
  DERIVED. GIVEN WITH THE SEED: THE CARDS: each row of YtoaiofjcjjkfaaaGreatDoorRows.lean that lists a variable, with what it lists TIED to the program's text (the seventh form; the later family's looks); each row that meets fmt, with fmt's text TOLD by the authors' own Lean function (tested against real Go, not proved from fmt's source: count such statements apart). THE CARD IS WHAT COUNTS. Prove the row's statement (the work); the ties are given (YtoaiofjcjjkfaaaGreatDoorTie.lean); close each card by the builder's one call (the guide's Derived/Test/ToyasCard.lean, 'card_holds'). Laid BY PROGRAM, IN A SANDBOX (cutbox-door.mjs). By AI agents, Wed Nov 11 2026. No macro, syntax, notation, axiom, sorry.
-/
import Derived.Test.YtoaiofjcjjkfaaaGreatDoorRows
import GoSem.ClaimSeven
namespace Go.Proofs.YtoaiofjcjjkfaaaGreatDoor
namespace Rows

/-- THE TIED CARD OF 'caissonlaw08.CatalogBytes'. -/
def catalogBytesCard : Claim7 := { stood := { row := catalogBytesRow, standIns := [], harness := (true, "4d9a98eb4e6186ac5c1895fd204bf4cf516efd932a2e6fae579b9ef87c149225"), looks := true }, kinds := [], alts := [], laidByText := true, laidKinds := [.data, .data, .data, .sentinel, .sentinel], laidTests := true, laidLooks := .later }
def CatalogBytesCardSaid : Prop := Claim7.holds Tryz.pinned (.plain (OpenSpec.ofChange catalogBytesSpec)) catalogBytesCard

/-- THE TIED CARD OF 'caissonlaw08.CatalogReads'. -/
def catalogReadsCard : Claim7 := { stood := { row := catalogReadsRow, standIns := [], harness := (true, "4d9a98eb4e6186ac5c1895fd204bf4cf516efd932a2e6fae579b9ef87c149225"), looks := true }, kinds := [], alts := [], laidByText := true, laidKinds := [.data, .data, .data, .sentinel, .sentinel], laidTests := true, laidLooks := .later }
def CatalogReadsCardSaid : Prop := Claim7.holds Tryz.pinned (.plain (OpenSpec.ofChange catalogReadsSpec)) catalogReadsCard

/-- THE TIED CARD OF 'caissonlaw08.CatalogPlays'. -/
def catalogPlaysCard : Claim7 := { stood := { row := catalogPlaysRow, standIns := [], harness := (true, "4d9a98eb4e6186ac5c1895fd204bf4cf516efd932a2e6fae579b9ef87c149225"), looks := true }, kinds := [], alts := [], laidByText := true, laidKinds := [.data, .data, .data, .sentinel, .sentinel], laidTests := true, laidLooks := .later }
def CatalogPlaysCardSaid : Prop := Claim7.holds Tryz.pinned (.plain (OpenSpec.ofChange catalogPlaysSpec)) catalogPlaysCard

/-- THE TIED CARD OF 'caissonlaw08.CatalogSwaps'. -/
def catalogSwapsCard : Claim7 := { stood := { row := catalogSwapsRow, standIns := [], harness := (true, "4d9a98eb4e6186ac5c1895fd204bf4cf516efd932a2e6fae579b9ef87c149225"), looks := true }, kinds := [], alts := [], laidByText := true, laidKinds := [.data, .data, .data, .sentinel, .sentinel], laidTests := true, laidLooks := .later }
def CatalogSwapsCardSaid : Prop := Claim7.holds Tryz.pinned (.plain (OpenSpec.ofChange catalogSwapsSpec)) catalogSwapsCard

/-- THE TIED CARD OF 'caissonlaw08.CatalogFull'. -/
def catalogFullCard : Claim7 := { stood := { row := catalogFullRow, standIns := [], harness := (true, "4d9a98eb4e6186ac5c1895fd204bf4cf516efd932a2e6fae579b9ef87c149225"), looks := true }, kinds := [], alts := [], laidByText := true, laidKinds := [.data, .data, .data, .sentinel, .sentinel], laidTests := true, laidLooks := .later }
def CatalogFullCardSaid : Prop := Claim7.holds Tryz.pinned (.plain (OpenSpec.ofChange catalogFullSpec)) catalogFullCard

/-- THE TIED CARD OF 'caissonlaw08.CatalogTurned'. -/
def catalogTurnedCard : Claim7 := { stood := { row := catalogTurnedRow, standIns := [], harness := (true, "4d9a98eb4e6186ac5c1895fd204bf4cf516efd932a2e6fae579b9ef87c149225"), looks := true }, kinds := [], alts := [], laidByText := true, laidKinds := [.data, .data, .data, .sentinel, .sentinel], laidTests := true, laidLooks := .later }
def CatalogTurnedCardSaid : Prop := Claim7.holds Tryz.pinned (.plain (OpenSpec.ofChange catalogTurnedSpec)) catalogTurnedCard

/-- THE TIED CARD OF 'caissonlaw08.CatalogNil'. -/
def catalogNilCard : Claim7 := { stood := { row := catalogNilRow, standIns := [], harness := (true, "4d9a98eb4e6186ac5c1895fd204bf4cf516efd932a2e6fae579b9ef87c149225"), looks := true }, kinds := [], alts := [], laidByText := true, laidKinds := [.data, .data, .data, .sentinel, .sentinel], laidTests := true, laidLooks := .later }
def CatalogNilCardSaid : Prop := Claim7.holds Tryz.pinned (.plain (OpenSpec.ofChange catalogNilSpec)) catalogNilCard

/-- THE SECOND FORM's CARD OF 'caissonlaw08.CatalogBytes'. -/
def catalogBytesUptoCard : Claim7 := { stood := { row := catalogBytesUptoRow, standIns := [], harness := (true, "4d9a98eb4e6186ac5c1895fd204bf4cf516efd932a2e6fae579b9ef87c149225"), looks := true }, kinds := [], alts := [], laidByText := true, laidKinds := [.data, .data, .data, .sentinel, .sentinel], laidTests := true, laidLooks := .later }
def CatalogBytesUptoCardSaid : Prop := Claim7.holds Tryz.pinned (.plain (OpenSpec.upto catalogBytesSpec)) catalogBytesUptoCard

/-- THE SECOND FORM's CARD OF 'caissonlaw08.CatalogReads'. -/
def catalogReadsUptoCard : Claim7 := { stood := { row := catalogReadsUptoRow, standIns := [], harness := (true, "4d9a98eb4e6186ac5c1895fd204bf4cf516efd932a2e6fae579b9ef87c149225"), looks := true }, kinds := [], alts := [], laidByText := true, laidKinds := [.data, .data, .data, .sentinel, .sentinel], laidTests := true, laidLooks := .later }
def CatalogReadsUptoCardSaid : Prop := Claim7.holds Tryz.pinned (.plain (OpenSpec.upto catalogReadsSpec)) catalogReadsUptoCard

/-- THE SECOND FORM's CARD OF 'caissonlaw08.CatalogPlays'. -/
def catalogPlaysUptoCard : Claim7 := { stood := { row := catalogPlaysUptoRow, standIns := [], harness := (true, "4d9a98eb4e6186ac5c1895fd204bf4cf516efd932a2e6fae579b9ef87c149225"), looks := true }, kinds := [], alts := [], laidByText := true, laidKinds := [.data, .data, .data, .sentinel, .sentinel], laidTests := true, laidLooks := .later }
def CatalogPlaysUptoCardSaid : Prop := Claim7.holds Tryz.pinned (.plain (OpenSpec.upto catalogPlaysSpec)) catalogPlaysUptoCard

/-- THE SECOND FORM's CARD OF 'caissonlaw08.CatalogSwaps'. -/
def catalogSwapsUptoCard : Claim7 := { stood := { row := catalogSwapsUptoRow, standIns := [], harness := (true, "4d9a98eb4e6186ac5c1895fd204bf4cf516efd932a2e6fae579b9ef87c149225"), looks := true }, kinds := [], alts := [], laidByText := true, laidKinds := [.data, .data, .data, .sentinel, .sentinel], laidTests := true, laidLooks := .later }
def CatalogSwapsUptoCardSaid : Prop := Claim7.holds Tryz.pinned (.plain (OpenSpec.upto catalogSwapsSpec)) catalogSwapsUptoCard

/-- THE SECOND FORM's CARD OF 'caissonlaw08.CatalogFull'. -/
def catalogFullUptoCard : Claim7 := { stood := { row := catalogFullUptoRow, standIns := [], harness := (true, "4d9a98eb4e6186ac5c1895fd204bf4cf516efd932a2e6fae579b9ef87c149225"), looks := true }, kinds := [], alts := [], laidByText := true, laidKinds := [.data, .data, .data, .sentinel, .sentinel], laidTests := true, laidLooks := .later }
def CatalogFullUptoCardSaid : Prop := Claim7.holds Tryz.pinned (.plain (OpenSpec.upto catalogFullSpec)) catalogFullUptoCard

/-- THE SECOND FORM's CARD OF 'caissonlaw08.CatalogTurned'. -/
def catalogTurnedUptoCard : Claim7 := { stood := { row := catalogTurnedUptoRow, standIns := [], harness := (true, "4d9a98eb4e6186ac5c1895fd204bf4cf516efd932a2e6fae579b9ef87c149225"), looks := true }, kinds := [], alts := [], laidByText := true, laidKinds := [.data, .data, .data, .sentinel, .sentinel], laidTests := true, laidLooks := .later }
def CatalogTurnedUptoCardSaid : Prop := Claim7.holds Tryz.pinned (.plain (OpenSpec.upto catalogTurnedSpec)) catalogTurnedUptoCard

/-- THE SECOND FORM's CARD OF 'caissonlaw08.CatalogNil'. -/
def catalogNilUptoCard : Claim7 := { stood := { row := catalogNilUptoRow, standIns := [], harness := (true, "4d9a98eb4e6186ac5c1895fd204bf4cf516efd932a2e6fae579b9ef87c149225"), looks := true }, kinds := [], alts := [], laidByText := true, laidKinds := [.data, .data, .data, .sentinel, .sentinel], laidTests := true, laidLooks := .later }
def CatalogNilUptoCardSaid : Prop := Claim7.holds Tryz.pinned (.plain (OpenSpec.upto catalogNilSpec)) catalogNilUptoCard
end Rows
end Go.Proofs.YtoaiofjcjjkfaaaGreatDoor
