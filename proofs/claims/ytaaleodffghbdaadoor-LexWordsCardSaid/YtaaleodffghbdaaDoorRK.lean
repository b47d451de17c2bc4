/- The rows of lex: what they have in common: the laid variables. -/
import Derived.Test.YtaaleodffghbdaaDoorC2
import Derived.Test.YtaaleodffghbdaaDoorTie
import Derived.Test.YtaaleodffghbdaaDoorCards
import Derived.Deep.DeepHandedRow
import Derived.Deep.DeepWitnessRowRef
import Derived.Lib.LaidTab
import Derived.Lib.LaidIn
import Derived.LaidMore
import Derived.Stop.LaidErr
import Derived.Shelf.Vars
import Derived.ProofKit
import Derived.SizedLaws
import Derived.SliceStrings
import Derived.SevenTiedAt
namespace Go.Proofs.YtaaleodffghbdaaDoor
open Go.RowKit Go.ChangeShapes Go.WideShapes Go.ChangeAt
open Go.ChangeMaps (open_string shut_string)
set_option linter.unusedVariables false

theorem Tryd.laidOut : laidOutB Tryd.prog = true := by kernel_rfl
theorem ownN : ownKnob Tryd.prog.godebug = none := by kernel_rfl
/-- An array of texts that reads as the table holds the table's texts. -/
theorem cells_of_texts {H : Type} {enc : TypeId × Value → H} {P : Program} {w : World} {base : Nat} {sp : Nat → Bool} {held : Bool} {fuel : Nat} {t e : TypeId} {n : Nat} {cs : List Value} {zs : List Tx} {p : List MemPlace}
    (ht : P.underlying t = some (.array n e)) (he : P.underlying e = some .string) (hce : P.cellsOf e = 1) (hct : P.cellsOf t = n)
    (h : DataW.trod enc P w base sp held fuel t cs = some (.agg (zs.map fun z => (DataW.lit (.string z) : DataW H)), p)) : cs = zs.map fun z => Value.string ⟨z.toArray⟩ := by
  cases fuel with
  | zero => simp [DataW.trod] at h
  | succ fuel =>
    simp only [DataW.trod, ht, hce, hct, Nat.mul_one] at h
    split at h
    · rename_i hl
      obtain ⟨xs, hm, hx⟩ := Option.map_eq_some_iff.1 h
      have hxs : xs.map (·.1) = zs.map fun z => (DataW.lit (.string z) : DataW H) := by
        have := congrArg Prod.fst hx
        simpa using this
      have hxl : xs.length = n := by simpa using Lib.mapM_length hm
      have hzl : zs.length = n := by
        have := congrArg List.length hxs
        simp at this
        omega
      apply List.ext_getElem?
      intro i
      by_cases hi : i < n
      · obtain ⟨b, hb, hf⟩ := Lib.mapM_at hm i i (by simp [hi])
        obtain ⟨z, hc, rfl, _⟩ := DataW.trod_string he hf
        have h1 : cs[i]? = some (.string z) := by
          have := congrArg (·[0]?) hc
          simpa [List.getElem?_take, List.getElem?_drop] using this
        have h2 : (xs.map (·.1))[i]? = some (DataW.lit (.string z.data.toList) : DataW H) := by simp [hb]
        rw [hxs] at h2
        simp only [List.getElem?_map, Option.map_eq_some_iff, DataW.lit.injEq, Lit.string.injEq] at h2
        obtain ⟨z', hz', rfl⟩ := h2
        rw [h1, List.getElem?_map, hz']
        simp
      · rw [List.getElem?_eq_none (by omega), List.getElem?_eq_none (by simp; omega)]
    · cases h
def laidN : List (String × DataW Unit) := [("unicode/utf8.acceptRanges", Rows.laid_unicode_utf8_acceptRanges), ("caisson/lex.kinds", Rows.laid_caisson_lex_kinds), ("caisson/lex.keywords", Rows.laid_caisson_lex_keywords), ("unicode/utf8.first", Rows.laid_unicode_utf8_first)]
def kindZ : List Int := (List.range 128).map fun i => ((kindB (UInt8.ofNat i) : Nat) : Int)
theorem kinds_tab : (Rows.laid_caisson_lex_kinds : DataW Unit) = Lib.tabData .u8 kindZ := by kernel_rfl
theorem kws_tab : (Rows.laid_caisson_lex_keywords : DataW Unit) = .agg (kws.map fun z => (DataW.lit (.string z) : DataW Unit)) := rfl
theorem kindZ_at (b : UInt8) (h : b.toNat < 128) : kindZ.getD b.toNat 0 = ((kindB b : Nat) : Int) := by
  unfold kindZ
  rw [List.getD_eq_getElem?_getD, List.getElem?_map, List.getElem?_range h]
  simp
theorem kinds_cell {W : World} {rest : List (String × DataW Unit)} (h : laidMet Tryd.prog (("caisson/lex.kinds", Rows.laid_caisson_lex_kinds) :: rest) W) (b : UInt8) (hb : b.toNat < 128) : W.cell? ⟨1, b.toNat, none⟩ = some (.int .u8 (kindB b : Nat)) := by
  rw [kinds_tab] at h
  have := (Lib.tabIs_of_head (g := 1) (t := 57) (e := 5) (n := 128) (by kernel_rfl) (by kernel_rfl) Tryd.underlying57 Tryd.underlying5 (by kernel_rfl) (by kernel_rfl) h).cell (g := 1) (by kernel_rfl) b.toNat (by unfold kindZ; simp; omega)
  rw [kindZ_at b hb] at this
  exact this
theorem kws_cell {W : World} {rest : List (String × DataW Unit)} (h : laidMet Tryd.prog (("caisson/lex.keywords", Rows.laid_caisson_lex_keywords) :: rest) W) (k : Nat) (hk : k < 17) : W.cell? ⟨0, k, none⟩ = some (.string ⟨(kwN k).toArray⟩) := by
  have hg : Tryd.prog.globalNamed "caisson/lex.keywords" = some 0 := by kernel_rfl
  have hty : (Tryd.prog.globals[0]?).map (·.type) = some 54 := by kernel_rfl
  obtain ⟨ps, ⟨g', t', cs, fuel, p, q, hg', ht', hvar, hd, _, _⟩, _⟩ := h
  obtain rfl := Option.some.inj (hg.symm.trans hg')
  obtain rfl := Option.some.inj (hty.symm.trans ht')
  rw [kws_tab] at hd
  have hcs := cells_of_texts (n := 17) (e := 9) Tryd.underlying54 Tryd.underlying9 (by kernel_rfl) (by kernel_rfl) hd
  have h1 := World.var?_cell hg hvar k
  rw [h1, ← Array.getElem?_toList, hcs, List.getElem?_map]
  have h2 : kws[k]? = some (kwN k) := by
    unfold kwN
    rw [List.getD_eq_getElem?_getD, List.getElem?_eq_getElem (show k < kws.length from hk)]; rfl
  rw [h2]; rfl
theorem lr_of_laid {W : World} (h0 : laidMetH Tryd.prog laidN W) (hS : W.ShapedOpen Tryd.prog) : Lr W := by
  have h : laidMet Tryd.prog laidN W := by
    rw [MakeChecks.laidMetH_plain _ _ _ (by kernel_rfl)] at h0
    exact h0
  have h1 := laidMet.tail h
  exact ⟨kinds_cell h1, kws_cell (laidMet.tail h1), cell_of_shapedOpen_int (zero := #[.int .i64 0]) (t := 3) hS (of_decide_eq_true (by kernel_rfl)) (by kernel_rfl) rfl (by kernel_rfl) (by kernel_rfl) Tryd.underlying3⟩
/-- A start for the witnesses: what the program's text lays, and the library's great table. -/
noncomputable def layW (os : Os) : World :=
  { World.doorLaid Tryd.prog 400 os with heap := (World.doorLaid Tryd.prog 400 os).heap.setIfInBounds 3 (.cells (Go.Pinned.utf8FirstZ.map fun (n : Nat) => Value.int .u8 (n : Int)).toArray 76) }
theorem door_met (os : Os) (args : Array Value) : laidMetH Tryd.prog laidN ((layW os).forCall (fun _ _ => 0) ⟨#[], args, []⟩).memory := by
  rw [MakeChecks.laidMetH_plain _ _ _ (by kernel_rfl)]
  exact laidMet_of_run' 8 (by kernel_rfl) (by kernel_rfl)
end Go.Proofs.YtaaleodffghbdaaDoor
