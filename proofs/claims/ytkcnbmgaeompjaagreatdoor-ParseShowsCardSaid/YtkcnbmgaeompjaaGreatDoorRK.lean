/- The rows of parse: what they have in common: the laid variables. -/
import Derived.Test.YtkcnbmgaeompjaaGreatDoorGV
import Derived.Test.YtkcnbmgaeompjaaGreatDoorTie
import Derived.Test.YtkcnbmgaeompjaaGreatDoorCards
import Derived.Deep.DeepHandedRow
import Derived.Deep.DeepWitnessRowRef
import Derived.Lib.LaidTab
import Derived.Lib.LaidIn
import Derived.LaidMore
import Derived.LaidOnce
import Derived.Stop.LaidErr
import Derived.Shelf.Vars
import Derived.ProofKit
import Derived.SizedLaws
import Derived.SliceStrings
import Derived.SevenTiedAt
namespace Go.Proofs.YtkcnbmgaeompjaaGreatDoor
open Go.RowKit Go.ChangeShapes Go.WideShapes Go.ChangeAt
open Go.ChangeMaps (open_string shut_string)
set_option linter.unusedVariables false

theorem ownN : ownKnob Tryz.prog.godebug = none := by kernel_rfl
theorem rowErr (u : TypeId) (h : Tryz.prog.typeName? 3 u = some "*errors.errorString") : u = 206 :=
  typeName_ptr_named (nm := "errors.errorString") (by rw [show "*" ++ "errors.errorString" = "*errors.errorString" by decide]; kernel_rfl) (by kernel_rfl) (by decide) u (by rw [show "*" ++ "errors.errorString" = "*errors.errorString" by decide]; exact h)
/-- An array of texts that reads as the table holds the table's texts. -/
theorem cells_of_texts {H : Type} {enc : TypeId × Value → H} {P : Program} {w : World} {base : Nat} {sp : Nat → Bool} {held : Bool} {fuel : Nat} {t e : TypeId} {n : Nat} {cs : List Value} {zs : List Tx} {p : List MemPlace}
    (ht : P.underlying t = some (.array n e)) (he : P.underlying e = some .string) (hce : P.cellsOf e = 1) (hct : P.cellsOf t = n)
    (h : DataW.trod enc P w base sp held fuel t cs = some (.agg (zs.map fun z => (DataW.lit (.string z) : DataW H)), p)) : cs = zs.map fun z => Value.string ⟨z.toArray⟩ := by
  cases fuel with
  | zero => simp [DataW.trod] at h
  | succ fuel =>
    simp only [DataW.trod, ht, hce, hct, Nat.mul_one] at h
    split at h
    · rename_i hl
      obtain ⟨xs, hm, hx⟩ := Option.map_eq_some_iff.1 h
      have hxs : xs.map (·.1) = zs.map fun z => (DataW.lit (.string z) : DataW H) := by
        have := congrArg Prod.fst hx
        simpa using this
      have hxl : xs.length = n := by simpa using Lib.mapM_length hm
      have hzl : zs.length = n := by
        have := congrArg List.length hxs
        simp at this
        omega
      apply List.ext_getElem?
      intro i
      by_cases hi : i < n
      · obtain ⟨b, hb, hf⟩ := Lib.mapM_at hm i i (by simp [hi])
        obtain ⟨z, hc, rfl, _⟩ := DataW.trod_string he hf
        have h1 : cs[i]? = some (.string z) := by
          have := congrArg (·[0]?) hc
          simpa [List.getElem?_take, List.getElem?_drop] using this
        have h2 : (xs.map (·.1))[i]? = some (DataW.lit (.string z.data.toList) : DataW H) := by simp [hb]
        rw [hxs] at h2
        simp only [List.getElem?_map, Option.map_eq_some_iff, DataW.lit.injEq, Lit.string.injEq] at h2
        obtain ⟨z', hz', rfl⟩ := h2
        rw [h1, List.getElem?_map, hz']
        simp
      · rw [List.getElem?_eq_none (by omega), List.getElem?_eq_none (by simp; omega)]
    · cases h
def laidN : List (String × DataW Unit) := [("math/bits.deBruijn32tab", Rows.laid_math_bits_deBruijn32tab), ("math/bits.deBruijn64tab", Rows.laid_math_bits_deBruijn64tab), ("internal/strconv.uint64pow10", Rows.laid_internal_strconv_uint64pow10), ("unicode/utf8.acceptRanges", Rows.laid_unicode_utf8_acceptRanges), ("strconv.ErrRange", Rows.laid_strconv_ErrRange), ("strconv.ErrSyntax", Rows.laid_strconv_ErrSyntax), ("caisson/lex.kinds", Rows.laid_caisson_lex_kinds), ("caisson/lex.keywords", Rows.laid_caisson_lex_keywords), ("caisson/parse.calls", Rows.laid_caisson_parse_calls), ("caisson/parse.signs", Rows.laid_caisson_parse_signs), ("unicode/utf8.first", Rows.laid_unicode_utf8_first)]
def kindZ : List Int := (List.range 128).map fun i => ((kindB (UInt8.ofNat i) : Nat) : Int)
theorem kinds_tab : (Rows.laid_caisson_lex_kinds : DataW Unit) = Lib.tabData .u8 kindZ := by kernel_rfl
theorem kindZ_at (b : UInt8) (h : b.toNat < 128) : kindZ.getD b.toNat 0 = ((kindB b : Nat) : Int) := by
  unfold kindZ
  rw [List.getD_eq_getElem?_getD, List.getElem?_map, List.getElem?_range h]
  simp
theorem kinds_cell {W : World} {rest : List (String × DataW Unit)} (h : laidMet Tryz.prog (("caisson/lex.kinds", Rows.laid_caisson_lex_kinds) :: rest) W) (b : UInt8) (hb : b.toNat < 128) : W.cell? ⟨1, b.toNat, none⟩ = some (.int .u8 (kindB b : Nat)) := by
  rw [kinds_tab] at h
  have := (Lib.tabIs_of_head (g := 1) (t := 154) (e := 5) (n := 128) (by kernel_rfl) (by kernel_rfl) Tryz.underlying154 Tryz.underlying5 (by kernel_rfl) (by kernel_rfl) h).cell (g := 1) (by kernel_rfl) b.toNat (by unfold kindZ; simp; omega)
  rw [kindZ_at b hb] at this
  exact this
theorem txt_cell {W : World} {rest : List (String × DataW Unit)} {name : String} {zs : List Tx} {g t n : Nat} (h : laidMet Tryz.prog ((name, .agg (zs.map fun z => (DataW.lit (.string z) : DataW Unit))) :: rest) W) (hg : Tryz.prog.globalNamed name = some g) (hty : (Tryz.prog.globals[g]?).map (·.type) = some t) (ht : Tryz.prog.underlying t = some (.array n 9)) (hct : Tryz.prog.cellsOf t = n) (k : Nat) (hk : k < zs.length) : W.cell? ⟨g, k, none⟩ = some (sv (zs.getD k [])) := by
  obtain ⟨ps, ⟨g', t', cs, fuel, p, q, hg', ht', hvar, hd, _, _⟩, _⟩ := h
  obtain rfl := Option.some.inj (hg.symm.trans hg')
  obtain rfl := Option.some.inj (hty.symm.trans ht')
  have hcs := cells_of_texts (n := n) (e := 9) ht Tryz.underlying9 (by kernel_rfl) hct hd
  have h1 := World.var?_cell hg hvar k
  rw [h1, ← Array.getElem?_toList, hcs, List.getElem?_map, List.getD_eq_getElem?_getD, List.getElem?_eq_getElem hk]
  rfl
theorem pv_of_laid {W : World} (h0 : laidMetH Tryz.prog laidN W) (hS : W.ShapedOpen Tryz.prog) : Pv W := by
  have h : laidMet Tryz.prog laidN W := by
    rw [MakeChecks.laidMetH_plain _ _ _ (by kernel_rfl)] at h0
    exact h0
  have h3 := laidMet.tail (laidMet.tail h)
  have h5 := laidMet.tail (laidMet.tail h3)
  have h6 := laidMet.tail h5
  have h7 := laidMet.tail h6
  have h8 := laidMet.tail h7
  have h9 := laidMet.tail h8
  have h10 := laidMet.tail h9
  obtain ⟨a0, s0, hv0, _⟩ := laid_sentinel (g := 11) h5 (by kernel_rfl) (by kernel_rfl) Tryz.underlying116 rowErr Tryz.underlying206 Tryz.underlying208 rfl rfl Tryz.underlying9 (by kernel_rfl) (by kernel_rfl)
  obtain ⟨a1, s1, hv1, _⟩ := laid_sentinel (g := 10) h6 (by kernel_rfl) (by kernel_rfl) Tryz.underlying116 rowErr Tryz.underlying206 Tryz.underlying208 rfl rfl Tryz.underlying9 (by kernel_rfl) (by kernel_rfl)
  refine ⟨⟨kinds_cell h7, fun k hk => ?_, cell_of_shapedOpen_int (zero := #[.int .i64 0]) (t := 3) hS (of_decide_eq_true (by kernel_rfl)) (by kernel_rfl) rfl (by kernel_rfl) (by kernel_rfl) Tryz.underlying3⟩, fun k hk => ?_, fun k hk => ?_, ?_, ⟨_, _, World.var?_cell (g := 10) (by kernel_rfl) hv1 0⟩, ⟨_, _, World.var?_cell (g := 11) (by kernel_rfl) hv0 0⟩⟩
  · exact txt_cell (zs := kws) (g := 2) (t := 155) (n := 17) h8 (by kernel_rfl) (by kernel_rfl) Tryz.underlying155 (by kernel_rfl) k hk
  · exact txt_cell (zs := callsT) (g := 0) (t := 138) (n := 7) h9 (by kernel_rfl) (by kernel_rfl) Tryz.underlying138 (by kernel_rfl) k hk
  · exact txt_cell (zs := signsT) (g := 3) (t := 138) (n := 7) h10 (by kernel_rfl) (by kernel_rfl) Tryz.underlying138 (by kernel_rfl) k hk
  · exact Lib.tabIs_of_head (g := 4) (t := 179) (e := 168) (n := 20) (by kernel_rfl) (by kernel_rfl) Tryz.underlying179 Tryz.underlying168 (by kernel_rfl) (by kernel_rfl) h3
/-- A start for the witnesses: what the program's text lays, and the library's great table. -/
noncomputable def layW (os : Os) : World :=
  { World.doorLaid Tryz.prog 92 os with heap := (World.doorLaid Tryz.prog 92 os).heap.setIfInBounds 6 (.cells (Go.Pinned.utf8FirstZ.map fun (n : Nat) => Value.int .u8 (n : Int)).toArray 185) }
theorem laidMet_of_bits {P : Program} {w : World} {l : List (String × DataW Unit)} (fuel M : Nat) (h : (DataW.laidRun P w fuel (l.map (·.1))).map (·.1) = some l)
    (hr : (DataW.laidRun P w fuel (l.map (·.1))).map (fun x => nodupBits M x.2 0 && laidRowsB P w x.2) = some true) : laidMet P l w := by
  cases hx : DataW.laidRun P w fuel (l.map (·.1)) with
  | none => simp [hx] at h
  | some x =>
    obtain ⟨l', ps⟩ := x
    simp only [hx, Option.map_some, Option.some.injEq] at h hr
    subst h
    simp only [Bool.and_eq_true] at hr
    exact laidMet_of_run fuel hx (decide_eq_true (nodupBits_sound hr.1).1) hr.2
theorem door_met (os : Os) (args : Array Value) : laidMetH Tryz.prog laidN ((layW os).forCall (fun _ _ => 0) ⟨#[], args, []⟩).memory := by
  rw [MakeChecks.laidMetH_plain _ _ _ (by kernel_rfl)]
  exact laidMet_of_bits 8 300 (by kernel_rfl) (by kernel_rfl)
end Go.Proofs.YtkcnbmgaeompjaaGreatDoor
