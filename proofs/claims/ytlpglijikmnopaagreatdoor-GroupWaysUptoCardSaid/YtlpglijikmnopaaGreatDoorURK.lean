/- The rows of group: what they have in common: the laid variables; arguments opened, with what they weigh. -/
import Derived.Test.YtlpglijikmnopaaGreatDoorUG30
import Derived.Test.YtlpglijikmnopaaGreatDoorTie
import Derived.Test.YtlpglijikmnopaaGreatDoorCards
import Derived.Deep.DeepHandedRow
import Derived.Deep.DeepWitnessRowRef
import Derived.Lib.LaidTab
import Derived.Lib.LaidIn
import Derived.LaidMore
import Derived.LaidOnce
import Derived.Stop.LaidErr
import Derived.ProofKit
import Derived.SizedLaws
import Derived.SliceStrings
import Derived.SevenTiedAt
namespace Go.Proofs.YtlpglijikmnopaaGreatDoor
open Go.RowKit Go.ChangeShapes Go.WideShapes Go.ChangeAt
set_option linter.unusedVariables false

theorem knobN : ownKnob Tryz.prog.godebug = none := by kernel_rfl
theorem Tryz.laidOut : laidOutB Tryz.prog = true := by kernel_rfl
def laidN : List (String × DataW Unit) := [("math/bits.deBruijn32tab", Rows.laid_math_bits_deBruijn32tab), ("math/bits.deBruijn64tab", Rows.laid_math_bits_deBruijn64tab), ("internal/strconv.uint64pow10", Rows.laid_internal_strconv_uint64pow10)]
theorem pv_of_laid {W : World} (h0 : laidMetH Tryz.prog laidN W) : Pv W := by
  have h : laidMet Tryz.prog laidN W := by
    rw [MakeChecks.laidMetH_plain _ _ _ (by kernel_rfl)] at h0
    exact h0
  exact Lib.tabIs_of_head (g := 0) (t := 182) (e := 84) (n := 20) (by kernel_rfl) (by kernel_rfl) Tryz.underlying182 Tryz.underlying84 (by kernel_rfl) (by kernel_rfl) (laidMet.tail (laidMet.tail h))
theorem door_met (os : Os) (args : Array Value) : laidMetH Tryz.prog laidN ((World.doorLaid Tryz.prog 400 os).forCall (fun _ _ => 0) ⟨#[], args, []⟩).memory := by
  rw [MakeChecks.laidMetH_plain _ _ _ (by kernel_rfl)]
  exact laidMet_of_run' 8 (by kernel_rfl) (by kernel_rfl)
theorem one_eq {a v : Value} (h : [a] = [v]) : a = v := by injection h
theorem len2 {cs : List Value} (h : cs.length = 2) : ∃ a b, cs = [a, b] := by
  match cs, h with
  | [a, b], _ => exact ⟨a, b, rfl⟩
theorem len3 {cs : List Value} (h : cs.length = 3) : ∃ a b c, cs = [a, b, c] := by
  match cs, h with
  | [a, b, c], _ => exact ⟨a, b, c, rfl⟩
theorem wf_i64_bd {n : Int} (h : (Lit.int .i64 n).wf = true) : i64' n := by
  simp only [Lit.wf, Bool.and_eq_true, decide_eq_true_eq] at h
  simp [IntKind.min, IntKind.max, IntKind.signed, IntKind.bits] at h
  exact ⟨by omega, by omega⟩
theorem c9 : Tryz.prog.cellsOf 9 = 1 := by set_option maxRecDepth 100000 in kernel_rfl
theorem c2 : Tryz.prog.cellsOf 2 = 1 := by set_option maxRecDepth 100000 in kernel_rfl
theorem c42 : Tryz.prog.cellsOf 42 = 1 := by set_option maxRecDepth 100000 in kernel_rfl
theorem c61 : Tryz.prog.cellsOf 61 = 1 := by set_option maxRecDepth 100000 in kernel_rfl
theorem c63 : Tryz.prog.cellsOf 63 = 2 := by set_option maxRecDepth 100000 in kernel_rfl
section
variable {H : Type} {enc : TypeId × Value → H}
theorem bulk_one (d : DataW H) : 1 ≤ Rows.uptoBulk d := by
  cases d with
  | lit l => cases l <;> simp [Rows.uptoBulk]
  | nil => simp [Rows.uptoBulk]
  | ptr d => simp [Rows.uptoBulk]
  | slice elems spare => simp [Rows.uptoBulk]
  | agg parts => simp [Rows.uptoBulk]
  | iface t d => simp [Rows.uptoBulk]
  | map entries => simp [Rows.uptoBulk]
  | held h => simp [Rows.uptoBulk]
theorem bulk_sum {α : Type} (f : Nat → α) (β : α → Nat) (D : Nat → DataW H) : ∀ L : List Nat, (∀ i ∈ L, β (f i) ≤ Rows.uptoBulk (D i)) → ((L.map f).map β).sum ≤ Rows.uptoBulkAll (L.map D)
  | [], _ => by simp
  | i :: L, h => by
    have h1 := h i (by simp)
    have h2 := bulk_sum f β D L fun j hj => h j (by simp [hj])
    simp only [List.map_cons, List.sum_cons, Rows.uptoBulkAll]
    omega
/-- Any row, its elements opened by a way of their own, and what it weighs. -/
theorem open_rowB {α : Type} [Inhabited α] {W : World} (E : α → List Value → Prop) (β : α → Nat) (t e size : Nat) (ht : Tryz.prog.underlying t = some (.slice e)) (hsz : Tryz.prog.cellsOf e = size) (h0 : 0 < size)
    (hE : ∀ fuel cs x, cs.length = size → DataW.trod enc Tryz.prog W 0 (fun _ => true) true fuel e cs = some x → ∃ y, E y cs ∧ β y ≤ Rows.uptoBulk x.1)
    {fuel : Nat} {cs : List Value} {x : DataW H × List MemPlace} (h : DataW.trod enc Tryz.prog W 0 (fun _ => true) true fuel t cs = some x) :
    ∃ v l, cs = [v] ∧ RowE (fun k => k < W.heap.size) W size E v l ∧ (l.map β).sum + 1 ≤ Rows.uptoBulk x.1 := by
  rcases Go.Deep.open_slice ht h with ⟨rfl, rfl⟩ | ⟨a, len, cap, m, n, D, Pl, rfl, hbs, hl, hm, hmm, rfl, hi⟩
  · exact ⟨_, [], rfl, RowE.nil _ _ _ _, by simp [Rows.uptoBulk]⟩
  · simp only [if_true] at hmm
    rw [hsz] at hi
    simp only [Rows.uptoBulk]
    have hel : ∀ i, ∃ y : α, i < len → (∃ cs' : List Value, cs'.length = size ∧ (∀ j, j < size → W.cell? ((a.add (i * size)).add j) = cs'[j]?) ∧ E y cs') ∧ β y ≤ Rows.uptoBulk (D i) := by
      intro i
      by_cases hil : i < len
      · obtain ⟨cs', hc, htr⟩ := hi i (by omega)
        obtain ⟨_, hlen, hat⟩ := World.cells?_some hc
        obtain ⟨y, hy, hw⟩ := hE _ _ _ hlen htr
        exact ⟨y, fun _ => ⟨⟨cs', hlen, hat, hy⟩, hw⟩⟩
      · exact ⟨default, fun h => absurd h hil⟩
    obtain ⟨f, hf⟩ := Classical.axiomOfChoice hel
    refine ⟨_, (List.range len).map f, rfl, ⟨some a, cap, by simp, by simp; omega, hm, fun hl0 => ?_⟩, ?_⟩
    · have hlen0 : 0 < len := by simpa using hl0
      obtain ⟨cs0, hl1, hc0, _⟩ := (hf 0 hlen0).1
      have hc00 := hc0 0 h0
      rw [List.getElem?_eq_getElem (by omega)] at hc00
      obtain ⟨b, off, spot⟩ := a
      have hspot : spot = none := by simpa [Addr.add] using World.cell?_spot hc00
      subst hspot
      refine ⟨b, off, rfl, ?_, ?_, fun j hj => ?_⟩
      · have := World.block_lt_of_cell? W _ hc00
        simpa [Addr.add] using this
      · have := World.block_lt_of_cell? W _ hc00
        simpa [Addr.add] using this
      · rw [List.length_map, List.length_range] at hj
        obtain ⟨cs', h1, h2, h3⟩ := (hf j hj).1
        refine ⟨cs', h1, fun i hi' => ?_, by rw [List.getElem_map, List.getElem_range]; exact h3⟩
        have := h2 i hi'
        rw [Addr.add_lit, Addr.add_lit] at this
        exact this
    · have := bulk_sum f β D (List.range len) fun i hi => (hf i (List.mem_range.1 hi)).2
      omega
variable {W : World}
abbrev Lo (W : World) (k : Nat) : Prop := k < W.heap.size
theorem open_strW (fuel : Nat) (cs : List Value) (x : DataW H × List MemPlace) (hl : cs.length = 1) (h : DataW.trod enc Tryz.prog W 0 (fun _ => true) true fuel 9 cs = some x) : ∃ y, strG (Lo W) W y cs ∧ y.length ≤ Rows.uptoBulk x.1 := by
  obtain ⟨s, e4, rfl, w4⟩ := DataW.trod_string Tryz.underlying9 h
  refine ⟨s.data.toList, ⟨e4, (Array.length_toList (xs := s.data)).symm ▸ w4⟩, ?_⟩
  simp only [Rows.uptoBulk]
  omega
theorem open_intW (fuel : Nat) (cs : List Value) (x : DataW H × List MemPlace) (hl : cs.length = 1) (h : DataW.trod enc Tryz.prog W 0 (fun _ => true) true fuel 2 cs = some x) : ∃ y, intG (Lo W) W y cs ∧ 0 ≤ Rows.uptoBulk x.1 := by
  obtain ⟨n, e, r, w⟩ := DataW.trod_int Tryz.underlying2 h
  exact ⟨n, ⟨e, wf_i64_bd w⟩, Nat.zero_le _⟩
def wgF (f : Fc) : Nat := (f.dims.map List.length).sum + 1
set_option maxRecDepth 100000 in
theorem open_factW (fuel : Nat) (cs : List Value) (x : DataW H × List MemPlace) (hl : cs.length = 2) (h : DataW.trod enc Tryz.prog W 0 (fun _ => true) true fuel 63 cs = some x) : ∃ y, fcG (Lo W) W y cs ∧ wgF y ≤ Rows.uptoBulk x.1 := by
  obtain ⟨xs, n, _, rfl, hlen, hxl, hg⟩ := DataW.trod_struct Tryz.underlying63 h
  obtain ⟨a, b, rfl⟩ := len2 hl
  have hx3 : xs.length = 2 := hxl
  match xs, hx3 with
  | [x0, x1], _ =>
    have g0 : DataW.trod enc Tryz.prog W 0 (fun _ => true) true n 42 (([a, b].drop 0).take (Tryz.prog.cellsOf 42)) = some x0 := hg 0 _ rfl
    have g1 : DataW.trod enc Tryz.prog W 0 (fun _ => true) true n 61 (([a, b].drop 1).take (Tryz.prog.cellsOf 61)) = some x1 := hg 1 _ rfl
    rw [c42] at g0
    rw [c61] at g1
    obtain ⟨v0, l0, e0, r0, w0⟩ := open_rowB (strG (Lo W) W) List.length 42 9 1 Tryz.underlying42 c9 (by omega) open_strW g0
    obtain ⟨v1, l1, e1, r1, w1⟩ := open_rowB (intG (Lo W) W) (fun _ => 0) 61 2 1 Tryz.underlying61 c2 (by omega) open_intW g1
    obtain rfl := one_eq e0
    obtain rfl := one_eq e1
    refine ⟨⟨l0, l1⟩, ⟨_, _, rfl, r0, r1⟩, ?_⟩
    simp only [List.map_cons, List.map_nil, Rows.uptoBulk, Rows.uptoBulkAll]
    unfold wgF
    simp only
    omega
set_option maxRecDepth 100000 in
/-- An argument []string, and what it weighs. -/
theorem open_strsA {v : Value} {d : DataW H} {ps : List MemPlace} (hval : Value.okWide Tryz.prog W .any 0 42 v) (h : DataW.Trod enc Tryz.prog W 0 (fun _ => true) true 42 v d ps) :
    ∃ l, KR (Lo W) W v l ∧ (l.map List.length).sum + 1 ≤ Rows.uptoBulk d := by
  obtain ⟨a0, len, cap, rfl⟩ := okWide_slice Tryz.underlying42 hval
  obtain ⟨fuel, hf⟩ := h
  obtain ⟨v', l, e1, hr, hw⟩ := open_rowB (strG (Lo W) W) List.length 42 9 1 Tryz.underlying42 c9 (by omega) open_strW hf
  have e2 : v' = .slice a0 len cap := by simpa [Value.cells] using e1.symm
  subst e2
  exact ⟨l, hr, hw⟩
set_option maxRecDepth 100000 in
/-- An argument []Fact, and what it weighs. -/
theorem open_factsA {v : Value} {d : DataW H} {ps : List MemPlace} (hval : Value.okWide Tryz.prog W .any 0 22 v) (h : DataW.Trod enc Tryz.prog W 0 (fun _ => true) true 22 v d ps) :
    ∃ l, FR (Lo W) W v l ∧ (l.map wgF).sum + 1 ≤ Rows.uptoBulk d := by
  obtain ⟨a0, len, cap, rfl⟩ := okWide_slice Tryz.underlying22 hval
  obtain ⟨fuel, hf⟩ := h
  obtain ⟨v', l, e1, hr, hw⟩ := open_rowB (fcG (Lo W) W) wgF 22 63 2 Tryz.underlying22 c63 (by omega) open_factW hf
  have e2 : v' = .slice a0 len cap := by simpa [Value.cells] using e1.symm
  subst e2
  exact ⟨l, hr, hw⟩
theorem sum_mem {α : Type} (β : α → Nat) : ∀ {l : List α} {x : α}, x ∈ l → β x ≤ (l.map β).sum
  | [], x, h => by cases h
  | y :: l, x, h => by
    rw [List.map_cons, List.sum_cons]
    rcases List.mem_cons.1 h with rfl | h
    · omega
    · have := sum_mem β h; omega
theorem sum_length {α : Type} (β : α → Nat) (h1 : ∀ x, 1 ≤ β x) : ∀ l : List α, l.length ≤ (l.map β).sum
  | [] => by simp
  | y :: l => by
    have := sum_length β h1 l
    have := h1 y
    rw [List.map_cons, List.sum_cons, List.length_cons]
    omega
/-- What a bound on the weight says of facts. -/
theorem facts_small {fs : List Fc} {M : Nat} (h : (fs.map wgF).sum + 1 ≤ M) (hM : M ≤ 1048576) : (∀ f ∈ fs, Fok f) ∧ fs.length < 4000000 := by
  refine ⟨fun f hf t ht => ?_, ?_⟩
  · have h1 : wgF f ≤ (fs.map wgF).sum := sum_mem wgF hf
    have h2 : t.length ≤ (f.dims.map List.length).sum := sum_mem List.length ht
    have e : wgF f = (f.dims.map List.length).sum + 1 := rfl
    rw [e] at h1
    omega
  · have := sum_length wgF (fun f => by unfold wgF; omega) fs
    omega
end
end Go.Proofs.YtlpglijikmnopaaGreatDoor
