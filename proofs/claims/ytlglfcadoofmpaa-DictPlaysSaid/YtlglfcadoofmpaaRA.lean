/- Rows of texts, and three texts, as arguments: opened. -/
import Derived.Test.YtlglfcadoofmpaaB3
import Derived.Test.YtlglfcadoofmpaaRK
import Derived.Laws.IdiomArrays
import Derived.Deep.Slices
import Derived.Deep.Fields
namespace Go.Proofs.Ytlglfcadoofmpaa
open Go.RowKit Go.ChangeShapes Go.WideShapes Go.ChangeAt
set_option linter.unusedVariables false

theorem ra_c9 : Try.prog.cellsOf 9 = 1 := by set_option maxRecDepth 100000 in kernel_rfl
theorem ra_c3 : Try.prog.cellsOf 3 = 1 := by set_option maxRecDepth 100000 in kernel_rfl
theorem ra_c68 : Try.prog.cellsOf 68 = 3 := by set_option maxRecDepth 100000 in kernel_rfl
theorem cell_of_heap {w w' : World} {g o : Nat} (h : w'.heap[g]? = w.heap[g]?) : w'.cell? ⟨g, o, none⟩ = w.cell? ⟨g, o, none⟩ := by simp [World.cell?, h]
/-- v reads as l: elements of so many cells, in blocks of which K speaks. -/
def RowE {α : Type} (K : Nat → Prop) (w : World) (size : Nat) (E : α → List Value → Prop) (v : Value) (l : List α) : Prop :=
  ∃ A c, v = .slice A l.length c ∧ l.length ≤ maxLen ∧ (0 < l.length → ∃ g off, A = some ⟨g, off, none⟩ ∧ K g ∧ ∀ j (h : j < l.length), ∃ cs : List Value, cs.length = size ∧ (∀ i, i < size → w.cell? ⟨g, off + j * size + i, none⟩ = cs[i]?) ∧ E l[j] cs)
theorem RowE.nil {α : Type} (K : Nat → Prop) (w : World) (size : Nat) (E : α → List Value → Prop) (c : Nat) : RowE K w size E (.slice none 0 c) [] := ⟨none, c, rfl, by simp, fun h => absurd h (by simp)⟩
def strE (s : List UInt8) (cs : List Value) : Prop := cs = [.string ⟨s.toArray⟩] ∧ s.length ≤ maxLen

theorem okWide_array {P : Program} {W : World} {t e : TypeId} {n : Nat} {v : Value} (ht : P.underlying t = some (.array n e)) (h : Value.okWide P W .any 0 t v) : ∃ cs, v = .agg cs ∧ cs.size = P.cellsOf t := by
  simp only [Value.okWide, ht] at h
  obtain ⟨cs, h1, h2, _⟩ := h
  exact ⟨cs, h1, h2⟩
section
variable {H : Type} {enc : TypeId × Value → H}
/-- Any row, its elements opened by a way of their own. -/
theorem open_rowE {α : Type} [Inhabited α] {W : World} (E : α → List Value → Prop) (t e size : Nat) (ht : Try.prog.underlying t = some (.slice e)) (hsz : Try.prog.cellsOf e = size) (h0 : 0 < size)
    (hE : ∀ fuel cs x, cs.length = size → DataW.trod enc Try.prog W 0 (fun _ => true) true fuel e cs = some x → ∃ y, E y cs)
    {fuel : Nat} {cs : List Value} {x : DataW H × List MemPlace} (h : DataW.trod enc Try.prog W 0 (fun _ => true) true fuel t cs = some x) :
    ∃ v l, cs = [v] ∧ RowE (fun k => k < W.heap.size) W size E v l := by
  rcases Go.Deep.open_slice ht h with ⟨rfl, _⟩ | ⟨a, len, cap, m, n, D, Pl, rfl, hb, hl, hm, hmm, hx, hi⟩
  · exact ⟨_, [], rfl, RowE.nil _ _ _ _ _⟩
  · simp only [if_true] at hmm
    rw [hsz] at hi
    have hel : ∀ i, ∃ y : α, i < len → ∃ cs' : List Value, cs'.length = size ∧ (∀ j, j < size → W.cell? ((a.add (i * size)).add j) = cs'[j]?) ∧ E y cs' := by
      intro i
      by_cases hil : i < len
      · obtain ⟨cs', hc, htr⟩ := hi i (by omega)
        obtain ⟨_, hlen, hat⟩ := World.cells?_some hc
        obtain ⟨y, hy⟩ := hE _ _ _ hlen htr
        exact ⟨y, fun _ => ⟨cs', hlen, hat, hy⟩⟩
      · exact ⟨default, fun h => absurd h hil⟩
    obtain ⟨f, hf⟩ := Classical.axiomOfChoice hel
    refine ⟨_, (List.range len).map f, rfl, some a, cap, by simp, by simp; omega, fun hl0 => ?_⟩
    have hlen0 : 0 < len := by simpa using hl0
    obtain ⟨cs0, hl1, hc0, _⟩ := hf 0 hlen0
    have hc00 := hc0 0 h0
    rw [List.getElem?_eq_getElem (by omega)] at hc00
    obtain ⟨b, off, spot⟩ := a
    have hspot : spot = none := by simpa [Addr.add] using World.cell?_spot hc00
    subst hspot
    refine ⟨b, off, rfl, ?_, fun j hj => ?_⟩
    · have := World.block_lt_of_cell? W _ hc00
      simpa [Addr.add] using this
    · rw [List.length_map, List.length_range] at hj
      obtain ⟨cs', h1, h2, h3⟩ := hf j hj
      refine ⟨cs', h1, fun i hi' => ?_, by rw [List.getElem_map, List.getElem_range]; exact h3⟩
      have := h2 i hi'
      rw [Addr.add_lit, Addr.add_lit] at this
      exact this
variable {W : World}
theorem open_strE (fuel : Nat) (cs : List Value) (x : DataW H × List MemPlace) (hl : cs.length = 1) (h : DataW.trod enc Try.prog W 0 (fun _ => true) true fuel 9 cs = some x) : ∃ y, strE y cs := by
  obtain ⟨s, e4, r4, w4⟩ := DataW.trod_string Try.underlying9 h
  exact ⟨s.data.toList, e4, (Array.length_toList (xs := s.data)).symm ▸ w4⟩
set_option maxRecDepth 100000 in
/-- An argument []string. -/
theorem open_texts {v : Value} {d : DataW H} {ps : List MemPlace} (hval : Value.okWide Try.prog W .any 0 27 v) (h : DataW.Trod enc Try.prog W 0 (fun _ => true) true 27 v d ps) :
    ∃ l : List Tx, TAt W.heap.size W v l := by
  obtain ⟨a0, len, cap, rfl⟩ := okWide_slice Try.underlying27 hval
  obtain ⟨fuel, hf⟩ := h
  obtain ⟨v', l, e1, A, c, e, hm, hrow⟩ := open_rowE strE 27 9 1 Try.underlying27 ra_c9 (by omega) open_strE hf
  have e2 : v' = .slice a0 len cap := by simpa [Value.cells] using e1.symm
  subst e2
  have hb : ∀ t ∈ l, t.length ≤ maxLen := by
    intro t ht
    obtain ⟨j, hj, rfl⟩ := List.getElem_of_mem ht
    obtain ⟨g, off, _, _, hx⟩ := hrow (by omega)
    obtain ⟨cs, _, _, h3⟩ := hx j hj
    exact h3.2
  refine ⟨l, by unfold maxLen at hm; omega, hb, A, c, e, fun h0 => ?_⟩
  obtain ⟨g, off, e1, hg, hx⟩ := hrow h0
  refine ⟨g, off, e1, hg, fun i t hi => ?_⟩
  have hil := (List.getElem?_eq_some_iff.1 hi).1
  obtain ⟨cs, h1, h2, h3⟩ := hx i hil
  have h4 := h2 0 (by omega)
  rw [h3.1, Nat.mul_one, Nat.add_zero] at h4
  rw [h4, (List.getElem?_eq_some_iff.1 hi).2]
  rfl
theorem list3 {cs : List Value} (h : cs.length = 3) : ∃ a b c, cs = [a, b, c] := by
  match cs, h with
  | [a, b, c], _ => exact ⟨a, b, c, rfl⟩
theorem open_three_in {fuel : Nat} {l : List Value} {x : DataW H × List MemPlace} (hl : l.length = 3) (hf : DataW.trod enc Try.prog W 0 (fun _ => true) true fuel 68 l = some x) :
    ∃ a b c : Tx, l = [.string ⟨a.toArray⟩, .string ⟨b.toArray⟩, .string ⟨c.toArray⟩] := by
  obtain ⟨c0, c1, c2, rfl⟩ := list3 hl
  obtain ⟨y0, y1, y2, n, _, h0, h1, h2⟩ := trod_array3 Try.underlying68 ra_c9 hf
  obtain ⟨s0, e0, _⟩ := DataW.trod_string Try.underlying9 h0
  obtain ⟨s1, e1, _⟩ := DataW.trod_string Try.underlying9 h1
  obtain ⟨s2, e2, _⟩ := DataW.trod_string Try.underlying9 h2
  injection e0 with e0
  injection e1 with e1
  injection e2 with e2
  exact ⟨s0.data.toList, s1.data.toList, s2.data.toList, by rw [e0, e1, e2]⟩
set_option maxRecDepth 100000 in
/-- An argument [3]string. -/
theorem open_three {v : Value} {d : DataW H} {ps : List MemPlace} (hval : Value.okWide Try.prog W .any 0 68 v) (h : DataW.Trod enc Try.prog W 0 (fun _ => true) true 68 v d ps) :
    ∃ a b c : Tx, v = .agg #[.string ⟨a.toArray⟩, .string ⟨b.toArray⟩, .string ⟨c.toArray⟩] := by
  obtain ⟨cs, e0, hcs⟩ := okWide_array (P := Try.prog) (t := 68) (e := 9) (n := 3) Try.underlying68 hval
  subst e0
  rw [ra_c68] at hcs
  obtain ⟨fuel, hf⟩ := h
  obtain ⟨a, b, c, e⟩ := open_three_in (l := cs.toList) (by simpa using hcs) hf
  exact ⟨a, b, c, congrArg Value.agg (Array.ext' e)⟩
end
end Go.Proofs.Ytlglfcadoofmpaa
