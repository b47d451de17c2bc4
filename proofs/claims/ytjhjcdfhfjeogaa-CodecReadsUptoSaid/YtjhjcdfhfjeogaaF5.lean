/- A list of things, as an argument: opened. -/
import Derived.Test.YtjhjcdfhfjeogaaF3
import Derived.Test.YtjhjcdfhfjeogaaE3
import Derived.Deep.Slices
import Derived.Deep.Fields
namespace Go.Proofs.Ytjhjcdfhfjeogaa
open Go.RowKit Go.ChangeShapes Go.WideShapes Go.ChangeAt
set_option linter.unusedVariables false

theorem Try.c2 : Try.prog.cellsOf 2 = 1 := by set_option maxRecDepth 100000 in kernel_rfl
theorem Try.c3 : Try.prog.cellsOf 3 = 1 := by set_option maxRecDepth 100000 in kernel_rfl
theorem Try.c9 : Try.prog.cellsOf 9 = 1 := by set_option maxRecDepth 100000 in kernel_rfl
theorem Try.c54 : Try.prog.cellsOf 54 = 1 := by set_option maxRecDepth 100000 in kernel_rfl
theorem Try.c55 : Try.prog.cellsOf 55 = 1 := by set_option maxRecDepth 100000 in kernel_rfl
theorem Try.c56 : Try.prog.cellsOf 56 = 1 := by set_option maxRecDepth 100000 in kernel_rfl
theorem Try.c97 : Try.prog.cellsOf 97 = 1 := by set_option maxRecDepth 100000 in kernel_rfl
theorem Try.c93 : Try.prog.cellsOf 93 = 3 := by set_option maxRecDepth 100000 in kernel_rfl
theorem Try.c99 : Try.prog.cellsOf 99 = 2 := by set_option maxRecDepth 100000 in kernel_rfl
theorem Try.c58 : Try.prog.cellsOf 58 = 7 := by set_option maxRecDepth 100000 in kernel_rfl

section
variable {H : Type} {enc : TypeId × Value → H}

/-- Any row, its elements opened by a way of their own. -/
theorem open_rowE {α : Type} [Inhabited α] {W : World} (E : α → List Value → Prop) (t e size : Nat) (ht : Try.prog.underlying t = some (.slice e)) (hsz : Try.prog.cellsOf e = size) (h0 : 0 < size)
    (hE : ∀ fuel cs x, cs.length = size → DataW.trod enc Try.prog W 0 (fun _ => true) true fuel e cs = some x → ∃ y, E y cs)
    {fuel : Nat} {cs : List Value} {x : DataW H × List MemPlace} (h : DataW.trod enc Try.prog W 0 (fun _ => true) true fuel t cs = some x) :
    ∃ v l, cs = [v] ∧ RowE (fun k => k < W.heap.size) W size E v l := by
  rcases Go.Deep.open_slice ht h with ⟨rfl, _⟩ | ⟨a, len, cap, m, n, D, Pl, rfl, hb, hl, hm, hmm, hx, hi⟩
  · exact ⟨_, [], rfl, RowE.nil _ _ _ _ _⟩
  · simp only [if_true] at hmm
    rw [hsz] at hi
    have hel : ∀ i, ∃ y : α, i < len → ∃ cs' : List Value, cs'.length = size ∧ (∀ j, j < size → W.cell? ((a.add (i * size)).add j) = cs'[j]?) ∧ E y cs' := by
      intro i
      by_cases hil : i < len
      · obtain ⟨cs', hc, htr⟩ := hi i (by omega)
        obtain ⟨_, hlen, hat⟩ := World.cells?_some hc
        obtain ⟨y, hy⟩ := hE _ _ _ hlen htr
        exact ⟨y, fun _ => ⟨cs', hlen, hat, hy⟩⟩
      · exact ⟨default, fun h => absurd h hil⟩
    obtain ⟨f, hf⟩ := Classical.axiomOfChoice hel
    refine ⟨_, (List.range len).map f, rfl, some a, cap, by simp, by simp; omega, fun hl0 => ?_⟩
    have hlen0 : 0 < len := by simpa using hl0
    obtain ⟨cs0, hl1, hc0, _⟩ := hf 0 hlen0
    have hc00 := hc0 0 h0
    rw [List.getElem?_eq_getElem (by omega)] at hc00
    obtain ⟨b, off, spot⟩ := a
    have hspot : spot = none := by simpa [Addr.add] using World.cell?_spot hc00
    subst hspot
    refine ⟨b, off, rfl, ?_, fun j hj => ?_⟩
    · have := World.block_lt_of_cell? W _ hc00
      simpa [Addr.add] using this
    · rw [List.length_map, List.length_range] at hj
      obtain ⟨cs', h1, h2, h3⟩ := hf j hj
      refine ⟨cs', h1, fun i hi' => ?_, by rw [List.getElem_map, List.getElem_range]; exact h3⟩
      have := h2 i hi'
      rw [Addr.add_lit, Addr.add_lit] at this
      exact this

theorem len2 {cs : List Value} (h : cs.length = 2) : ∃ a b, cs = [a, b] := by
  match cs, h with
  | [a, b], _ => exact ⟨a, b, rfl⟩
theorem len3 {cs : List Value} (h : cs.length = 3) : ∃ a b c, cs = [a, b, c] := by
  match cs, h with
  | [a, b, c], _ => exact ⟨a, b, c, rfl⟩
theorem len7 {cs : List Value} (h : cs.length = 7) : ∃ a b c d e f g, cs = [a, b, c, d, e, f, g] := by
  match cs, h with
  | [a, b, c, d, e, f, g], _ => exact ⟨a, b, c, d, e, f, g, rfl⟩
theorem one_eq {a v : Value} (h : [a] = [v]) : a = v := by injection h

variable {W : World}
theorem open_strE (fuel : Nat) (cs : List Value) (x : DataW H × List MemPlace) (hl : cs.length = 1) (h : DataW.trod enc Try.prog W 0 (fun _ => true) true fuel 9 cs = some x) : ∃ y, strE y cs := by
  obtain ⟨s, e4, r4, w4⟩ := DataW.trod_string Try.underlying9 h
  exact ⟨s.data.toList, e4, (Array.length_toList (xs := s.data)).symm ▸ w4⟩
theorem open_intE (fuel : Nat) (cs : List Value) (x : DataW H × List MemPlace) (hl : cs.length = 1) (h : DataW.trod enc Try.prog W 0 (fun _ => true) true fuel 2 cs = some x) : ∃ y, intE y cs := by
  obtain ⟨n, e, r, w⟩ := DataW.trod_int Try.underlying2 h
  exact ⟨n, e, wf_i64_bd w⟩
theorem open_strs {fuel : Nat} {cs : List Value} {x : DataW H × List MemPlace} (h : DataW.trod enc Try.prog W 0 (fun _ => true) true fuel 54 cs = some x) : ∃ v l, cs = [v] ∧ RowE (fun k => k < W.heap.size) W 1 strE v l :=
  open_rowE strE 54 9 1 Try.underlying54 Try.c9 (by omega) open_strE h
theorem open_ints {fuel : Nat} {cs : List Value} {x : DataW H × List MemPlace} (h : DataW.trod enc Try.prog W 0 (fun _ => true) true fuel 97 cs = some x) : ∃ v l, cs = [v] ∧ RowE (fun k => k < W.heap.size) W 1 intE v l :=
  open_rowE intE 97 2 1 Try.underlying97 Try.c2 (by omega) open_intE h
set_option maxRecDepth 100000 in
theorem open_cellE (fuel : Nat) (cs : List Value) (x : DataW H × List MemPlace) (hl : cs.length = 3) (h : DataW.trod enc Try.prog W 0 (fun _ => true) true fuel 93 cs = some x) : ∃ y, cellE y cs := by
  obtain ⟨xs, n, _, hx, hlen, hxl, hg⟩ := DataW.trod_struct Try.underlying93 h
  obtain ⟨a, b, c, rfl⟩ := len3 hl
  have hx3 : xs.length = 3 := hxl
  match xs, hx3 with
  | [x0, x1, x2], _ =>
    have g0 : DataW.trod enc Try.prog W 0 (fun _ => true) true n 3 (([a, b, c].drop 0).take (Try.prog.cellsOf 3)) = some x0 := hg 0 _ rfl
    have g1 : DataW.trod enc Try.prog W 0 (fun _ => true) true n 2 (([a, b, c].drop 1).take (Try.prog.cellsOf 2)) = some x1 := hg 1 _ rfl
    have g2 : DataW.trod enc Try.prog W 0 (fun _ => true) true n 9 (([a, b, c].drop 2).take (Try.prog.cellsOf 9)) = some x2 := hg 2 _ rfl
    rw [Try.c3] at g0
    rw [Try.c2] at g1
    rw [Try.c9] at g2
    obtain ⟨n0, e0, _, w0⟩ := DataW.trod_int Try.underlying3 g0
    obtain ⟨n1, e1, _, w1⟩ := DataW.trod_int Try.underlying2 g1
    obtain ⟨s, e2, _, w2⟩ := DataW.trod_string Try.underlying9 g2
    obtain rfl := one_eq e0
    obtain rfl := one_eq e1
    obtain rfl := one_eq e2
    exact ⟨⟨n0, n1, s.data.toList⟩, rfl, wf_i64_bd w0, wf_i64_bd w1, (Array.length_toList (xs := s.data)).symm ▸ w2⟩
instance : Inhabited CellP := ⟨CellP.zero⟩
instance : Inhabited FactP := ⟨FactP.zero⟩
instance : Inhabited ThingP := ⟨⟨0, 0, [], [], [], [], []⟩⟩
theorem open_cells {fuel : Nat} {cs : List Value} {x : DataW H × List MemPlace} (h : DataW.trod enc Try.prog W 0 (fun _ => true) true fuel 55 cs = some x) : ∃ v l, cs = [v] ∧ RowE (fun k => k < W.heap.size) W 3 cellE v l :=
  open_rowE cellE 55 93 3 Try.underlying55 Try.c93 (by omega) open_cellE h
set_option maxRecDepth 100000 in
theorem open_factE (fuel : Nat) (cs : List Value) (x : DataW H × List MemPlace) (hl : cs.length = 2) (h : DataW.trod enc Try.prog W 0 (fun _ => true) true fuel 99 cs = some x) : ∃ y, factE (fun k => k < W.heap.size) W y cs := by
  obtain ⟨xs, n, _, hx, hlen, hxl, hg⟩ := DataW.trod_struct Try.underlying99 h
  obtain ⟨a, b, rfl⟩ := len2 hl
  have hx3 : xs.length = 2 := hxl
  match xs, hx3 with
  | [x0, x1], _ =>
    have g0 : DataW.trod enc Try.prog W 0 (fun _ => true) true n 54 (([a, b].drop 0).take (Try.prog.cellsOf 54)) = some x0 := hg 0 _ rfl
    have g1 : DataW.trod enc Try.prog W 0 (fun _ => true) true n 97 (([a, b].drop 1).take (Try.prog.cellsOf 97)) = some x1 := hg 1 _ rfl
    rw [Try.c54] at g0
    rw [Try.c97] at g1
    obtain ⟨v0, l0, e0, r0⟩ := open_strs g0
    obtain ⟨v1, l1, e1, r1⟩ := open_ints g1
    obtain rfl := one_eq e0
    obtain rfl := one_eq e1
    exact ⟨⟨l0, l1⟩, _, _, rfl, r0, r1⟩
theorem open_facts {fuel : Nat} {cs : List Value} {x : DataW H × List MemPlace} (h : DataW.trod enc Try.prog W 0 (fun _ => true) true fuel 56 cs = some x) : ∃ v l, cs = [v] ∧ RowE (fun k => k < W.heap.size) W 2 (factE (fun k => k < W.heap.size) W) v l :=
  open_rowE _ 56 99 2 Try.underlying56 Try.c99 (by omega) open_factE h
set_option maxRecDepth 100000 in
theorem open_thingE (fuel : Nat) (cs : List Value) (x : DataW H × List MemPlace) (hl : cs.length = 7) (h : DataW.trod enc Try.prog W 0 (fun _ => true) true fuel 58 cs = some x) : ∃ y, thingE (fun k => k < W.heap.size) W y cs := by
  obtain ⟨xs, n, _, hx, hlen, hxl, hg⟩ := DataW.trod_struct Try.underlying58 h
  obtain ⟨a, b, c, d, e, f, g, rfl⟩ := len7 hl
  have hx3 : xs.length = 7 := hxl
  match xs, hx3 with
  | [x0, x1, x2, x3, x4, x5, x6], _ =>
    have g0 : DataW.trod enc Try.prog W 0 (fun _ => true) true n 3 (([a, b, c, d, e, f, g].drop 0).take (Try.prog.cellsOf 3)) = some x0 := hg 0 _ rfl
    have g1 : DataW.trod enc Try.prog W 0 (fun _ => true) true n 2 (([a, b, c, d, e, f, g].drop 1).take (Try.prog.cellsOf 2)) = some x1 := hg 1 _ rfl
    have g2 : DataW.trod enc Try.prog W 0 (fun _ => true) true n 9 (([a, b, c, d, e, f, g].drop 2).take (Try.prog.cellsOf 9)) = some x2 := hg 2 _ rfl
    have g3 : DataW.trod enc Try.prog W 0 (fun _ => true) true n 54 (([a, b, c, d, e, f, g].drop 3).take (Try.prog.cellsOf 54)) = some x3 := hg 3 _ rfl
    have g4 : DataW.trod enc Try.prog W 0 (fun _ => true) true n 55 (([a, b, c, d, e, f, g].drop 4).take (Try.prog.cellsOf 55)) = some x4 := hg 4 _ rfl
    have g5 : DataW.trod enc Try.prog W 0 (fun _ => true) true n 56 (([a, b, c, d, e, f, g].drop 5).take (Try.prog.cellsOf 56)) = some x5 := hg 5 _ rfl
    have g6 : DataW.trod enc Try.prog W 0 (fun _ => true) true n 54 (([a, b, c, d, e, f, g].drop 6).take (Try.prog.cellsOf 54)) = some x6 := hg 6 _ rfl
    rw [Try.c3] at g0
    rw [Try.c2] at g1
    rw [Try.c9] at g2
    rw [Try.c54] at g3 g6
    rw [Try.c55] at g4
    rw [Try.c56] at g5
    obtain ⟨n0, e0, _, w0⟩ := DataW.trod_int Try.underlying3 g0
    obtain ⟨n1, e1, _, w1⟩ := DataW.trod_int Try.underlying2 g1
    obtain ⟨s, e2, _, w2⟩ := DataW.trod_string Try.underlying9 g2
    obtain ⟨v3, l3, e3, r3⟩ := open_strs g3
    obtain ⟨v4, l4, e4, r4⟩ := open_cells g4
    obtain ⟨v5, l5, e5, r5⟩ := open_facts g5
    obtain ⟨v6, l6, e6, r6⟩ := open_strs g6
    obtain rfl := one_eq e0
    obtain rfl := one_eq e1
    obtain rfl := one_eq e2
    obtain rfl := one_eq e3
    obtain rfl := one_eq e4
    obtain rfl := one_eq e5
    obtain rfl := one_eq e6
    exact ⟨⟨n0, n1, s.data.toList, l3, l4, l5, l6⟩, _, _, _, _, rfl, wf_i64_bd w0, wf_i64_bd w1, (Array.length_toList (xs := s.data)).symm ▸ w2, r3, r4, r5, r6⟩
set_option maxRecDepth 100000 in
theorem open_things {v : Value} {d : DataW H} {ps : List MemPlace} (hval : Value.okWide Try.prog W .any 0 49 v) (h : DataW.Trod enc Try.prog W 0 (fun _ => true) true 49 v d ps) :
    ∃ A n c ts, v = .slice A n c ∧ List.length ts = n ∧ n ≤ maxLen ∧ RowE (fun k => k < W.heap.size) W 7 (thingE (fun k => k < W.heap.size) W) (.slice A n c) ts := by
  obtain ⟨a0, len, cap, rfl⟩ := okWide_slice Try.underlying49 hval
  obtain ⟨fuel, hf⟩ := h
  obtain ⟨v', ts, e1, hr⟩ := open_rowE _ 49 58 7 Try.underlying49 Try.c58 (by omega) open_thingE hf
  have e2 : v' = .slice a0 len cap := by simpa [Value.cells] using e1.symm
  subst e2
  obtain ⟨A, c, e3, hm, r⟩ := hr
  injection e3 with e4 e5 e6
  subst e4; subst e5; subst e6
  exact ⟨_, _, _, ts, rfl, rfl, hm, _, _, rfl, hm, r⟩
end
end Go.Proofs.Ytjhjcdfhfjeogaa
