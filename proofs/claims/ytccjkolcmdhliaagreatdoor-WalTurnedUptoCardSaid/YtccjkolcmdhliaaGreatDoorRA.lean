/- Rows of strings and of Booleans as arguments, with what they weigh: opened. -/
import Derived.Test.YtccjkolcmdhliaaGreatDoorRK
import Derived.Test.YtccjkolcmdhliaaGreatDoorM6
import Derived.Carry
namespace Go.Proofs.YtccjkolcmdhliaaGreatDoor
open Go.RowKit Go.ChangeShapes Go.WideShapes Go.ChangeAt
set_option linter.unusedVariables false

theorem ra_laidOut : laidOutB Tryz.prog = true := by kernel_rfl
theorem ra_c9 : Tryz.prog.cellsOf 9 = 1 := by set_option maxRecDepth 100000 in kernel_rfl
theorem ra_c4 : Tryz.prog.cellsOf 4 = 1 := by set_option maxRecDepth 100000 in kernel_rfl
section
variable {H : Type} {enc : TypeId × Value → H}
theorem bulk_one (d : DataW H) : 1 ≤ Rows.uptoBulk d := by
  cases d with
  | lit l => cases l <;> simp [Rows.uptoBulk]
  | nil => simp [Rows.uptoBulk]
  | ptr d => simp [Rows.uptoBulk]
  | slice elems spare => simp [Rows.uptoBulk]
  | agg parts => simp [Rows.uptoBulk]
  | iface t d => simp [Rows.uptoBulk]
  | map entries => simp [Rows.uptoBulk]
  | held h => simp [Rows.uptoBulk]
theorem bulk_sum {α : Type} (f : Nat → α) (β : α → Nat) (D : Nat → DataW H) : ∀ L : List Nat, (∀ i ∈ L, β (f i) ≤ Rows.uptoBulk (D i)) → ((L.map f).map β).sum ≤ Rows.uptoBulkAll (L.map D)
  | [], _ => by simp
  | i :: L, h => by
    have h1 := h i (by simp)
    have h2 := bulk_sum f β D L fun j hj => h j (by simp [hj])
    simp only [List.map_cons, List.sum_cons, Rows.uptoBulkAll]
    omega
theorem bulk_part {d : DataW H} : ∀ {l : List (DataW H)}, d ∈ l → Rows.uptoBulk d ≤ Rows.uptoBulkAll l
  | [], h => by cases h
  | x :: l, h => by
    simp only [Rows.uptoBulkAll]
    rcases List.mem_cons.1 h with rfl | h
    · omega
    · have := bulk_part h; omega
/-- Any row, its elements opened by a way of their own, and what it weighs. -/
theorem open_rowB {α : Type} [Inhabited α] {W : World} (E : α → List Value → Prop) (β : α → Nat) (t e size : Nat) (ht : Tryz.prog.underlying t = some (.slice e)) (hsz : Tryz.prog.cellsOf e = size) (h0 : 0 < size)
    (hE : ∀ fuel cs x, cs.length = size → DataW.trod enc Tryz.prog W 0 (fun _ => true) true fuel e cs = some x → ∃ y, E y cs ∧ β y ≤ Rows.uptoBulk x.1)
    {fuel : Nat} {cs : List Value} {x : DataW H × List MemPlace} (h : DataW.trod enc Tryz.prog W 0 (fun _ => true) true fuel t cs = some x) :
    ∃ v l, cs = [v] ∧ RowE (fun k => k < W.heap.size) W size E v l ∧ (l.map β).sum ≤ Rows.uptoBulk x.1 := by
  rcases Go.Deep.open_slice ht h with ⟨rfl, rfl⟩ | ⟨a, len, cap, m, n, D, Pl, rfl, hbs, hl, hm, hmm, rfl, hi⟩
  · exact ⟨_, [], rfl, RowE.nil _ _ _ _ _, by simp⟩
  · simp only [if_true] at hmm
    rw [hsz] at hi
    simp only [Rows.uptoBulk]
    have hel : ∀ i, ∃ y : α, i < len → (∃ cs' : List Value, cs'.length = size ∧ (∀ j, j < size → W.cell? ((a.add (i * size)).add j) = cs'[j]?) ∧ E y cs') ∧ β y ≤ Rows.uptoBulk (D i) := by
      intro i
      by_cases hil : i < len
      · obtain ⟨cs', hc, htr⟩ := hi i (by omega)
        obtain ⟨_, hlen, hat⟩ := World.cells?_some hc
        obtain ⟨y, hy, hw⟩ := hE _ _ _ hlen htr
        exact ⟨y, fun _ => ⟨⟨cs', hlen, hat, hy⟩, hw⟩⟩
      · exact ⟨default, fun h => absurd h hil⟩
    obtain ⟨f, hf⟩ := Classical.axiomOfChoice hel
    refine ⟨_, (List.range len).map f, rfl, ⟨some a, cap, by simp, by simp; omega, fun hl0 => ?_⟩, ?_⟩
    · have hlen0 : 0 < len := by simpa using hl0
      obtain ⟨cs0, hl1, hc0, _⟩ := (hf 0 hlen0).1
      have hc00 := hc0 0 h0
      rw [List.getElem?_eq_getElem (by omega)] at hc00
      obtain ⟨b, off, spot⟩ := a
      have hspot : spot = none := by simpa [Addr.add] using World.cell?_spot hc00
      subst hspot
      refine ⟨b, off, rfl, ?_, fun j hj => ?_⟩
      · have := World.block_lt_of_cell? W _ hc00
        simpa [Addr.add] using this
      · rw [List.length_map, List.length_range] at hj
        obtain ⟨cs', h1, h2, h3⟩ := (hf j hj).1
        refine ⟨cs', h1, fun i hi' => ?_, by rw [List.getElem_map, List.getElem_range]; exact h3⟩
        have := h2 i hi'
        rw [Addr.add_lit, Addr.add_lit] at this
        exact this
    · have := bulk_sum f β D (List.range len) fun i hi => (hf i (List.mem_range.1 hi)).2
      omega
variable {W : World}
theorem open_strW (fuel : Nat) (cs : List Value) (x : DataW H × List MemPlace) (hl : cs.length = 1) (h : DataW.trod enc Tryz.prog W 0 (fun _ => true) true fuel 9 cs = some x) : ∃ y, strE y cs ∧ y.length ≤ Rows.uptoBulk x.1 := by
  obtain ⟨s, e4, rfl, w4⟩ := DataW.trod_string Tryz.underlying9 h
  refine ⟨s.data.toList, ⟨e4, (Array.length_toList (xs := s.data)).symm ▸ w4⟩, ?_⟩
  simp only [Rows.uptoBulk]
  omega
def boolR (b : Bool) (cs : List Value) : Prop := cs = [.bool b]
theorem open_boolW (fuel : Nat) (cs : List Value) (x : DataW H × List MemPlace) (hl : cs.length = 1) (h : DataW.trod enc Tryz.prog W 0 (fun _ => true) true fuel 4 cs = some x) : ∃ y, boolR y cs ∧ 0 ≤ Rows.uptoBulk x.1 := by
  obtain ⟨b, e, _⟩ := DataW.trod_bool Tryz.underlying4 h
  exact ⟨b, e, Nat.zero_le _⟩
set_option maxRecDepth 100000 in
/-- An argument []string, and what it weighs. -/
theorem open_strsA {v : Value} {d : DataW H} {ps : List MemPlace} (hval : Value.okWide Tryz.prog W .any 0 46 v) (h : DataW.Trod enc Tryz.prog W 0 (fun _ => true) true 46 v d ps) :
    ∃ l, RowE (fun k => k < W.heap.size) W 1 strE v l ∧ (l.map List.length).sum ≤ Rows.uptoBulk d := by
  obtain ⟨a0, len, cap, rfl⟩ := okWide_slice Tryz.underlying46 hval
  obtain ⟨fuel, hf⟩ := h
  obtain ⟨v', l, e1, hr, hw⟩ := open_rowB strE List.length 46 9 1 Tryz.underlying46 ra_c9 (by omega) open_strW hf
  have e2 : v' = .slice a0 len cap := by simpa [Value.cells] using e1.symm
  subst e2
  exact ⟨l, hr, hw⟩
set_option maxRecDepth 100000 in
/-- An argument []bool. -/
theorem open_boolsA {v : Value} {d : DataW H} {ps : List MemPlace} (hval : Value.okWide Tryz.prog W .any 0 73 v) (h : DataW.Trod enc Tryz.prog W 0 (fun _ => true) true 73 v d ps) :
    ∃ l, RowE (fun k => k < W.heap.size) W 1 boolR v l := by
  obtain ⟨a0, len, cap, rfl⟩ := okWide_slice Tryz.underlying73 hval
  obtain ⟨fuel, hf⟩ := h
  obtain ⟨v', l, e1, hr, hw⟩ := open_rowB boolR (fun _ => 0) 73 4 1 Tryz.underlying73 ra_c4 (by omega) open_boolW hf
  have e2 : v' = .slice a0 len cap := by simpa [Value.cells] using e1.symm
  subst e2
  exact ⟨l, hr⟩
end
end Go.Proofs.YtccjkolcmdhliaaGreatDoor
