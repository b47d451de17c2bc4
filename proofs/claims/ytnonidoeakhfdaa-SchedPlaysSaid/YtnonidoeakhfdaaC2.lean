/- Lists that come in as arguments: of ints, of bools. -/
import Derived.Test.YtnonidoeakhfdaaC1
import Derived.Deep.Grids
namespace Go.Proofs.Ytnonidoeakhfdaa
open Go.RowKit Go.ChangeShapes Go.WideShapes Go.ChangeAt
set_option linter.unusedVariables false

/-- A list whose elements have a cell each. -/
structure ListAt {α : Type} (f : α → Value) (w : World) (A : Option Addr) (n c : Nat) (zs : List α) : Prop where
  len : n = zs.length
  cap : n ≤ c ∧ c ≤ maxLen
  at_ : 0 < n → ∃ g off, A = some ⟨g, off, none⟩ ∧ g < w.heap.size ∧ ∀ j (hj : j < zs.length), w.cell? ⟨g, off + j, none⟩ = some (f zs[j])

section
variable {α : Type} {f : α → Value} {w w' : World} {A : Option Addr} {n c : Nat} {zs : List α}
theorem ListAt.cell (h : ListAt f w A n c zs) {k : Nat} (hk : k < n) : ∃ g off, A = some ⟨g, off, none⟩ ∧ ∃ (hj : k < zs.length), w.cell? ⟨g, off + k, none⟩ = some (f zs[k]) := by
  obtain ⟨g, off, e, _, h2⟩ := h.at_ (by omega)
  have hj : k < zs.length := by have := h.len; omega
  exact ⟨g, off, e, hj, h2 k hj⟩
theorem ListAt.of (h : ListAt f w A n c zs) (hk : ∀ g, g < w.heap.size → w'.heap[g]? = w.heap[g]?) (hs : w.heap.size ≤ w'.heap.size) : ListAt f w' A n c zs :=
  ⟨h.len, h.cap, fun hn => by
    obtain ⟨g, off, e, h1, h2⟩ := h.at_ hn
    exact ⟨g, off, e, Nat.lt_of_lt_of_le h1 hs, fun j hj => by rw [World.cell?_of_block (hk g h1)]; exact h2 j hj⟩⟩
end

theorem getD_of {α : Type} (zs : List α) (d : α) (j : Nat) (h : j < zs.length) : zs.getD j d = zs[j] := by simp [List.getD, List.getElem?_eq_getElem h]
theorem Try.c3 : Try.prog.cellsOf 3 = 1 := by set_option maxRecDepth 100000 in kernel_rfl
theorem Try.c4 : Try.prog.cellsOf 4 = 1 := by set_option maxRecDepth 100000 in kernel_rfl

section
variable {H : Type} {enc : TypeId × Value → H}

set_option maxRecDepth 100000 in
theorem open_intsA {W : World} {v : Value} {d : DataW H} {ps : List MemPlace} (hval : Value.okWide Try.prog W .any 0 29 v) (h : DataW.Trod enc Try.prog W 0 (fun _ => true) true 29 v d ps) :
    ∃ A n c zs, v = .slice A n c ∧ ListAt (Value.int .i64) W A n c zs ∧ ∀ z ∈ zs, -9223372036854775808 ≤ z ∧ z ≤ 9223372036854775807 := by
  obtain ⟨a0, len, cap, rfl⟩ := okWide_slice Try.underlying29 hval
  obtain ⟨fuel, hf⟩ := h
  rcases open_ints Try.underlying29 Try.underlying3 Try.c3 hf with ⟨hcs, hx⟩ | ⟨a, len', cap', zs, hcs, _, hl, hm, hz, hx, hcell, hwz⟩
  · simp [Value.cells] at hcs
    obtain ⟨rfl, rfl, rfl⟩ := hcs
    exact ⟨_, _, _, [], rfl, ⟨rfl, ⟨Nat.le_refl _, Nat.zero_le _⟩, fun h => absurd h (by omega)⟩, by simp⟩
  · simp [Value.cells] at hcs
    obtain ⟨rfl, rfl, rfl⟩ := hcs
    simp only [if_true] at hz
    refine ⟨_, _, _, zs.take len, rfl, ⟨by rw [List.length_take]; omega, ⟨hl, hm⟩, fun hn => ?_⟩, fun p hp => wf_i64_bd (hwz p (List.mem_of_mem_take hp))⟩
    obtain ⟨b, off, spot⟩ := a
    have h0 := hcell 0 (by omega)
    have hspot : spot = none := by simpa [Addr.add] using World.cell?_spot h0
    subst hspot
    have hb : b < W.heap.size := by
      simp only [Addr.add, if_true] at h0
      exact World.block_lt_of_cell? W _ h0
    refine ⟨b, off, rfl, hb, fun j hj => ?_⟩
    rw [List.length_take] at hj
    have hc := hcell j (by omega)
    have add : ((⟨b, off, none⟩ : Addr).add j) = ⟨b, off + j, none⟩ := by unfold Addr.add; split <;> simp_all
    rw [add] at hc
    rw [hc, List.getElem_take, getD_of zs 0 j (by omega)]

set_option maxRecDepth 100000 in
theorem open_boolsA {W : World} {v : Value} {d : DataW H} {ps : List MemPlace} (hval : Value.okWide Try.prog W .any 0 50 v) (h : DataW.Trod enc Try.prog W 0 (fun _ => true) true 50 v d ps) :
    ∃ A n c zs, v = .slice A n c ∧ ListAt Value.bool W A n c zs := by
  obtain ⟨a0, len, cap, rfl⟩ := okWide_slice Try.underlying50 hval
  obtain ⟨fuel, hf⟩ := h
  rcases Go.Deep.open_bools Try.underlying50 Try.underlying4 Try.c4 hf with ⟨hcs, hx⟩ | ⟨a, len', cap', B, hcs, _, hl, hm, hx, hcell⟩
  · simp [Value.cells] at hcs
    obtain ⟨rfl, rfl, rfl⟩ := hcs
    exact ⟨_, _, _, [], rfl, ⟨rfl, ⟨Nat.le_refl _, Nat.zero_le _⟩, fun h => absurd h (by omega)⟩⟩
  · simp [Value.cells] at hcs
    obtain ⟨rfl, rfl, rfl⟩ := hcs
    refine ⟨_, _, _, (List.range len).map B, rfl, ⟨by simp, ⟨hl, hm⟩, fun hn => ?_⟩⟩
    obtain ⟨b, off, spot⟩ := a
    have h0 := hcell 0 (by omega)
    have hspot : spot = none := by simpa [Addr.add] using World.cell?_spot h0
    subst hspot
    have hb : b < W.heap.size := by
      simp only [Addr.add, if_true] at h0
      exact World.block_lt_of_cell? W _ h0
    refine ⟨b, off, rfl, hb, fun j hj => ?_⟩
    rw [List.length_map, List.length_range] at hj
    have hc := hcell j (by omega)
    have add : ((⟨b, off, none⟩ : Addr).add j) = ⟨b, off + j, none⟩ := by unfold Addr.add; split <;> simp_all
    rw [add] at hc
    rw [hc]; simp
end

end Go.Proofs.Ytnonidoeakhfdaa
