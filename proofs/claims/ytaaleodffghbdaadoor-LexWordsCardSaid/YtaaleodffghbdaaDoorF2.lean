/- LexCase, walked. -/
import Derived.Test.YtaaleodffghbdaaDoorF1
import Derived.Test.YtaaleodffghbdaaDoorE3
import Derived.Laws.IdiomStrings
namespace Go.Proofs.YtaaleodffghbdaaDoor
open Go.RowKit Go.Maps
set_option linter.unusedVariables false

/-- The bytes of a text, the first n of them changed, in a block. -/
structure Rcs (w : World) (g n : Nat) (t : Tx) : Prop where
  cell : ∀ j b, (rcN n t)[j]? = some b → w.cell? ⟨g, j, none⟩ = some (.int .u8 (b.toNat : Nat))
  frz : ∀ j, j < t.length → w.frozen? ⟨g, j, none⟩ = false
  lt : g < w.heap.size
theorem rcN_next_odd {n : Nat} {t : Tx} (hn : n < t.length) (ho : n % 2 = 1) (j : Nat) (b : UInt8) (h : (rcN (n + 1) t)[j]? = some b) : if j = n then b = t[n] + 32 else (rcN n t)[j]? = some b := by
  have hj : j < t.length := by have := (List.getElem?_eq_some_iff.1 h).1; rwa [rcN_len] at this
  rw [rcN_at _ t j hj] at h
  split
  · rename_i e
    subst e
    rw [if_pos ⟨by omega, ho⟩] at h
    exact (Option.some.inj h).symm
  · rename_i e
    rw [rcN_at _ t j hj, ← h]
    by_cases h1 : j < n ∧ j % 2 = 1
    · rw [if_pos h1, if_pos ⟨by omega, h1.2⟩]
    · rw [if_neg h1, if_neg (fun h2 => h1 ⟨by omega, h2.2⟩)]
theorem rcN_next_even {n : Nat} {t : Tx} (ho : ¬ n % 2 = 1) : rcN (n + 1) t = rcN n t := by
  apply List.ext_getElem?
  intro j
  rcases Nat.lt_or_ge j t.length with h | h
  · rw [rcN_at _ t j h, rcN_at _ t j h]
    by_cases h1 : j < n ∧ j % 2 = 1
    · rw [if_pos h1, if_pos ⟨by omega, h1.2⟩]
    · rw [if_neg h1, if_neg (fun h2 => h1 ⟨by
        rcases Nat.lt_or_eq_of_le (Nat.le_of_lt_succ h2.1) with h3 | rfl
        · exact h3
        · exact absurd h2.2 ho, h2.2⟩)]
  · rw [List.getElem?_eq_none (by rw [rcN_len]; exact h), List.getElem?_eq_none (by rw [rcN_len]; exact h)]
theorem Rcs.set_ {w : World} {g n : Nat} {t : Tx} (h : Rcs w g n t) (hn : n < t.length) (ho : n % 2 = 1) (u : Value) (hu : u = .int .u8 ((t[n] + 32).toNat : Nat)) : Rcs (w.setCell ⟨g, n, none⟩ u) g (n + 1) t where
  cell := fun j b hj => by
    have h1 := rcN_next_odd hn ho j b hj
    have hjl : j < t.length := by have := (List.getElem?_eq_some_iff.1 hj).1; rwa [rcN_len] at this
    split at h1
    · rename_i e
      subst e
      rw [h1, ← hu]
      have hold : w.cell? ⟨g, j, none⟩ = some _ := h.cell j _ (rcN_at _ t j hn)
      simp only [World.cell?] at hold ⊢
      obtain ⟨o, ho1⟩ : ∃ o, w.heap[g]? = some o := by
        cases hh : w.heap[g]? with
        | none => rw [hh] at hold; simp at hold
        | some o => exact ⟨o, rfl⟩
      simp only [World.setCell, Array.getElem?_modify, if_true, ho1, Option.map_some] at hold ⊢
      cases o <;> simp_all [Array.getElem?_setIfInBounds]
      exact (Array.getElem?_eq_some_iff.1 hold).1
    · rename_i e
      rw [← h.cell j b h1]
      simp only [World.cell?, World.setCell, Array.getElem?_modify, if_true]
      cases hh : w.heap[g]? with
      | none => rfl
      | some o => cases o <;> simp [Ne.symm e]
  frz := fun j hj => by
    have := h.frz j hj
    simp only [World.frozen?, World.setCell, Array.getElem?_modify, if_true] at this ⊢
    cases hh : w.heap[g]? with
    | none => simp
    | some o => rw [hh] at this; cases o <;> simp_all
  lt := by simp [World.setCell]; exact h.lt
theorem add32 : ∀ b : UInt8, b.toNat ≤ 90 → (b + 32).toNat = b.toNat + 32 := all_bytes (p := fun b => b.toNat ≤ 90 → (b + 32).toNat = b.toNat + 32) (by decide +kernel)
theorem rcs_new (w : World) (s : ByteArray) (cap : Nat) (hc : s.size ≤ cap) : Rcs (w.drew.alloc (.cells (bytesRow s cap) 5 ((bytesRow s cap).size, (bytesRow s cap).size + 1))) w.heap.size 0 s.data.toList := by
  refine ⟨fun j b hj => ?_, fun j hj => ?_, ?_⟩
  · rw [rcN_zero] at hj
    have := World.cell?_alloc_mark w.drew (bytesRow s cap) 5 ((bytesRow s cap).size, (bytesRow s cap).size + 1) j
    have hjl : j < s.data.toList.length := (List.getElem?_eq_some_iff.1 hj).1
    rw [show (⟨w.heap.size, j, none⟩ : Addr) = ⟨w.drew.heap.size, j, none⟩ from rfl, this]
    unfold bytesRow
    rw [Array.getElem?_append_left (by simpa using hjl), Array.getElem?_map, ← Array.getElem?_toList, hj]; rfl
  · have hsz : s.size ≤ (bytesRow s cap).size := by unfold bytesRow; rw [Array.size_append, Array.size_map]; exact Nat.le_add_right _ _
    rw [len_data] at hj
    have hh : (w.drew.alloc (.cells (bytesRow s cap) 5 ((bytesRow s cap).size, (bytesRow s cap).size + 1))).heap[w.heap.size]? = some (.cells (bytesRow s cap) 5 ((bytesRow s cap).size, (bytesRow s cap).size + 1)) := by
      show (w.heap.push _)[w.heap.size]? = _
      simp
    simp only [World.frozen?, hh]
    simp; omega
  · show w.heap.size < (w.heap.push _).size
    simp
end Go.Proofs.YtaaleodffghbdaaDoor
