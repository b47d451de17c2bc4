/- What is taken keeps its measure. -/
import Derived.Test.YtlpglijikmnopaaGreatDoorUG14
namespace Go.Proofs.YtlpglijikmnopaaGreatDoor
open Go.RowKit Go.Maps Go.Sort Go.Proofs
set_option linter.unusedVariables false

theorem Lok.take {l : List Pt} (h : Lok l) {ns : List Int} (hn : ∀ n ∈ ns, i64' n) : Lok (takeL l ns) := ⟨takeL_ok h.1 hn, by rw [takeL_len]; exact h.2⟩
theorem zero_ok : Pt.zero.ok := by unfold Pt.zero Pt.ok Sm.ok i64'; simp
theorem new_lok (m : Int) : Lok (newA m).parts := by
  unfold newA
  refine ⟨fun p hp => ?_, ?_⟩
  · rw [(List.mem_replicate.1 hp).2]; exact zero_ok
  · simp only [List.length_replicate]
    omega
theorem IR.i64s {K : Nat → Prop} {w : World} {v : Value} {l : List Int} (h : IR K w v l) : ∀ n ∈ l, i64' n := by
  obtain ⟨A, c, rfl, -⟩ := h.form
  intro n hn
  obtain ⟨j, hj, e⟩ := List.getElem_of_mem hn
  obtain ⟨_, _, _, _, _, _, h6⟩ := IR.at_ h hj
  rw [e] at h6
  exact h6
theorem atK_mem : ∀ {l : List Rw} {k : Ky} {a : Ac}, atK l k = some a → ∃ r ∈ l, r.acc = a
  | [], k, a, h => by cases h
  | r :: l, k, a, h => by
    rw [atK_cons] at h
    split at h
    · exact ⟨r, List.mem_cons_self, Option.some.inj h⟩
    · obtain ⟨s, hs, e⟩ := atK_mem h
      exact ⟨s, List.mem_cons_of_mem _ hs, e⟩
theorem Wf.at_ {l : List Rw} (h : Wf l) {k : Ky} {z : Ac} (hz : Lok z.parts) : Lok ((atK l k).getD z).parts := by
  cases hk : atK l k with
  | none => exact hz
  | some a =>
    obtain ⟨r, hr, e⟩ := atK_mem hk
    rw [Option.getD_some, ← e]
    exact h r hr
theorem Wf.upd {l : List Rw} (h : Wf l) {k : Ky} {z : Ac} (hz : Lok z.parts) {ns : List Int} (hn : ∀ n ∈ ns, i64' n) : Wf (updG takeA z l k ns) := by
  unfold updG
  exact (h.row hz k).setA _ ((h.at_ hz).take hn)
theorem Wf.nil : Wf [] := fun _ h => by cases h
/-- Groups without rows: their own rows may begin later. -/
theorem Gs.raise {b g m n0 n1 : Nat} {z : Ac} {w : World} (h : Gs b g m n0 z (.slice none 0 0) [] w) (h1 : n0 ≤ n1) (h2 : n1 ≤ w.heap.size) : Gs b g m n1 z (.slice none 0 0) [] w := by
  obtain ⟨zv, hb, hz⟩ := h.blk
  have := h.ap
  exact ⟨⟨zv, hb, hz.mono' fun k hk _ => ⟨⟨hk.1, by omega, hk.2.2⟩, rfl⟩⟩, h.rows, h.map, (fun k hk => by cases hk), by omega⟩
end Go.Proofs.YtlpglijikmnopaaGreatDoor
