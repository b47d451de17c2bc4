/- Opening a list of strings, with the form's own bound on each. -/
import Derived.Test.YtlopbhamlhmpbaaC8
import Derived.SizedLaws
namespace Go.Proofs.Ytlopbhamlhmpbaa
open Go.RowKit Go.ChangeShapes Go.WideShapes Go.ChangeAt
set_option linter.unusedVariables false

section
variable {H : Type} {enc : TypeId × Value → H}

theorem weights_strs : ∀ (zs : List ByteArray) (s : ByteArray), s ∈ zs → s.data.toList.length ∈ DataW.weightsAll (H := H) Try.prog 9 (strs zs)
  | [], s, h => by cases h
  | z :: zs, s, h => by
    show _ ∈ DataW.weightsAll Try.prog 9 (.lit (.string z.data.toList) :: strs zs)
    rw [DataW.weightsAll]
    rcases List.mem_cons.1 h with rfl | h
    · exact List.mem_append_left _ (by rw [DataW.weights]; simp)
    · exact List.mem_append_right _ (weights_strs zs s h)

set_option maxRecDepth 100000 in
theorem open_strs_sized {W : World} {v : Value} {d : DataW H} {ps : List MemPlace} (hval : Value.okWide Try.prog W .any 0 38 v) (h : DataW.Trod enc Try.prog W 0 (fun _ => true) true 38 v d ps) (hsz : ∀ n ∈ d.weights Try.prog 38, n ≤ reachBytes) :
    ∃ A n c g zs, v = .slice A n c ∧ StrsAt W g A n c zs ∧ ∀ s ∈ zs, s.length ≤ 140737488355328 := by
  obtain ⟨a0, len, cap, rfl⟩ := okWide_slice Try.underlying38 hval
  obtain ⟨fuel, hf⟩ := h
  rcases open_strings Try.underlying38 Try.underlying9 Try.c9 hf with ⟨hcs, hx⟩ | ⟨a, len', cap', zs, hcs, _, hl, hm, hz, hx, hcell, hwz⟩
  · simp [Value.cells] at hcs
    obtain ⟨rfl, rfl, rfl⟩ := hcs
    exact ⟨_, _, _, 0, [], rfl, ⟨rfl, ⟨Nat.le_refl _, Nat.zero_le _⟩, by simp, fun h => absurd h (by omega), fun h => absurd h (by omega)⟩, by simp⟩
  · simp [Value.cells] at hcs
    obtain ⟨rfl, rfl, rfl⟩ := hcs
    simp only [if_true] at hz
    simp only [Prod.mk.injEq] at hx
    obtain ⟨rfl, _⟩ := hx
    refine ⟨_, _, _, a.block, (zs.take len).map (fun s => s.data.toList), rfl, ⟨by rw [List.length_map, List.length_take]; omega, ⟨hl, hm⟩, fun s hs => ?_, fun hn => ?_, fun hn => ?_⟩, fun s hs => ?_⟩
    · obtain ⟨b, hb, rfl⟩ := List.mem_map.1 hs
      have := hwz b (List.mem_of_mem_take hb)
      exact (Array.length_toList (xs := b.data)).symm ▸ this
    · have := hcell 0 (by omega)
      simp only [Addr.add, if_true] at this
      exact World.block_lt_of_cell? W _ this
    · obtain ⟨b, off, spot⟩ := a
      have hspot : spot = none := by simpa [Addr.add] using World.cell?_spot (hcell 0 (by omega))
      subst hspot
      refine ⟨off, rfl, fun j hj => ?_⟩
      rw [List.length_map, List.length_take] at hj
      have hc := hcell j (by omega)
      have add : ((⟨b, off, none⟩ : Addr).add j) = ⟨b, off + j, none⟩ := by unfold Addr.add; split <;> simp_all
      rw [add] at hc
      rw [hc, List.getElem_map, List.getElem_take, getD_of zs ByteArray.empty j (by omega)]
    · obtain ⟨b, hb, rfl⟩ := List.mem_map.1 hs
      have := hsz b.data.toList.length (by
        rw [DataW.weights, Try.underlying38]
        exact List.mem_cons_of_mem _ (List.mem_append_left _ (weights_strs _ b hb)))
      have h2 : reachBytes = 140737488351232 := rfl
      omega

theorem sized_arg {ts : List TypeId} {ds : List (DataW H)} (h : (DataW.weightsEach Try.prog ts ds).all (· ≤ reachBytes) = true) {j : Nat} {t : TypeId} {d : DataW H} (ht : ts[j]? = some t) (hd : ds[j]? = some d) : ∀ n ∈ d.weights Try.prog t, n ≤ reachBytes := fun n hn => by
  have := List.all_eq_true.1 h _ (DataW.weights_mem_each ht hd n hn)
  simpa using this
end
end Go.Proofs.Ytlopbhamlhmpbaa
