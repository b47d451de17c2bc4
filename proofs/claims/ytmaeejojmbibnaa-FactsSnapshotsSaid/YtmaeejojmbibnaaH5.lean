/- Scan: its closure. -/
import Derived.Test.YtmaeejojmbibnaaH4
import Derived.Deep.RegionLaw
namespace Go.Proofs.Ytmaeejojmbibnaa
open Go.RowKit Go.Maps
set_option linter.unusedVariables false

theorem fcells_one (K M : Nat) (da ma : Nat → Nat) (n : Nat) : ∀ u ∈ fcells K M da ma n, u.oneCell' = true := by
  intro u hu
  obtain ⟨i, _, hi⟩ := List.mem_flatMap.1 hu
  unfold fcel at hi
  simp only [List.mem_cons, List.not_mem_nil, or_false] at hi
  rcases hi with rfl | rfl <;> rfl
/-- n facts that were told: a row of one's own at v, their blocks; none below h0. -/
def Told (h0 : Nat) (w : World) (v : Value) (n K M : Nat) (TC MC : Nat → Nat → Value) : Prop := ∃ da ma, w.ownsRow h0 51 2 v n (fcells K M da ma n) ∧ Bks w h0 n K M da ma TC MC
theorem Told.keep {h0 : Nat} {w w' : World} {v : Value} {n K M : Nat} {TC MC : Nat → Nat → Value} (h : Told h0 w v n K M TC MC) (hf : Fr No w w') : Told h0 w' v n K M TC MC := by
  obtain ⟨da, ma, h1, h2⟩ := h
  exact ⟨da, ma, own_of h1 fun k hk => hf.block k (h1.lt k hk).2 id, h2.keep hf⟩
theorem Told.congr {h0 : Nat} {w : World} {v : Value} {n n' K M : Nat} {TC MC TC' MC' : Nat → Nat → Value} (h : Told h0 w v n K M TC MC) (e : n = n') (hT : ∀ i d, i < n → d < K → TC' i d = TC i d) (hM : ∀ i m, i < n → m < M → MC' i m = MC i m) : Told h0 w v n' K M TC' MC' := by
  subst e
  obtain ⟨da, ma, h1, h2⟩ := h
  exact ⟨da, ma, h1, h2.congr hT hM⟩
theorem Told.start (w : World) (K M c : Nat) (hc : c * 2 ≤ maxLen) (TC MC : Nat → Nat → Value) : Told w.heap.size (w.alloc (.cells (zfacts c) 51)) (.slice (some ⟨w.heap.size, 0, none⟩) 0 c) 0 K M TC MC := by
  refine ⟨fun _ => 0, fun _ => 0, ?_, Bks.nil _ _ _ _ _ _ _ _⟩
  refine ⟨rfl, .inr ⟨w.heap.size, c, _, rfl, Nat.le_refl _, heap_alloc_new w _, ?_⟩⟩
  refine ⟨by omega, by unfold maxLen at *; omega, by simp [zfacts, size_madeCells], ?_⟩
  simp [fcells]
theorem Told.off {h0 : Nat} {w w' : World} {v : Value} {n K M k : Nat} {TC MC : Nat → Nat → Value} {t : TypeId} {cs : Array Value} (h : Told h0 w v n K M TC MC) (hb : Blk w k t cs) (h1 : t ≠ 51) (h2 : t ≠ 9) (h3 : t ≠ 2) (hf : Fr (One k) w w') : Told h0 w' v n K M TC MC := by
  obtain ⟨da, ma, o, b⟩ := h
  refine ⟨da, ma, own_of o fun j hj => hf.block j (o.lt j hj).2 fun e => ?_, b.fr hf fun i hi => ⟨fun e => ?_, fun e => ?_⟩⟩
  · obtain ⟨cur, hc⟩ := own_row o hj
    exact Blk.ne_ hb hc h1 (Eq.symm e)
  · obtain ⟨c1, x1, _⟩ := b.db i hi
    exact Blk.ne_ hb x1 h2 (Eq.symm e)
  · obtain ⟨c1, x1, _⟩ := b.mb i hi
    exact Blk.ne_ hb x1 h3 (Eq.symm e)
/-- Told facts, and those that rows gave, to be appended. -/
theorem Told.with {h0 : Nat} {w wm : World} {v : Value} {n n2 K M b : Nat} {TC MC TC2 MC2 : Nat → Nat → Value} (h : Told h0 w v n K M TC MC) (hm : Mk w b n2 n2 K M TC2 MC2 wm) (hh : h0 ≤ w.heap.size) :
    ∃ cs, Blk wm b 51 cs ∧ ∃ xs, cs.toList.length = n2 * 2 ∧ (∀ u ∈ cs.toList, u.oneCell' = true) ∧ wm.ownsRow h0 51 2 v n xs ∧ ∀ w3 v', wm.grownBy w3 v.ownBlock → w3.ownsRow h0 51 2 v' (n + n2) (xs ++ cs.toList) → Told h0 w3 v' (n + n2) K M (fun i d => if i < n then TC i d else TC2 (i - n) d) (fun i d => if i < n then MC i d else MC2 (i - n) d) := by
  obtain ⟨da, ma, h1, h2⟩ := h
  obtain ⟨da2, ma2, k1, k2, k3, k4⟩ := hm
  obtain ⟨cs, b1, b2⟩ := k1.row
  refine ⟨cs, b1, _, by rw [b2, fcells_len], by rw [b2]; exact fcells_one _ _ _ _ _, own_of h1 fun k hk => k4.block k (h1.lt k hk).2 id, fun w3 v' hg hv' => ?_⟩
  rw [b2, fcells_join] at hv'
  have hj := (h2.keep k4).join k2 (fun i hi => h2.lt hi) hh
  refine ⟨_, _, hv', hj.fr (F := fun k => v.ownBlock = some k) ?_ fun i hi => ?_⟩
  · exact (Fr.refl _ wm).grown hg fun k hk _ => hk
  · obtain ⟨c1, x1, _⟩ := hj.db i hi
    obtain ⟨c2, x2, _⟩ := hj.mb i hi
    have h1' := own_of h1 fun k hk => k4.block k (h1.lt k hk).2 id
    constructor
    · intro e
      obtain ⟨cur, hc⟩ := own_row h1' e
      exact Blk.ne_ (t := 51) hc x1 (by decide) rfl
    · intro e
      obtain ⟨cur, hc⟩ := own_row h1' e
      exact Blk.ne_ (t := 51) hc x2 (by decide) rfl
end Go.Proofs.Ytmaeejojmbibnaa
