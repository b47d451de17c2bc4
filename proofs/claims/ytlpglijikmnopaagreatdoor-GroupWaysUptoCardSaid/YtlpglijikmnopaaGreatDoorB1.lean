/- Parts: with a number more, two together; may one be. -/
import Derived.Test.YtlpglijikmnopaaGreatDoorA7
import Derived.Test.YtlpglijikmnopaaGreatDoorM1
namespace Go.Proofs.YtlpglijikmnopaaGreatDoor
open Go.RowKit Go.Maps Go.Sort
set_option linter.unusedVariables false

theorem withP_ok {p : Pt} (hp : p.ok) {n : Int} (hn : i64 n) : (withP p n).ok := by
  unfold Pt.ok at hp
  unfold i64 at hn
  unfold i64' at hp hn
  unfold withP Pt.ok i64'
  simp only
  refine ⟨addS_ok _ _, ?_, ?_⟩ <;> split <;> omega
theorem bothP_ok {p q : Pt} (hp : p.ok) (hq : q.ok) : (bothP p q).ok := by
  unfold bothP
  split
  · split
    · unfold Pt.ok at hp hq ⊢
      unfold i64' at hp hq ⊢
      exact ⟨plusS_ok _ _, by simp only; omega, by simp only; omega⟩
    · exact hp
  · split
    · exact hq
    · unfold Pt.zero Pt.ok Sm.ok i64'; simp only; omega
/-- A part's block. -/
abbrev ptA (p : Pt) : Array Value := #[.bool p.any, .int .i64 p.s.hi, .int .u64 p.s.lo, .int .i64 p.mn, .int .i64 p.mx]
set_option maxRecDepth 100000 in
set_option maxHeartbeats 2000000 in
/-- with. -/
theorem with_any (p : Pt) (n : Int) (hp : p.ok) (hn : i64 n) (w : World) : Calls Tryz.prog 73 #[ptV p, .int .i64 n] w (TellsP (withP p n) w) := by
  obtain ⟨⟨sh, sl⟩, hs⟩ : ∃ s, addS p.s n = s := ⟨_, rfl⟩
  have hadd := add_any p.s n hp.1 hn
  rw [hs] at hadd
  obtain ⟨pa, ⟨ph, pl⟩, mn, mx⟩ := p
  have HA : Hid (∀ w', Calls Tryz.prog 92 #[.agg #[.int .i64 ph, .int .u64 pl], .int .i64 n] w' (TellsV (.agg #[.int .i64 sh, .int .u64 sl]) w')) := Lib.hid fun w' => hadd w'
  obtain ⟨b, hb⟩ : ∃ b, w.heap.size = b := ⟨_, rfl⟩
  have hbw : w.heap.size ≤ b + 1 := by omega
  have HB := Lib.hid hb
  obtain ⟨m1, hm1⟩ : ∃ m, (if pa then mn else n) = m := ⟨_, rfl⟩
  obtain ⟨m2, hm2⟩ : ∃ m, (if pa then mx else n) = m := ⟨_, rfl⟩
  obtain ⟨v1, hv1⟩ : ∃ m, min m1 n = m := ⟨_, rfl⟩
  obtain ⟨v2, hv2⟩ : ∃ m, max m2 n = m := ⟨_, rfl⟩
  have HV : Hid (withP ⟨pa, ⟨ph, pl⟩, mn, mx⟩ n = ⟨true, ⟨sh, sl⟩, v1, v2⟩) := Lib.hid (by
    unfold withP
    simp only [hs]
    rw [← hv1, ← hv2, ← hm1, ← hm2]
    cases pa
    · simp
    · simp)
  obtain ⟨w1, hw1⟩ : ∃ w1, (w.alloc (.cells #[.bool pa, .int .i64 ph, .int .u64 pl, .int .i64 m1, .int .i64 m2] 88)).alloc (.cells #[.bool false, .int .i64 0, .int .u64 0, .int .i64 0, .int .i64 0] 88) = w1 := ⟨_, rfl⟩
  have f1 : Fr No w w1 := by rw [← hw1]; exact ((Fr.refl No w).alloc _).alloc _
  have hx : Blk w1 b 88 #[.bool pa, .int .i64 ph, .int .u64 pl, .int .i64 m1, .int .i64 m2] := by rw [← hw1, ← hb]; exact (Blk.new w 88 _).no ((Fr.refl No _).alloc _)
  have hr : Blk w1 (b + 1) 88 #[.bool false, .int .i64 0, .int .u64 0, .int .i64 0, .int .i64 0] := by rw [← hw1, ← hb]; exact blk_at1 w _ 88 _
  have x1 : ∀ dd os, (grow (redrawn w1 dd) os).cell? ⟨b, 1, none⟩ = some (.int .i64 ph) := fun dd os => cell_regrown (hx.cell 1) dd os
  have x2 : ∀ dd os, (grow (redrawn w1 dd) os).cell? ⟨b, 2, none⟩ = some (.int .u64 pl) := fun dd os => cell_regrown (hx.cell 2) dd os
  have x3 : ∀ dd os, (grow (redrawn w1 dd) os).cell? ⟨b, 3, none⟩ = some (.int .i64 m1) := fun dd os => cell_regrown (hx.cell 3) dd os
  have x4 : ∀ dd os, (grow (redrawn w1 dd) os).cell? ⟨b, 4, none⟩ = some (.int .i64 m2) := fun dd os => cell_regrown (hx.cell 4) dd os
  have K1 := Lib.hid (fun dd os => tells_grown (w := w1) (fun w' _ => HA.out w') dd os)
  have HR : Hid (∀ w', Fr No w1 w' → Blk w' (b + 1) 88 #[.bool false, .int .i64 0, .int .u64 0, .int .i64 0, .int .i64 0]) := Lib.hid fun w' f' => hr.no f'
  have HF1 := Lib.hid f1
  have HW1 := Lib.hid hw1
  rw [HV.out]
  clear hb hw1 f1 hx hr hp hn hs hadd HV
  have e1 : (if n < m1 then n else m1) = v1 := by rw [← hv1]; split <;> omega
  have e2 : (if m2 < n then n else m2) = v2 := by rw [← hv2]; split <;> omega
  clear hv1 hv2
  cases pa with
  | true =>
    obtain rfl : mn = m1 := hm1
    obtain rfl : mx = m2 := hm2
    go_enter Tryz.func73, Tryz.ntmps73
    go_upto_region 3 with fail
    rw [HW1.out, HB.out]
    refine wp_below_tail 13 mixedB (by kernel_rfl) ?_
    simp only [List.take_succ_cons, List.take_zero, List.drop_succ_cons, List.drop_zero]
    repeat (first | go_big_quiet_step (with_reducible exact K1.out _ _) | quiet_step (with_reducible exact K1.out _ _))
    refine wpQuiet_nil ?_
    intro wx hp
    have hfw : Fr No w1 wx := by obtain ⟨p, rfl⟩ := hp; exact fr_reg _ _ _
    have HFW := Lib.hid hfw
    obtain ⟨⟨u0, u1, u2, u3, u4⟩, z0, z1, z2, z3, z4⟩ := blk5 (HR.out wx hfw)
    clear hp hfw x1 x2 x3 x4
    go_wp2_with fail
    refine bodyPost_ret (v := ptV ⟨true, ⟨sh, sl⟩, v1, v2⟩) (by simp [results, Tryz.results73, go_sem, u0, u1, u2, u3, u4]) rfl ⟨rfl, ?_⟩
    repeat (refine Fr.set_new ?_ hbw _)
    exact HF1.out.trans HFW.out fun _ _ h => h
  | false =>
    obtain rfl : n = m1 := hm1
    obtain rfl : n = m2 := hm2
    have h1 : n = v1 := by rw [← e1]; split <;> rfl
    have h2 : n = v2 := by rw [← e2]; split <;> rfl
    clear e1 e2
    subst h1
    subst h2
    go_enter Tryz.func73, Tryz.ntmps73
    go_upto_region 3 with fail
    rw [HW1.out, HB.out]
    refine wp_below_tail 13 mixedB (by kernel_rfl) ?_
    simp only [List.take_succ_cons, List.take_zero, List.drop_succ_cons, List.drop_zero]
    repeat (first | go_big_quiet_step (with_reducible exact K1.out _ _) | quiet_step (with_reducible exact K1.out _ _))
    refine wpQuiet_nil ?_
    intro wx hp
    have hfw : Fr No w1 wx := by obtain ⟨p, rfl⟩ := hp; exact fr_reg _ _ _
    have HFW := Lib.hid hfw
    obtain ⟨⟨u0, u1, u2, u3, u4⟩, z0, z1, z2, z3, z4⟩ := blk5 (HR.out wx hfw)
    clear hp hfw x1 x2 x3 x4
    go_wp2_with fail
    refine bodyPost_ret (v := ptV ⟨true, ⟨sh, sl⟩, n, n⟩) (by simp [results, Tryz.results73, go_sem, u0, u1, u2, u3, u4]) rfl ⟨rfl, ?_⟩
    repeat (refine Fr.set_new ?_ hbw _)
    exact HF1.out.trans HFW.out fun _ _ h => h
end Go.Proofs.YtlpglijikmnopaaGreatDoor
