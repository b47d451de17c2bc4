/- Two parts together, both sides; the document's part with a number more; may a part be. -/
import Derived.Test.YtlpglijikmnopaaGreatDoorB1
import Derived.Laws.StructEq
namespace Go.Proofs.YtlpglijikmnopaaGreatDoor
open Go.RowKit Go.Maps Go.Sort
set_option linter.unusedVariables false

set_option maxRecDepth 100000 in
set_option maxHeartbeats 1000000 in
theorem both_any (p q : Pt) (hp : p.ok) (hq : q.ok) (w : World) : Calls Tryz.prog 104 #[ptV p, ptV q] w (TellsP (bothP p q) w) := by
  obtain ⟨⟨sh, sl⟩, hs⟩ : ∃ s, plusS p.s q.s = s := ⟨_, rfl⟩
  have hadd := plus_any p.s q.s hp.1 hq.1
  rw [hs] at hadd
  obtain ⟨pa, ⟨ph, pl⟩, pn, px⟩ := p
  obtain ⟨qa, ⟨qh, ql⟩, qn, qx⟩ := q
  have HA : Hid (∀ w', Calls Tryz.prog 114 #[.agg #[.int .i64 ph, .int .u64 pl], .agg #[.int .i64 qh, .int .u64 ql]] w' (TellsV (.agg #[.int .i64 sh, .int .u64 sl]) w')) := Lib.hid fun w' => hadd w'
  obtain ⟨v1, hv1⟩ : ∃ m, min pn qn = m := ⟨_, rfl⟩
  obtain ⟨v2, hv2⟩ : ∃ m, max px qx = m := ⟨_, rfl⟩
  have HV : Hid (bothP ⟨pa, ⟨ph, pl⟩, pn, px⟩ ⟨qa, ⟨qh, ql⟩, qn, qx⟩ = if pa = true then if qa = true then ⟨true, ⟨sh, sl⟩, v1, v2⟩ else ⟨pa, ⟨ph, pl⟩, pn, px⟩ else if qa = true then ⟨qa, ⟨qh, ql⟩, qn, qx⟩ else Pt.zero) := Lib.hid (by
    unfold bothP
    simp only [hs, hv1, hv2])
  have e1 : (if qn < pn then qn else pn) = v1 := by rw [← hv1]; split <;> omega
  have e2 : (if px < qx then qx else px) = v2 := by rw [← hv2]; split <;> omega
  obtain ⟨b, hb⟩ : ∃ b, w.heap.size = b := ⟨_, rfl⟩
  have hbw : w.heap.size ≤ b + 2 := by omega
  have HB := Lib.hid hb
  obtain ⟨w1, hw1⟩ : ∃ w1, ((w.alloc (.cells #[.bool pa, .int .i64 ph, .int .u64 pl, .int .i64 pn, .int .i64 px] 88)).alloc (.cells #[.bool qa, .int .i64 qh, .int .u64 ql, .int .i64 qn, .int .i64 qx] 88)).alloc (.cells #[.bool false, .int .i64 0, .int .u64 0, .int .i64 0, .int .i64 0] 88) = w1 := ⟨_, rfl⟩
  have f1 : Fr No w w1 := by rw [← hw1]; exact (((Fr.refl No w).alloc _).alloc _).alloc _
  have hx : Blk w1 b 88 #[.bool pa, .int .i64 ph, .int .u64 pl, .int .i64 pn, .int .i64 px] := by rw [← hw1, ← hb]; exact (Blk.new w 88 _).no (((Fr.refl No _).alloc _).alloc _)
  have hy : Blk w1 (b + 1) 88 #[.bool qa, .int .i64 qh, .int .u64 ql, .int .i64 qn, .int .i64 qx] := by rw [← hw1, ← hb]; exact (blk_at1 w _ 88 _).no ((Fr.refl No _).alloc _)
  have hr : Blk w1 (b + 2) 88 #[.bool false, .int .i64 0, .int .u64 0, .int .i64 0, .int .i64 0] := by rw [← hw1, ← hb]; exact blk_at2 w _ _ 88 _
  have x1 : ∀ dd os, (grow (redrawn w1 dd) os).cell? ⟨b, 1, none⟩ = some (.int .i64 ph) := fun dd os => cell_regrown (hx.cell 1) dd os
  have x2 : ∀ dd os, (grow (redrawn w1 dd) os).cell? ⟨b, 2, none⟩ = some (.int .u64 pl) := fun dd os => cell_regrown (hx.cell 2) dd os
  have x3 : ∀ dd os, (grow (redrawn w1 dd) os).cell? ⟨b, 3, none⟩ = some (.int .i64 pn) := fun dd os => cell_regrown (hx.cell 3) dd os
  have x4 : ∀ dd os, (grow (redrawn w1 dd) os).cell? ⟨b, 4, none⟩ = some (.int .i64 px) := fun dd os => cell_regrown (hx.cell 4) dd os
  have y1 : ∀ dd os, (grow (redrawn w1 dd) os).cell? ⟨b + 1, 1, none⟩ = some (.int .i64 qh) := fun dd os => cell_regrown (hy.cell 1) dd os
  have y2 : ∀ dd os, (grow (redrawn w1 dd) os).cell? ⟨b + 1, 2, none⟩ = some (.int .u64 ql) := fun dd os => cell_regrown (hy.cell 2) dd os
  have y3 : ∀ dd os, (grow (redrawn w1 dd) os).cell? ⟨b + 1, 3, none⟩ = some (.int .i64 qn) := fun dd os => cell_regrown (hy.cell 3) dd os
  have y4 : ∀ dd os, (grow (redrawn w1 dd) os).cell? ⟨b + 1, 4, none⟩ = some (.int .i64 qx) := fun dd os => cell_regrown (hy.cell 4) dd os
  have K1 := Lib.hid (fun dd os => tells_grown (w := w1) (fun w' _ => HA.out w') dd os)
  have HR : Hid (∀ w', Fr No w1 w' → Blk w' (b + 2) 88 #[.bool false, .int .i64 0, .int .u64 0, .int .i64 0, .int .i64 0]) := Lib.hid fun w' f' => hr.no f'
  obtain ⟨⟨c0, c1, c2, c3, c4⟩, -⟩ := blk5 hx
  obtain ⟨⟨d0, d1, d2, d3, d4⟩, -⟩ := blk5 hy
  obtain ⟨⟨r0, r1, r2, r3, r4⟩, s0, s1, s2, s3, s4⟩ := blk5 hr
  have HF1 := Lib.hid f1
  have HW1 := Lib.hid hw1
  rw [HV.out]
  clear hb hw1 f1 hx hy hr hp hq hs hadd HV hv1 hv2
  cases pa with
  | true =>
    cases qa with
    | true =>
      rw [if_pos rfl, if_pos rfl]
      go_enter Tryz.func104, Tryz.ntmps104
      go_upto_region 1 with fail
      rw [HB.out, HW1.out]
      go_upto_region 2 with fail
      clear c0 c1 c2 c3 c4 d0 d1 d2 d3 d4 r0 r1 r2 r3 r4 s0 s1 s2 s3 s4
      refine wp_below_tail 16 mixedB (by kernel_rfl) ?_
      simp only [List.take_succ_cons, List.take_zero, List.drop_succ_cons, List.drop_zero]
      repeat (first | go_big_quiet_step (with_reducible exact K1.out _ _) | quiet_step (with_reducible exact K1.out _ _))
      refine wpQuiet_nil ?_
      intro wx hp
      have hfw : Fr No w1 wx := by obtain ⟨p, rfl⟩ := hp; exact fr_reg _ _ _
      have HFW := Lib.hid hfw
      obtain ⟨⟨u0, u1, u2, u3, u4⟩, z0, z1, z2, z3, z4⟩ := blk5 (HR.out wx hfw)
      clear hp hfw x1 x2 x3 x4 y1 y2 y3 y4
      go_wp2_with fail
      refine bodyPost_ret (v := ptV ⟨true, ⟨sh, sl⟩, v1, v2⟩) (by simp [results, Tryz.results104, go_sem, u0, u1, u2, u3, u4]) rfl ⟨rfl, ?_⟩
      repeat (refine Fr.set_new ?_ hbw _)
      exact HF1.out.trans HFW.out fun _ _ h => h
    | false =>
      rw [if_pos rfl, if_neg (by decide)]
      clear x1 x2 x3 x4 y1 y2 y3 y4
      go_enter Tryz.func104, Tryz.ntmps104
      go_upto_region 1 with fail
      rw [HB.out, HW1.out]
      go_wp2_with fail
      refine bodyPost_ret (v := ptV ⟨true, ⟨ph, pl⟩, pn, px⟩) (by simp [results, Tryz.results104, go_sem, r0, r1, r2, r3, r4]) rfl ⟨rfl, ?_⟩
      repeat (refine Fr.set_new ?_ hbw _)
      exact HF1.out
  | false =>
    rw [if_neg (by decide)]
    cases qa with
    | true =>
      rw [if_pos rfl]
      clear x1 x2 x3 x4 y1 y2 y3 y4
      go_enter Tryz.func104, Tryz.ntmps104
      go_upto_region 1 with fail
      rw [HB.out, HW1.out]
      go_wp2_with fail
      refine bodyPost_ret (v := ptV ⟨true, ⟨qh, ql⟩, qn, qx⟩) (by simp [results, Tryz.results104, go_sem, r0, r1, r2, r3, r4]) rfl ⟨rfl, ?_⟩
      repeat (refine Fr.set_new ?_ hbw _)
      exact HF1.out
    | false =>
      rw [if_neg (by decide), show Pt.zero = ⟨false, ⟨0, 0⟩, 0, 0⟩ from rfl]
      clear x1 x2 x3 x4 y1 y2 y3 y4
      go_enter Tryz.func104, Tryz.ntmps104
      go_upto_region 1 with fail
      rw [HB.out, HW1.out]
      go_wp2_with fail
      refine bodyPost_ret (v := ptV ⟨false, ⟨0, 0⟩, 0, 0⟩) (by simp [results, Tryz.results104, go_sem, r0, r1, r2, r3, r4]) rfl ⟨rfl, ?_⟩
      repeat (refine Fr.set_new ?_ hbw _)
      exact HF1.out

set_option maxRecDepth 100000 in
set_option maxHeartbeats 1000000 in
theorem rboth_any (p q : Pt) (hp : p.ok) (hq : q.ok) (w : World) : Calls Tryz.prog 89 #[ptV p, ptV q] w (TellsP (bothP p q) w) := by
  obtain ⟨⟨sh, sl⟩, hs⟩ : ∃ s, plusS p.s q.s = s := ⟨_, rfl⟩
  have hadd := rplus_any p.s q.s hp.1 hq.1
  rw [hs] at hadd
  obtain ⟨pa, ⟨ph, pl⟩, pn, px⟩ := p
  obtain ⟨qa, ⟨qh, ql⟩, qn, qx⟩ := q
  have HA : Hid (∀ w', Calls Tryz.prog 111 #[.agg #[.int .i64 ph, .int .u64 pl], .agg #[.int .i64 qh, .int .u64 ql]] w' (TellsV (.agg #[.int .i64 sh, .int .u64 sl]) w')) := Lib.hid fun w' => hadd w'
  obtain ⟨v1, hv1⟩ : ∃ m, min pn qn = m := ⟨_, rfl⟩
  obtain ⟨v2, hv2⟩ : ∃ m, max px qx = m := ⟨_, rfl⟩
  have HV : Hid (bothP ⟨pa, ⟨ph, pl⟩, pn, px⟩ ⟨qa, ⟨qh, ql⟩, qn, qx⟩ = if pa = true then if qa = true then ⟨true, ⟨sh, sl⟩, v1, v2⟩ else ⟨pa, ⟨ph, pl⟩, pn, px⟩ else if qa = true then ⟨qa, ⟨qh, ql⟩, qn, qx⟩ else Pt.zero) := Lib.hid (by
    unfold bothP
    simp only [hs, hv1, hv2])
  obtain ⟨b, hb⟩ : ∃ b, w.heap.size = b := ⟨_, rfl⟩
  have hbw : w.heap.size ≤ b + 2 := by omega
  have HB := Lib.hid hb
  obtain ⟨w1, hw1⟩ : ∃ w1, ((w.alloc (.cells #[.bool pa, .int .i64 ph, .int .u64 pl, .int .i64 pn, .int .i64 px] 88)).alloc (.cells #[.bool qa, .int .i64 qh, .int .u64 ql, .int .i64 qn, .int .i64 qx] 88)).alloc (.cells #[.bool false, .int .i64 0, .int .u64 0, .int .i64 0, .int .i64 0] 88) = w1 := ⟨_, rfl⟩
  have f1 : Fr No w w1 := by rw [← hw1]; exact (((Fr.refl No w).alloc _).alloc _).alloc _
  have hx : Blk w1 b 88 #[.bool pa, .int .i64 ph, .int .u64 pl, .int .i64 pn, .int .i64 px] := by rw [← hw1, ← hb]; exact (Blk.new w 88 _).no (((Fr.refl No _).alloc _).alloc _)
  have hy : Blk w1 (b + 1) 88 #[.bool qa, .int .i64 qh, .int .u64 ql, .int .i64 qn, .int .i64 qx] := by rw [← hw1, ← hb]; exact (blk_at1 w _ 88 _).no ((Fr.refl No _).alloc _)
  have hr : Blk w1 (b + 2) 88 #[.bool false, .int .i64 0, .int .u64 0, .int .i64 0, .int .i64 0] := by rw [← hw1, ← hb]; exact blk_at2 w _ _ 88 _
  have HX : Hid (∀ w', Fr No w1 w' → Blk w' b 88 #[.bool pa, .int .i64 ph, .int .u64 pl, .int .i64 pn, .int .i64 px]) := Lib.hid fun w' f' => hx.no f'
  have HY : Hid (∀ w', Fr No w1 w' → Blk w' (b + 1) 88 #[.bool qa, .int .i64 qh, .int .u64 ql, .int .i64 qn, .int .i64 qx]) := Lib.hid fun w' f' => hy.no f'
  have HR : Hid (∀ w', Fr No w1 w' → Blk w' (b + 2) 88 #[.bool false, .int .i64 0, .int .u64 0, .int .i64 0, .int .i64 0]) := Lib.hid fun w' f' => hr.no f'
  obtain ⟨⟨c0, c1, c2, c3, c4⟩, -⟩ := blk5 hx
  obtain ⟨⟨d0, d1, d2, d3, d4⟩, -⟩ := blk5 hy
  obtain ⟨⟨r0, r1, r2, r3, r4⟩, s0, s1, s2, s3, s4⟩ := blk5 hr
  have HF1 := Lib.hid f1
  have HW1 := Lib.hid hw1
  have hbx : w.heap.size ≤ b := by omega
  rw [HV.out]
  clear hb hw1 f1 hx hy hr hp hq hs hadd HV
  cases pa with
  | true =>
    cases qa with
    | true =>
      rw [if_pos rfl, if_pos rfl]
      have e1 : ((qn < pn) = True ∧ qn = v1) ∨ ((qn < pn) = False ∧ pn = v1) := by
        rw [← hv1]
        by_cases h : qn < pn
        · exact .inl ⟨eq_true h, by omega⟩
        · exact .inr ⟨eq_false h, by omega⟩
      have e2 : ((px < qx) = True ∧ qx = v2) ∨ ((px < qx) = False ∧ px = v2) := by
        rw [← hv2]
        by_cases h : px < qx
        · exact .inl ⟨eq_true h, by omega⟩
        · exact .inr ⟨eq_false h, by omega⟩
      clear hv1 hv2
      rcases e1 with ⟨e1, rfl⟩ | ⟨e1, rfl⟩ <;> rcases e2 with ⟨e2, rfl⟩ | ⟨e2, rfl⟩
      all_goals
        go_enter Tryz.func89, Tryz.ntmps89
        go_upto_region 1 with fail
        rw [HB.out, HW1.out]
        go_wp2_with (go_at_call 111; refine (HA.out _).mono ?_; rintro e w2 ⟨rfl, f2⟩; have HF2 := Lib.hid f2; obtain ⟨⟨x0, x1, x2, x3, x4⟩, X0, X1, X2, X3, X4⟩ := blk5 (HX.out w2 f2); obtain ⟨⟨y0, y1, y2, y3, y4⟩, -⟩ := blk5 (HY.out w2 f2); obtain ⟨⟨u0, u1, u2, u3, u4⟩, z0, z1, z2, z3, z4⟩ := blk5 (HR.out w2 f2); clear f2 c0 c1 c2 c3 c4 d0 d1 d2 d3 d4 r0 r1 r2 r3 r4 s0 s1 s2 s3 s4)
        refine bodyPost_ret (v := ptV ⟨true, ⟨sh, sl⟩, _, _⟩) (by simp [results, Tryz.results89, go_sem, u0, u1, u2, u3, u4]; (try rfl)) rfl ⟨rfl, ?_⟩
        repeat (refine Fr.set_new ?_ (by first | exact hbw | exact hbx) _)
        exact HF1.out.trans HF2.out fun _ _ h => h
    | false =>
      rw [if_pos rfl, if_neg (by decide)]
      go_enter Tryz.func89, Tryz.ntmps89
      go_upto_region 1 with fail
      rw [HB.out, HW1.out]
      go_wp2_with fail
      refine bodyPost_ret (v := ptV ⟨true, ⟨ph, pl⟩, pn, px⟩) (by simp [results, Tryz.results89, go_sem, r0, r1, r2, r3, r4]) rfl ⟨rfl, ?_⟩
      repeat (refine Fr.set_new ?_ hbw _)
      exact HF1.out
  | false =>
    rw [if_neg (by decide)]
    cases qa with
    | true =>
      rw [if_pos rfl]
      go_enter Tryz.func89, Tryz.ntmps89
      go_upto_region 1 with fail
      rw [HB.out, HW1.out]
      go_wp2_with fail
      refine bodyPost_ret (v := ptV ⟨true, ⟨qh, ql⟩, qn, qx⟩) (by simp [results, Tryz.results89, go_sem, r0, r1, r2, r3, r4]) rfl ⟨rfl, ?_⟩
      repeat (refine Fr.set_new ?_ hbw _)
      exact HF1.out
    | false =>
      rw [if_neg (by decide), show Pt.zero = ⟨false, ⟨0, 0⟩, 0, 0⟩ from rfl]
      go_enter Tryz.func89, Tryz.ntmps89
      go_upto_region 1 with fail
      rw [HB.out, HW1.out]
      go_wp2_with fail
      refine bodyPost_ret (v := ptV ⟨false, ⟨0, 0⟩, 0, 0⟩) (by simp [results, Tryz.results89, go_sem, r0, r1, r2, r3, r4]) rfl ⟨rfl, ?_⟩
      repeat (refine Fr.set_new ?_ hbw _)
      exact HF1.out
end Go.Proofs.YtlpglijikmnopaaGreatDoor
