/- The document's part, Same, Valid, New. -/
import Derived.Test.YtlpglijikmnopaaGreatDoorB7
namespace Go.Proofs.YtlpglijikmnopaaGreatDoor
open Go.RowKit Go.Maps Go.Sort
set_option linter.unusedVariables false

set_option maxRecDepth 100000 in
set_option maxHeartbeats 1000000 in
theorem part_any (p : Pt) (n : Int) (hp : p.ok) (hn : i64 n) (w : World) : Calls Tryz.prog 69 #[ptV p, .int .i64 n] w (TellsP (withP p n) w) := by
  obtain ⟨⟨sh, sl⟩, hs⟩ : ∃ s, addS p.s n = s := ⟨_, rfl⟩
  have hadd := radd_any p.s n hp.1 hn
  rw [hs] at hadd
  obtain ⟨pa, ⟨ph, pl⟩, pn, px⟩ := p
  have HA : Hid (∀ w', Calls Tryz.prog 90 #[.agg #[.int .i64 ph, .int .u64 pl], .int .i64 n] w' (TellsV (.agg #[.int .i64 sh, .int .u64 sl]) w')) := Lib.hid fun w' => hadd w'
  obtain ⟨b, hb⟩ : ∃ b, w.heap.size = b := ⟨_, rfl⟩
  have hbw : w.heap.size ≤ b + 1 := by omega
  have hbx : w.heap.size ≤ b := by omega
  have HB := Lib.hid hb
  obtain ⟨w1, hw1⟩ : ∃ w1, (w.alloc (.cells #[.bool pa, .int .i64 ph, .int .u64 pl, .int .i64 pn, .int .i64 px] 88)).alloc (.cells #[.bool false, .int .i64 0, .int .u64 0, .int .i64 0, .int .i64 0] 88) = w1 := ⟨_, rfl⟩
  have f1 : Fr No w w1 := by rw [← hw1]; exact ((Fr.refl No w).alloc _).alloc _
  have hx : Blk w1 b 88 #[.bool pa, .int .i64 ph, .int .u64 pl, .int .i64 pn, .int .i64 px] := by rw [← hw1, ← hb]; exact (Blk.new w 88 _).no ((Fr.refl No _).alloc _)
  have hr : Blk w1 (b + 1) 88 #[.bool false, .int .i64 0, .int .u64 0, .int .i64 0, .int .i64 0] := by rw [← hw1, ← hb]; exact blk_at1 w _ 88 _
  have HX : Hid (∀ w', Fr No w1 w' → Blk w' b 88 #[.bool pa, .int .i64 ph, .int .u64 pl, .int .i64 pn, .int .i64 px]) := Lib.hid fun w' f' => hx.no f'
  have HR : Hid (∀ w', Fr No w1 w' → Blk w' (b + 1) 88 #[.bool false, .int .i64 0, .int .u64 0, .int .i64 0, .int .i64 0]) := Lib.hid fun w' f' => hr.no f'
  have HF1 := Lib.hid f1
  have HW1 := Lib.hid hw1
  obtain ⟨⟨c0, c1, c2, c3, c4⟩, -⟩ := blk5 hx
  cases pa with
  | false =>
    have HV : Hid (withP ⟨false, ⟨ph, pl⟩, pn, px⟩ n = ⟨true, ⟨sh, sl⟩, n, n⟩) := Lib.hid (by unfold withP; simp only [hs]; simp)
    rw [HV.out]
    clear hb hw1 f1 hx hr hp hn hs hadd HV
    go_enter Tryz.func69, Tryz.ntmps69
    go_upto_region 1 with fail
    rw [HB.out, HW1.out]
    go_wp2_with (go_at_call 90; refine (HA.out _).mono ?_; rintro e w2 ⟨rfl, f2⟩; have HF2 := Lib.hid f2; obtain ⟨⟨u0, u1, u2, u3, u4⟩, z0, z1, z2, z3, z4⟩ := blk5 (HR.out w2 f2); clear f2)
    refine bodyPost_ret (v := ptV ⟨true, ⟨sh, sl⟩, n, n⟩) (by simp [results, Tryz.results69, go_sem, u0, u1, u2, u3, u4]) rfl ⟨rfl, ?_⟩
    repeat (refine Fr.set_new ?_ hbw _)
    exact HF1.out.trans HF2.out fun _ _ h => h
  | true =>
    have e1 : ((n < pn) = True ∧ min pn n = n) ∨ ((n < pn) = False ∧ min pn n = pn) := by
      by_cases h : n < pn
      · exact .inl ⟨eq_true h, by omega⟩
      · exact .inr ⟨eq_false h, by omega⟩
    have e2 : ((px < n) = True ∧ max px n = n) ∨ ((px < n) = False ∧ max px n = px) := by
      by_cases h : px < n
      · exact .inl ⟨eq_true h, by omega⟩
      · exact .inr ⟨eq_false h, by omega⟩
    obtain ⟨v1, hv1⟩ : ∃ m, min pn n = m := ⟨_, rfl⟩
    obtain ⟨v2, hv2⟩ : ∃ m, max px n = m := ⟨_, rfl⟩
    have HV : Hid (withP ⟨true, ⟨ph, pl⟩, pn, px⟩ n = ⟨true, ⟨sh, sl⟩, v1, v2⟩) := Lib.hid (by unfold withP; simp only [hs]; simp [hv1, hv2])
    rw [HV.out]
    rw [hv1] at e1
    rw [hv2] at e2
    clear hb hw1 f1 hx hr hp hn hs hadd HV hv1 hv2
    rcases e1 with ⟨e1, h1⟩ | ⟨e1, h1⟩ <;> rcases e2 with ⟨e2, h2⟩ | ⟨e2, h2⟩ <;> rw [h1, h2] <;> clear h1 h2
    all_goals
      go_enter Tryz.func69, Tryz.ntmps69
      go_upto_region 1 with fail
      rw [HB.out, HW1.out]
      go_wp2_with (go_at_call 90; refine (HA.out _).mono ?_; rintro e w2 ⟨rfl, f2⟩; have HF2 := Lib.hid f2; obtain ⟨⟨x0, x1, x2, x3, x4⟩, X0, X1, X2, X3, X4⟩ := blk5 (HX.out w2 f2); obtain ⟨⟨u0, u1, u2, u3, u4⟩, z0, z1, z2, z3, z4⟩ := blk5 (HR.out w2 f2); clear f2 c0 c1 c2 c3 c4)
      refine bodyPost_ret (v := ptV ⟨true, ⟨sh, sl⟩, _, _⟩) (by simp [results, Tryz.results69, go_sem, u0, u1, u2, u3, u4]; (try rfl)) rfl ⟨rfl, ?_⟩
      repeat (refine Fr.set_new ?_ (by first | exact hbw | exact hbx) _)
      exact HF1.out.trans HF2.out fun _ _ h => h
set_option maxRecDepth 100000 in
set_option maxHeartbeats 1000000 in
theorem rsame_any {K K2 : Nat → Prop} (c1 c2 : Int) (l m : List Pt) (v v2 : Value) (w : World) (h : PR K w v l) (h2 : PR K2 w v2 m) : Calls Tryz.prog 44 #[.agg #[.int .i64 c1, v], .agg #[.int .i64 c2, v2]] w (TellsB (sameA ⟨c1, l⟩ ⟨c2, m⟩) w) := by
  obtain ⟨A, ca, rfl, ha1, ha2⟩ := h.form
  obtain ⟨B, cb, rfl, hb1, hb2⟩ := h2.form
  obtain ⟨N, hN⟩ : ∃ N, l.length = N := ⟨_, rfl⟩
  obtain ⟨M, hM⟩ : ∃ M, m.length = M := ⟨_, rfl⟩
  have hNb : N ≤ 9223372036854775807 := by unfold maxLen at ha2; omega
  rw [hN] at h ⊢
  rw [hM] at h2 ⊢
  by_cases e : c1 = c2
  · by_cases hlen : N = M
    · subst e
      subst hlen
      have HV : Hid (sameA ⟨c1, l⟩ ⟨c1, m⟩ = decide (l = m)) := Lib.hid (by unfold sameA; rw [decide_eq_true rfl]; rfl)
      obtain ⟨b, hb⟩ : ∃ b, w.heap.size = b := ⟨_, rfl⟩
      obtain ⟨w1, hw1⟩ : ∃ w1, (w.alloc (.cells #[.int .i64 c1, .slice A N ca] 48)).alloc (.cells #[.int .i64 c1, .slice B N cb] 48) = w1 := ⟨_, rfl⟩
      have f1 : Fr No w w1 := by rw [← hw1]; exact ((Fr.refl No w).alloc _).alloc _
      have hx : Blk w1 b 48 #[.int .i64 c1, .slice A N ca] := by rw [← hw1, ← hb]; exact (Blk.new w 48 _).no ((Fr.refl No _).alloc _)
      have hy : Blk w1 (b + 1) 48 #[.int .i64 c1, .slice B N cb] := by rw [← hw1, ← hb]; exact blk_at1 w _ 48 _
      have HX := Lib.hid hx
      have HY := Lib.hid hy
      have HP := Lib.hid (h.no f1)
      have HQ := Lib.hid (h2.no f1)
      have HN := Lib.hid hN
      have HM := Lib.hid hM
      have HF1 := Lib.hid f1
      have HW1 := Lib.hid hw1
      have HB := Lib.hid hb
      rw [HV.out]
      obtain ⟨x0, x1, -, -⟩ := blk2 hx
      obtain ⟨y0, y1, -, -⟩ := blk2 hy
      clear h h2 HV hN hM ha1 ha2 hb1 hb2 hb hw1 f1 hx hy
      go_enter Tryz.func44, Tryz.ntmps44
      go_upto_region 1 with fail
      rw [HW1.out, HB.out]
      go_wp2_with fail
      clear x0 x1 y0 y1
      go_loopg [5] N (fun k r5 wr => Hid (∃ (j : Nat), r5 = .int .i64 (j : Nat) ∧ j + k = N ∧ (∀ i (h1 : i < l.length) (h2 : i < m.length), i < j → l[i] = m[i]) ∧ Fr No w1 wr))
      case atStart => exact Lib.hid ⟨0, rfl, by omega, fun i _ _ h => absurd h (by omega), Fr.refl _ _⟩
      case round =>
      obtain ⟨j, rfl, hjk, heq, hf⟩ := hrel.out
      clear hrel
      have HF := Lib.hid hf
      by_cases hj : j < N
      · have hji : (j : Int) < (N : Int) := by omega
        have hjl : j < l.length := by have := HN.out; omega
        have hjm : j < m.length := by have := HM.out; omega
        obtain ⟨g1, o1, rfl, -, -, h5⟩ := (HP.out.no hf).at_ hjl
        obtain ⟨g2, o2, rfl, -, -, k5⟩ := (HQ.out.no hf).at_ hjm
        obtain ⟨c0, c1, c2, c3, c4⟩ := h5 j hjl
        obtain ⟨d0, d1, d2, d3, d4⟩ := k5 j hjm
        have x1 := (HX.out.no hf).cell 1
        have y1 := (HY.out.no hf).cell 1
        have hne := neq46 l[j] m[j]
        obtain ⟨p, hp⟩ : ∃ p, l[j] = p := ⟨_, rfl⟩
        obtain ⟨q, hq⟩ : ∃ q, m[j] = q := ⟨_, rfl⟩
        rw [hp] at c0 c1 c2 c3 c4 hne
        rw [hq] at d0 d1 d2 d3 d4 hne
        by_cases e : p = q
        · rw [decide_eq_true e] at hne
          have HEQ : Hid (∀ i (h1 : i < l.length) (h2 : i < m.length), i < j + 1 → l[i] = m[i]) := Lib.hid fun i h1 h2 hi => by
            rcases Nat.lt_or_ge i j with h | h
            · exact heq i h1 h2 h
            · obtain rfl : i = j := by omega
              rw [hp, hq, e]
          subst e
          clear h5 k5 heq hf hp hq
          go_upto_region 6 with fail
          go_quiet (fail)
          go_wp2_with fail
          obtain ⟨g1, rfl⟩ : ∃ g1, gk = g1 + 1 := ⟨gk - 1, by omega⟩
          go_roundg g1
          case rel => exact Lib.hid ⟨j + 1, by go_num, by omega, HEQ.out, HF.out.drewN _⟩
          all_goals omega
        · rw [decide_eq_false e] at hne
          have HV : Hid (decide (l = m) = false) := Lib.hid (decide_eq_false fun h => e (by subst h; rw [← hp, ← hq]))
          obtain ⟨pa, ⟨ph, pl⟩, pn, px⟩ := p
          obtain ⟨qa, ⟨qh, ql⟩, qn, qx⟩ := q
          clear h5 k5 heq hf hp hq e
          go_upto_region 6 with fail
          go_quiet (fail)
          go_wp2_with fail
          go_ret
          exact ⟨by rw [HV.out]; rfl, HF1.out.trans (HF.out.drewN _) fun _ _ h => h⟩
      · have hji : (N : Int) ≤ (j : Int) := by omega
        have x1 := (HX.out.no hf).cell 1
        have HV : Hid (decide (l = m) = true) := Lib.hid (decide_eq_true (List.ext_getElem (by rw [HN.out, HM.out]) fun i h1 h2 => heq i h1 h2 (by have := HN.out; omega)))
        clear heq hf
        go_wp2_with fail
        go_ret
        exact ⟨by rw [HV.out]; rfl, HF1.out.trans HF.out fun _ _ h => h⟩
    · subst e
      have HV : Hid (sameA ⟨c1, l⟩ ⟨c1, m⟩ = false) := Lib.hid (by unfold sameA; simp only; rw [decide_eq_false (p := l = m) (fun h => hlen (by rw [← hN, ← hM, h]))]; simp)
      rw [HV.out]
      have d1 : (N : Int) ≠ (M : Int) := by omega
      clear h h2 HV hN hM
      go_enter Tryz.func44, Tryz.ntmps44
      go_wp2_with fail
      go_ret
      exact ⟨rfl, ((Fr.refl No w).alloc _).alloc _⟩
  · have HV : Hid (sameA ⟨c1, l⟩ ⟨c2, m⟩ = false) := Lib.hid (by unfold sameA; simp only; rw [decide_eq_false e]; rfl)
    rw [HV.out]
    clear h h2 HV hN hM
    go_enter Tryz.func44, Tryz.ntmps44
    go_wp2_with fail
    go_ret
    exact ⟨rfl, ((Fr.refl No w).alloc _).alloc _⟩
set_option maxRecDepth 100000 in
theorem rnew_any (m : Int) (w : World) : Calls Tryz.prog 35 #[.int .i64 m] w (TellsA (newA m) w) := by
  obtain ⟨k, hk⟩ : ∃ k : Nat, (min (max m 0) 4).toNat = k := ⟨_, rfl⟩
  have hk4 : k ≤ 4 := by omega
  unfold newA
  rw [hk]
  obtain ⟨b, hb⟩ : ∃ b, w.heap.size = b := ⟨_, rfl⟩
  obtain ⟨w1, hw1⟩ : ∃ w1, w.alloc (.cells #[.int .i64 0, .slice none 0 0] 48) = w1 := ⟨_, rfl⟩
  have f1 : Fr No w w1 := by rw [← hw1]; exact (Fr.refl No w).alloc _
  have hbx : Blk w1 b 48 #[.int .i64 0, .slice none 0 0] := by rw [← hw1, ← hb]; exact Blk.new w 48 _
  have hmk := make37 k hk4 w1
  have hpo := made_po k hk4 w1
  obtain ⟨w2, hw2⟩ : ∃ w2, w1.alloc (.cells (madeCells (ptA Pt.zero) (k * 5)) 88) = w2 := ⟨_, rfl⟩
  rw [hw2] at hmk hpo
  obtain ⟨y, hy⟩ : ∃ y, w1.heap.size = y := ⟨_, rfl⟩
  rw [hy] at hmk hpo
  have f2 : Fr No w1 w2 := by rw [← hw2]; exact (Fr.refl No w1).alloc _
  obtain ⟨r0, r1, z0, z1⟩ := blk2 (hbx.no f2)
  have hyb : b + 1 = y := by rw [← hy, ← hw1, ← hb]; simp
  have HPO := Lib.hid hpo
  have HF := Lib.hid (f1.trans f2 fun _ _ h => h)
  have HW1 := Lib.hid hw1
  have HB := Lib.hid hb
  have HY := Lib.hid hyb
  have hcase : ((m < 0) = True ∧ k = 0) ∨ ((m < 0) = False ∧ (4 < m) = True ∧ k = 4) ∨ ((m < 0) = False ∧ (4 < m) = False ∧ m = (k : Int)) := by
    by_cases h : m < 0
    · exact .inl ⟨eq_true h, by omega⟩
    · by_cases h4 : 4 < m
      · exact .inr (.inl ⟨eq_false h, eq_true h4, by omega⟩)
      · exact .inr (.inr ⟨eq_false h, eq_false h4, by omega⟩)
  clear hk hb hw1 f1 hbx hpo hw2 hy f2 hyb
  rcases hcase with ⟨e1, rfl⟩ | ⟨e1, e2, rfl⟩ | ⟨e1, e2, rfl⟩
  · have hmk' : (Instr.makeSlice 46 (.int .i64 0) (.int .i64 0)).run Tryz.prog w1 = .ok (.slice (some ⟨y, 0, none⟩) 0 0) w2 := hmk
    clear hmk
    go_enter Tryz.func35, Tryz.ntmps35
    go_upto_region 1 with fail
    rw [HW1.out, HB.out]
    go_wp2_with fail
    refine bodyPost_ret (v := .agg #[.int .i64 0, .slice (some ⟨y, 0, none⟩) 0 0]) (by simp [results, Tryz.results35, go_sem, r0, r1]) rfl ⟨_, rfl, ?_, ?_⟩
    · have h1 := HB.out
      have h2 := HY.out
      exact ((HPO.out.set_low (by omega) _).set_low (by omega) _).low (by omega)
    · have hbb : w.heap.size ≤ b := by have := HB.out; omega
      refine Fr.set_new (Fr.set_new ?_ hbb _) hbb _
      exact HF.out
  · have hmk' : (Instr.makeSlice 46 (.int .i64 4) (.int .i64 4)).run Tryz.prog w1 = .ok (.slice (some ⟨y, 0, none⟩) 4 4) w2 := hmk
    clear hmk
    go_enter Tryz.func35, Tryz.ntmps35
    go_upto_region 1 with fail
    rw [HW1.out, HB.out]
    go_wp2_with fail
    refine bodyPost_ret (v := .agg #[.int .i64 0, .slice (some ⟨y, 0, none⟩) 4 4]) (by simp [results, Tryz.results35, go_sem, r0, r1]) rfl ⟨_, rfl, ?_, ?_⟩
    · have h1 := HB.out
      have h2 := HY.out
      exact ((HPO.out.set_low (by omega) _).set_low (by omega) _).low (by omega)
    · have hbb : w.heap.size ≤ b := by have := HB.out; omega
      refine Fr.set_new (Fr.set_new ?_ hbb _) hbb _
      exact HF.out
  · skip
    go_enter Tryz.func35, Tryz.ntmps35
    go_upto_region 1 with fail
    rw [HW1.out, HB.out]
    go_wp2_with fail
    refine bodyPost_ret (v := .agg #[.int .i64 0, .slice (some ⟨y, 0, none⟩) k k]) (by simp [results, Tryz.results35, go_sem, r0, r1]) rfl ⟨_, rfl, ?_, ?_⟩
    · have h1 := HB.out
      have h2 := HY.out
      exact ((HPO.out.set_low (by omega) _).set_low (by omega) _).low (by omega)
    · have hbb : w.heap.size ≤ b := by have := HB.out; omega
      refine Fr.set_new (Fr.set_new ?_ hbb _) hbb _
      exact HF.out
end Go.Proofs.YtlpglijikmnopaaGreatDoor
