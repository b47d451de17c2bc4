/- GroupBoth walked. -/
import Derived.Test.YtlpglijikmnopaaGreatDoorUG32
namespace Go.Proofs.YtlpglijikmnopaaGreatDoor
open Go.RowKit Go.Maps Go.Sort Go.Proofs
set_option linter.unusedVariables false

theorem kyd_app (d : List Nat) (l m : List Fc) : kyd d (l ++ m) = kyd d l ++ kyd d m := by unfold kyd; rw [List.map_append]
theorem grp2_both {n : Nat} {l m : List Fc} (hl : Mok l) (hm : Mok m) : grpL mergeA zA (pairs (grp2 n l ++ grp2 n m)) = grp2 n (l ++ m) := by
  unfold grp2
  rw [kyd_app]
  exact both_grp 2 (eok_kyd hl) (eok_kyd hm)
theorem grp2_count {n : Nat} {l : List Fc} (hl : l.length ≤ 4000000) {r : Rw} (hr : r ∈ grp2 n l) : 0 ≤ r.acc.count := by
  rw [(grp_acc 2 _ hr).2, FT_count 2 (Nat.le_trans (col_len _ _) (by rw [kyd_len]; exact hl))]
  omega
theorem grp2_sum {n : Nat} {l : List Fc} (hl : l.length ≤ 4000000) : sumC (grp2 n l) = (l.length : Int) := by
  have := sum_grp 2 (es := kyd (listB (n : Int)) l) (by rw [kyd_len]; exact hl)
  rw [kyd_len] at this
  exact this
theorem sumC_app (l m : List Rw) : sumC (l ++ m) = sumC l + sumC m := by unfold sumC; rw [List.map_append, List.sum_append]
theorem sumC_pos : ∀ {l : List Rw}, (∀ r ∈ l, 0 ≤ r.acc.count) → 0 ≤ sumC l
  | [], _ => by decide
  | r :: l, h => by
    have := sumC_pos (l := l) fun x hx => h x (by simp [hx])
    have := h r (by simp)
    have e : sumC (r :: l) = r.acc.count + sumC l := by unfold sumC; rw [List.map_cons, List.sum_cons]
    omega
theorem sumC_take {l : List Rw} (h : ∀ r ∈ l, 0 ≤ r.acc.count) (j : Nat) : 0 ≤ sumC (l.take j) ∧ sumC (l.take j) ≤ sumC l := by
  have e : sumC l = sumC (l.take j) + sumC (l.drop j) := by rw [← sumC_app, List.take_append_drop]
  have h1 := sumC_pos (l := l.take j) fun r hr => h r (List.mem_of_mem_take hr)
  have h2 := sumC_pos (l := l.drop j) fun r hr => h r (List.mem_of_mem_drop hr)
  omega
theorem sumC_next {l : List Rw} {j : Nat} (hj : j < l.length) : sumC (l.take (j + 1)) = sumC (l.take j) + l[j].acc.count := by
  rw [take_succ hj, sumC_app]
  unfold sumC
  simp
theorem srt_next {l : List Rw} (h : Srt l) {q j : Nat} (hq : q < j) (hj : j < l.length) : cmpK l[q].key l[j].key = -1 := by
  have h1 : l[q].key < l[j].key := List.pairwise_iff_getElem.1 h q j (by omega) hj hq
  have h2 := (cmpK_neg _ _).2 h1
  have h3 := (cmpK_range l[q].key l[j].key).1
  omega
theorem thr_app {l m : List Fc} (h : Thr l) (k : Thr m) : Thr (l ++ m) := fun f hf => by
  rcases List.mem_append.1 hf with h1 | h1
  · exact h f h1
  · exact k f h1
theorem fok_app {l m : List Fc} (h : ∀ f ∈ l, Fok f) (k : ∀ f ∈ m, Fok f) : ∀ f ∈ l ++ m, Fok f := fun f hf => by
  rcases List.mem_append.1 hf with h1 | h1
  · exact h f h1
  · exact k f h1
/-- Two lists of facts, one behind the other, in a row of one's own. -/
theorem both_run {w : World} {u u2 : Value} {l m : List Fc} (hl : FR (fun k => k < w.heap.size) w u l) (hm : FR (fun k => k < w.heap.size) w u2 m) (h1 : l.length ≤ 200) (h2 : m.length ≤ 200) :
    ∃ A c w1, (∀ ty, (Builtin.append_ #[22, 22] ty #[.slice none 0 0, u]).run Tryz.prog w = .ok (.slice A l.length c) w1) ∧ ∃ A2 c2 w2, (∀ ty, (Builtin.append_ #[22, 22] ty #[.slice A l.length c, u2]).run Tryz.prog w1 = .ok (.slice A2 (l ++ m).length c2) w2) ∧ FR (fun k => k < w2.heap.size) w2 (.slice A2 (l ++ m).length c2) (l ++ m) ∧ Fr No w w2 := by
  obtain ⟨v1, w1, r1, g1, f1, -⟩ := app_facts (GrX.nil_ (fun k => k < w.heap.size) w.heap.size 63 2 fcG w) (Nat.le_refl _) hl (fun k hk => ⟨hk, fun e => by cases e⟩) (by simp) (by omega)
  rw [List.nil_append] at g1
  have n1 : Fr No w w1 := f1.mono fun k _ e => by cases e
  have hm1 : FR (fun k => k < w.heap.size) w1 u2 m := hm.no n1
  obtain ⟨v2, w2, r2, g2, f2, -⟩ := app_facts g1 n1.size hm1 (fun k hk => ⟨hk, fun e => by have := (g1.lt k e).1; omega⟩) (by omega) (by omega)
  obtain ⟨A, c, rfl⟩ := g1.len
  obtain ⟨A2, c2, rfl⟩ := g2.len
  refine ⟨A, c, w1, r1, A2, c2, w2, r2, ?_, n1.trans f2 fun k hk e => by have := (g1.lt k e).1; omega⟩
  have hX : GrX (fun k => k < w2.heap.size) 0 63 2 fcG w2 (.slice A2 (l ++ m).length c2) (l ++ m) := by
    obtain ⟨K, xs, ho, hel, hK⟩ := g2
    exact ⟨K, xs, own_base ho (Nat.zero_le _), hel, fun k hk => ⟨(hK k hk).2.1, (hK k hk).2⟩⟩
  exact FR.lt_ (K := fun k => 0 ≤ k) ((hX.grow fun k _ => Nat.zero_le k).row fcG_elem)
set_option maxRecDepth 100000 in
set_option maxHeartbeats 2000000 in
theorem groupBoth_any {fs gs : List Fc} {v v2 : Value} {s : Int} (w : World) (h : FR (fun k => k < w.heap.size) w v fs) (h2 : FR (fun k => k < w.heap.size) w v2 gs) (hok : ∀ f ∈ fs, Fok f) (hok2 : ∀ f ∈ gs, Fok f) (hp : Pv w) : Calls Tryz.prog 7 #[v, v2, .int .i64 s] w (TellsB true w) := by
  obtain ⟨n, hn, b1⟩ := and7 s
  have hL := sound_len fs
  have hM := sound_len gs
  have HA := Lib.hid (awake_any w hp)
  have HS := Lib.hid (fun (w' : World) (f : Fr No w w') => sound_any w' (h.no_lt f))
  have HS2 := Lib.hid (fun (w' : World) (f : Fr No w w') => sound_any w' (h2.no_lt f))
  have hm1 : Mok (soundL fs) := fun f hf => h.mok f (soundL_mem hf).1
  have hm2 : Mok (soundL gs) := fun f hf => h2.mok f (soundL_mem hf).1
  have hfo := sound_fok hok
  have hgo := sound_fok hok2
  have ht1 := thr_sound fs
  have ht2 := thr_sound gs
  obtain ⟨A0, nn, c0, rfl, -⟩ := row_form h
  obtain ⟨A02, nn2, c02, rfl, -⟩ := row_form h2
  obtain ⟨l, hl⟩ : ∃ l, soundL fs = l := ⟨_, rfl⟩
  obtain ⟨m, hm⟩ : ∃ m, soundL gs = m := ⟨_, rfl⟩
  rw [hl] at HS hL hm1 hfo ht1
  rw [hm] at HS2 hM hm2 hgo ht2
  have hlm : (l ++ m).length ≤ 400 := by rw [List.length_append]; omega
  have HH := Lib.hid (fun (w' : World) (v' : Value) (h' : FR (fun k => k < w'.heap.size) w' v' l) (hp' : Pv w') => hash_g (n := n) w' hn h' hfo ht1 (by omega) hp')
  have HT := Lib.hid (fun (w' : World) (v' : Value) (h' : FR (fun k => k < w'.heap.size) w' v' m) => sort_g (n := n) w' hn h' hgo ht2 (by omega))
  have HB := Lib.hid (fun (w' : World) (v' : Value) (h' : FR (fun k => k < w'.heap.size) w' v' (l ++ m)) (hp' : Pv w') => hash_g (n := n) w' hn h' (fok_app hfo hgo) (thr_app ht1 ht2) (by omega) hp')
  have HMg := Lib.hid (fun (w' : World) (v' u' : Value) (i1 : RR (fun k => k < w'.heap.size) w' v' (grp2 n l)) (i2 : RR (fun k => k < w'.heap.size) w' u' (grp2 n m)) (hp' : Pv w') => merge_w w' i1 i2 (rok_app (grp2_rok hfo hm1) (grp2_rok hgo hm2)) (by have := grp2_len n l; have := grp2_len n m; omega) hp')
  rw [grp2_both hm1 hm2] at HMg
  have HSa := Lib.hid (fun (w' : World) (v' u' : Value) (i1 : RR (fun k => k < w'.heap.size) w' v' (grp2 n (l ++ m))) (i2 : RR (fun k => k < w'.heap.size) w' u' (grp2 n (l ++ m))) => sameR_any w' i1 i2)
  rw [(sameRs_iff _ _).2 rfl] at HSa
  have hcnt : ∀ r ∈ grp2 n (l ++ m), 0 ≤ r.acc.count := fun r hr => grp2_count (by omega) hr
  have hsum : sumC (grp2 n (l ++ m)) = ((l ++ m).length : Int) := grp2_sum (by omega)
  have hsrt : Srt (grp2 n (l ++ m)) := grp_srt _ _ _
  have hRl := grp2_len n (l ++ m)
  have HRUN := Lib.hid (fun (w' : World) (u u2 : Value) (i1 : FR (fun k => k < w'.heap.size) w' u l) (i2 : FR (fun k => k < w'.heap.size) w' u2 m) => both_run i1 i2 hL hM)
  have HP := Lib.hid hp
  obtain ⟨R, hR⟩ : ∃ R, grp2 n (l ++ m) = R := ⟨_, rfl⟩
  rw [hR] at HB HMg HSa hcnt hsum hsrt hRl
  obtain ⟨NB, hNB⟩ : ∃ k, (l ++ m).length = k := ⟨_, rfl⟩
  rw [hNB] at hlm hsum hRl HRUN
  obtain ⟨N, hN⟩ : ∃ k, R.length = k := ⟨_, rfl⟩
  rw [hN] at hRl
  have HTK := Lib.hid (fun j => sumC_take hcnt j)
  rw [hsum] at HTK
  have HNX := Lib.hid (fun (j : Nat) (hj : j < R.length) => sumC_next hj)
  have HSR := Lib.hid (fun (q j : Nat) (hq : q < j) (hj : j < R.length) => srt_next hsrt hq hj)
  have HSUM := Lib.hid hsum
  have HN := Lib.hid hN
  clear h h2 hok hok2 hp hL hM hm1 hm2 hfo hgo ht1 ht2 hl hm hn hR hcnt hsum hsrt hNB hN
  go_enter Tryz.func7, Tryz.ntmps7
  go_upto_region 2 with (go_at_call 10; refine HA.out.mono ?_; rintro e w1 ⟨rfl, f1⟩; have H1 := Lib.hid f1; clear f1)
  go_upto_region 3 with (go_at_call 27; refine (HS.out _ H1.out).mono ?_; rintro e w2 ⟨A2, n2, c2, rfl, hn2, hf2, f2⟩; have HF2 := Lib.hid hf2; have H2 := Lib.hid (H1.out.tr f2); have HN2 := Lib.hid hn2; clear hf2 f2 hn2)
  go_upto_region 4 with (go_at_call 27; refine (HS2.out _ H2.out).mono ?_; rintro e w3 ⟨A3, n3, c3, rfl, hn3, hf3, f3⟩; have HF3 := Lib.hid hf3; have HL3 := Lib.hid (HF2.out.no_lt f3); have H3 := Lib.hid (H2.out.tr f3); clear hf3 f3 hn3)
  obtain ⟨A4, c4, w4, r4, A5, c5, w5, r5, hf5, f5⟩ := HRUN.out w3 _ _ HL3.out HF3.out
  rw [← HN2.out] at r4 r5
  have HR4 := Lib.hid r4
  have HR5 := Lib.hid r5
  have HF5 := Lib.hid hf5
  have HL5 := Lib.hid (HL3.out.no_lt f5)
  have HM5 := Lib.hid (HF3.out.no_lt f5)
  have H5 := Lib.hid (H3.out.tr f5)
  clear r4 r5 hf5 f5 HN2 HF2 HF3 HL3
  go_upto_region 7 with (at_builtin; refine wpList_add rfl _ _ _ _ rfl _ _ _ _ rfl rfl (HR4.out _) ?_)
  go_upto_region 8 with (at_builtin; refine wpList_add rfl _ _ _ _ rfl _ _ _ _ rfl rfl (HR5.out _) ?_)
  go_upto_region 9 with (first
    | (go_at_call 13; refine (HH.out _ _ HL5.out (HP.out.no H5.out)).mono ?_; rintro e w6 ⟨A6, n6, c6, rfl, hn6, hr6, f6⟩; have HR6 := Lib.hid hr6; have HM6 := Lib.hid (HM5.out.no_lt f6); have H6 := Lib.hid (H5.out.tr f6); have HF6 := Lib.hid (HF5.out.no_lt f6); clear hr6 f6 hn6)
    | (go_at_call 14; refine (HT.out _ _ HM6.out).mono ?_; rintro e w7 ⟨A7, n7, c7, rfl, hn7, hr7, f7⟩; have HR7 := Lib.hid hr7; have HRL := Lib.hid (HR6.out.no_lt f7); have H7 := Lib.hid (H6.out.tr f7); have HF7 := Lib.hid (HF6.out.no_lt f7); clear hr7 f7 hn7)
    | (go_at_call 20; refine (HMg.out _ _ _ HRL.out HR7.out (HP.out.no H7.out)).mono ?_; rintro e w8 ⟨A8, n8, c8, rfl, hn8, hr8, f8⟩; have HR8 := Lib.hid hr8; have H8 := Lib.hid (H7.out.tr f8); have HF8 := Lib.hid (HF7.out.no_lt f8); have e8 := hn8.trans HN.out; clear hr8 f8 hn8; subst e8))
  clear HR6 HM6 HF6 HR7 HRL HF7 HL5 HM5 HF5 HR4 HR5
  go_upto_region 11 with fail
  go_loopg [13, 14] n8 (fun k r13 r14 wr => Hid (∃ (j : Nat) (X : Int), r14 = .int .i64 (j : Nat) ∧ j + k = n8 ∧ r13 = .int .i64 X ∧ X = sumC (R.take j) ∧ Fr No w8 wr))
  case atStart => exact Lib.hid ⟨0, 0, rfl, by omega, rfl, rfl, Fr.refl _ _⟩
  case round =>
  obtain ⟨j, X, rfl, hjk, rfl, hX, hf⟩ := hrel.out
  clear hrel
  have HF := Lib.hid hf
  have HX := Lib.hid hX
  have hXb := HTK.out j
  rw [← hX] at hXb
  clear hf hX
  by_cases hj : j < n8
  · have hji : (j : Int) < (n8 : Int) := by omega
    have hjR : j < R.length := by have := HN.out; omega
    obtain ⟨g, off, kv, pv, rfl, -, hg, d0, d1, -, hk, -⟩ := (HR8.out.no_lt HF.out).at_ hjR
    have hnx := HNX.out j hjR
    have hXc := HTK.out (j + 1)
    rw [hnx, ← HX.out] at hXc
    have HNX2 : Hid (sumC (R.take (j + 1)) = X + R[j].acc.count) := Lib.hid (by rw [hnx, ← HX.out])
    have HKJ := Lib.hid hk
    have HSRJ := Lib.hid (fun q (hq : q < j) => HSR.out q j hq hjR)
    clear hnx hk
    generalize R[j] = x at *
    obtain ⟨C, hC⟩ : ∃ C, x.acc.count = C := ⟨_, rfl⟩
    rw [hC] at d1 hXc HNX2
    clear hC
    have hadd : wrap64 (X + C) = X + C := IntWalk.wrap64_in _ (by omega)
    go_upto_region 14 with fail
    rcases Nat.eq_zero_or_pos j with h0 | h0
    · have hd : decide ((0 : Int) < (j : Int)) = false := decide_eq_false (by omega)
      go_quiet (fail)
      go_wp2_with fail
      obtain ⟨g1, rfl⟩ : ∃ g1, gk = g1 + 1 := ⟨gk - 1, by omega⟩
      go_roundg g1
      case rel => exact Lib.hid ⟨j + 1, X + C, by go_num, by omega, by first | rfl | rw [hadd], by rw [HNX2.out], HF.out.drewN _⟩
      all_goals omega
    · have hd : decide ((0 : Int) < (j : Int)) = true := decide_eq_true (by omega)
      obtain ⟨q, hq⟩ : ∃ q, j = q + 1 := ⟨j - 1, by omega⟩
      have hqR : q < R.length := by have := HN.out; omega
      have em : IntKind.i64.wrap ((j : Int) - 1) = (q : Int) := by rw [IntWalk.i64_in _ (by omega)]; omega
      obtain ⟨g', off', kv', pv', e1, -, -, d0', -, -, hk', -⟩ := (HR8.out.no_lt HF.out).at_ hqR
      obtain ⟨rfl, rfl⟩ : g = g' ∧ off = off' := by
        have := Option.some.inj e1
        injection this with a1 a2
        exact ⟨a1, a2⟩
      have hqi : (q : Int) < (n8 : Int) := by omega
      have hc := HSRJ.out q (by omega)
      obtain ⟨Ak, ck, rfl, -⟩ := HKJ.out.form
      obtain ⟨Aq, cq, rfl, -⟩ := hk'.form
      have HKQ := Lib.hid hk'
      have K1 := Lib.hid (fun dd os => tells_grown (w := wr) (fun w' f' => compare_any w' (HKQ.out.no f') (HKJ.out.no f')) dd os)
      rw [hc] at K1
      have z1 : ∀ dd os, (grow (redrawn wr dd) os).cell? ⟨g, off + q * 3, none⟩ = some (.slice Aq R[q].key.length cq) := fun dd os => cell_regrown d0' dd os
      have z2 : ∀ dd os, (grow (redrawn wr dd) os).cell? ⟨g, off + j * 3, none⟩ = some (.slice Ak x.key.length ck) := fun dd os => cell_regrown d0 dd os
      clear d0 d0' d1 hk' hc e1 HKQ HKJ HSRJ hq
      refine wp_region_quiet_below mixedB (by kernel_rfl) ?_
      repeat (first | go_big_quiet_step (exact K1.out _ _) | quiet_step (exact K1.out _ _))
      refine wpQuiet_nil ?_
      intro wx hpx
      have HBW : Hid (Fr No wr wx) := Lib.hid (by obtain ⟨p, rfl⟩ := hpx; exact fr_reg _ _ _)
      clear hpx
      go_wp2_with fail
      obtain ⟨g1, rfl⟩ : ∃ g1, gk = g1 + 1 := ⟨gk - 1, by omega⟩
      go_roundg g1
      case rel => exact Lib.hid ⟨j + 1, X + C, by go_num, by omega, by first | rfl | rw [hadd], by rw [HNX2.out], HF.out.tr HBW.out⟩
      all_goals omega
  · have hji : (n8 : Int) ≤ (j : Int) := by omega
    have hXe : X = (NB : Int) := by rw [HX.out, List.take_of_length_le (by have := HN.out; omega)]; exact HSUM.out
    subst hXe
    go_wp2_with (first
      | (go_at_call 13; refine (HB.out _ _ (HF8.out.no_lt HF.out) (HP.out.no (H8.out.tr HF.out))).mono ?_; rintro e w9 ⟨A9, n9, c9, rfl, hn9, hr9, f9⟩; have HR9 := Lib.hid hr9; have HRA := Lib.hid (HR8.out.no_lt (HF.out.tr f9)); have H9 := Lib.hid (H8.out.tr (HF.out.tr f9)); clear hr9 f9 hn9)
      | (go_at_call 24; refine (HSa.out _ _ _ HRA.out HR9.out).mono ?_; rintro e w10 ⟨rfl, f10⟩; have H10 := Lib.hid (H9.out.tr f10); clear f10))
    go_ret
    exact ⟨rfl, H10.out⟩
end Go.Proofs.YtlpglijikmnopaaGreatDoor
