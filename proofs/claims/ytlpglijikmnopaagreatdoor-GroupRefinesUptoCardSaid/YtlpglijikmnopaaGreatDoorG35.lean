/- GroupRefines walked. -/
import Derived.Test.YtlpglijikmnopaaGreatDoorGR
namespace Go.Proofs.YtlpglijikmnopaaGreatDoor
open Go.RowKit Go.Maps Go.Sort Go.Proofs
set_option linter.unusedVariables false

theorem last_if {pp t : Nat} (h : ¬ t = pp) : (if pp < t then (pp : Int) else -1) = if pp < t + 1 then (pp : Int) else -1 := by
  by_cases h9 : pp < t
  · rw [if_pos h9, if_pos (by omega)]
  · rw [if_neg h9, if_neg (by omega)]
theorem regroup_one {l : List Fc} {n m : Nat} (hn : n < 8) (hm8 : m < 8) (hmn : m &&& n = m) (hok : ∀ f ∈ l, Fok f) (hm : Mok l) (ht : Thr l) (w : World) (j : Nat) (hj : j < (grp2 n l).length) (v : Value) (ha : RR (fun k => k < w.heap.size) w v [(grp2 n l)[j]]) (hp : Pv w) :
    Calls Tryz.prog 18 #[v, .int .i64 (n : Nat), .int .i64 (m : Nat)] w (TellsWg [⟨upK n m (grp2 n l)[j].key, (grp2 n l)[j].acc⟩] w) := by
  obtain ⟨h1, h2⟩ := sub_and hn hm8 hmn
  have hmem : (grp2 n l)[j] ∈ grp2 n l := List.getElem_mem hj
  have hrok := grp2_rok (n := n) hok hm
  have hbad := bad_grp 2 hn ht
  have hacc : ∃ c, (grp2 n l)[j].acc = FT 2 c ∧ Cok c := ⟨_, (grp_acc 2 _ hmem).2, (eok_kyd hm).col _⟩
  rw [← one_up (n := n) (m := m) hacc]
  refine regroup_w w ha (fun r hr => ?_) (by simp) hp (set_fin hn) h1 h2 ?_
  · rw [List.mem_singleton.1 hr]
    exact hrok _ hmem
  · have := (List.any_eq_false.1 hbad) _ hmem
    simpa using this
set_option maxRecDepth 100000 in
set_option maxHeartbeats 4000000 in
theorem groupRefines_any {fs : List Fc} {v : Value} {s p : Int} (w : World) (h : FR (fun k => k < w.heap.size) w v fs) (hok : ∀ f ∈ fs, Fok f) (hp : Pv w) : Calls Tryz.prog 9 #[v, .int .i64 s, .int .i64 p] w (TellsB true w) := by
  obtain ⟨m, hm8, b1⟩ := and7 s
  obtain ⟨q, n, hn, b2, b3, hmn⟩ := or7 hm8 p
  have hL := sound_len fs
  have HA := Lib.hid (awake_any w hp)
  have HS := Lib.hid (fun (w' : World) (f : Fr No w w') => sound_any w' (h.no_lt f))
  have hmk : Mok (soundL fs) := fun f hf => h.mok f (soundL_mem hf).1
  have hfo := sound_fok hok
  have ht := thr_sound fs
  obtain ⟨A0, nn, c0, rfl, -⟩ := row_form h
  obtain ⟨l, hl⟩ : ∃ l, soundL fs = l := ⟨_, rfl⟩
  rw [hl] at HS hL hmk hfo ht
  have hsub := (sub_and hn hm8 hmn).2
  have HH := Lib.hid (fun (w' : World) (v' : Value) (h' : FR (fun k => k < w'.heap.size) w' v' l) (hp' : Pv w') => hash_g (n := m) w' hm8 h' hfo ht (by omega) hp')
  have HT := Lib.hid (fun (w' : World) (v' : Value) (h' : FR (fun k => k < w'.heap.size) w' v' l) => sort_g (n := n) w' hn h' hfo ht (by omega))
  have HR := Lib.hid (regroup_one hn hm8 hmn hfo hmk ht)
  have hle := small_le hn ht hsub
  have hup := fun (j : Nat) (hj : j < (grp2 n l).length) => up_mem hn ht hsub (List.getElem_mem hj)
  have hcnt : ∀ r ∈ grp2 n l, 0 ≤ r.acc.count := fun r hr => grp2_count (by omega) hr
  have hsum : sumC (grp2 n l) = (l.length : Int) := grp2_sum (by omega)
  have hsrt : Srt (grp2 m l) := grp_srt _ _ _
  have hall := cntL_all hn ht hsub (l := l) (by omega)
  have hAl := grp2_len m l
  have hBl := grp2_len n l
  have HP := Lib.hid hp
  obtain ⟨A, hA⟩ : ∃ R, grp2 m l = R := ⟨_, rfl⟩
  rw [hA] at HH hle hup hsrt hall hAl
  generalize grp2 n l = Bq at HT HR hle hup hcnt hsum hall hBl
  obtain ⟨NA, hNA⟩ : ∃ k, A.length = k := ⟨_, rfl⟩
  obtain ⟨NB, hNB⟩ : ∃ k, Bq.length = k := ⟨_, rfl⟩
  rw [hNA] at hle hAl
  rw [hNB] at hle hBl
  have HNX := Lib.hid (fun (j : Nat) (hj : j < Bq.length) => cntL_next (n := n) (m := m) hsrt hj (hup j hj))
  have HUP := Lib.hid (fun (j : Nat) (hj : j < Bq.length) => posK_lt.2 (hup j hj))
  have HUQ := Lib.hid (fun (j : Nat) (hj : j < Bq.length) (t : Nat) (ht : t < A.length) => posK_uniq hsrt (hup j hj) ht)
  have HBD := Lib.hid (fun (j i : Nat) (x : Int) (hx : (cntL n m A (Bq.take j))[i]? = some x) => cntL_bound hcnt hx)
  have HCB := Lib.hid (fun (j : Nat) (hj : j < Bq.length) => (⟨hcnt _ (List.getElem_mem hj), by have h1 := sumC_take hcnt j; have h2 := sumC_take hcnt (j + 1); rw [sumC_next hj] at h2; omega⟩ : 0 ≤ Bq[j].acc.count ∧ Bq[j].acc.count ≤ sumC Bq))
  rw [hsum] at HBD HCB
  have HALL := Lib.hid hall
  have HNA := Lib.hid hNA
  have HNB := Lib.hid hNB
  have hlei : (NA : Int) ≤ (NB : Int) := by omega
  have hNA2 : NA ≤ 200 := by omega
  have hNB2 : NB ≤ 200 := by omega
  clear h hok hp hmk hfo ht hl hsub hle hup hcnt hsum hsrt hall hA hNA hNB hm8 hn hmn hAl hBl
  go_enter Tryz.func9, Tryz.ntmps9
  go_upto_region 2 with (go_at_call 10; refine HA.out.mono ?_; rintro e w1 ⟨rfl, f1⟩; have H1 := Lib.hid f1; clear f1)
  go_upto_region 3 with (go_at_call 27; refine (HS.out _ H1.out).mono ?_; rintro e w2 ⟨A2, n2, c2, rfl, hn2, hf2, f2⟩; have HF2 := Lib.hid hf2; have H2 := Lib.hid (H1.out.tr f2); clear hf2 f2 hn2)
  go_upto_region 5 with fail
  go_upto_region 6 with (go_at_call 13; refine (HH.out _ _ HF2.out (HP.out.no H2.out)).mono ?_; rintro e w4 ⟨A4, n4, c4, rfl, hn4, hr4, f4⟩; have HR4 := Lib.hid hr4; have HF4 := Lib.hid (HF2.out.no_lt f4); have H4 := Lib.hid (H2.out.tr f4); have e4 := hn4.trans HNA.out; clear hr4 f4 hn4; subst e4)
  go_upto_region 7 with (go_at_call 14; refine (HT.out _ _ HF4.out).mono ?_; rintro e w5 ⟨A5, n5, c5, rfl, hn5, hr5, f5⟩; have HR5 := Lib.hid hr5; have HRA := Lib.hid (HR4.out.no_lt f5); have H5 := Lib.hid (H4.out.tr f5); have e5 := hn5.trans HNB.out; clear hr5 f5 hn5; subst e5)
  clear HR4 HF4 HF2
  have hdec : decide (n5 < n4) = false := decide_eq_false (by omega)
  have hmk := make53 n4 (by omega) w5
  obtain ⟨G, hG⟩ : ∃ G, w5.heap.size = G := ⟨_, rfl⟩
  have hib : IB (w5.alloc (.cells ((List.replicate n4 (0 : Int)).map fun x => Value.int .i64 x).toArray 3)) G (cntL n m A (Bq.take 0)) := by
    rw [List.take_zero, cntL_nil, HNA.out, ← hG]
    exact Blk.new _ _ _
  obtain ⟨w6, hw6⟩ : ∃ w6, w5.alloc (.cells ((List.replicate n4 (0 : Int)).map fun x => Value.int .i64 x).toArray 3) = w6 := ⟨_, rfl⟩
  rw [hw6] at hmk hib
  rw [hG] at hmk
  have HG := Lib.hid hG
  have HIB := Lib.hid hib
  have HF6 : Hid (Fr (fun k => G ≤ k) w5 w6) := Lib.hid (by rw [← hw6]; exact (Fr.refl _ _).alloc _)
  have HA5 : Hid (RR (fun k => k < G) w5 (.slice A4 n4 c4) A) := Lib.hid (by have := HRA.out; rw [hG] at this; exact this)
  have HB5 : Hid (RR (fun k => k < G) w5 (.slice A5 n5 c5) Bq) := Lib.hid (by have := HR5.out; rw [hG] at this; exact this)
  have HPv : Hid (∀ w', Fr (fun k => G ≤ k) w5 w' → Pv w') := Lib.hid fun w' f => (HP.out.no H5.out).fr f (by have h1 := HP.out.lt; have h2 := H5.out.size; have h3 := HG.out; omega)
  clear hib hw6 hG HRA HR5
  go_upto_region 11 with fail
  clear hmk
  go_loopg [14, 15, 16, 17, 18] n5 (fun k r14 r15 r16 r17 r18 wr => Hid (∃ j : Nat, r14 = .int .i64 (j : Nat) ∧ j + k = n5 ∧ IB wr G (cntL n m A (Bq.take j)) ∧ Fr (fun k => G ≤ k) w5 wr))
  case atStart => exact Lib.hid ⟨0, rfl, by omega, HIB.out, HF6.out⟩
  case round =>
  obtain ⟨j, rfl, hjk, hib, hf⟩ := hrel.out
  clear hrel
  obtain ⟨wo, rfl⟩ : ∃ wo, wo = wr := ⟨_, rfl⟩
  have HI := Lib.hid hib
  have HF := Lib.hid hf
  clear hib hf
  by_cases hj : j < n5
  · have hji : (j : Int) < (n5 : Int) := by omega
    have hjR : j < Bq.length := by have := HNB.out; omega
    have HBo := Lib.hid (HB5.out.past HF.out)
    obtain ⟨g, off, kv, pv, rfl, -, hg, d0, d1, -, hk, -⟩ := HBo.out.at_ hjR
    obtain ⟨hone, hnc⟩ := HBo.out.one_ hjR
    have HONE := Lib.hid hone
    have hsl : ∀ w0 : World, (Instr.slice 28 (.slice (some ⟨g, off, none⟩) n5 c5) (some (.int .i64 (j : Int))) (some (.int .i64 (wrap64 ((j : Int) + 1)))) none).run Tryz.prog w0 = .ok (.slice (some ⟨g, off + j * 3, none⟩) 1 (c5 - j)) w0 := fun w0 => by
      rw [IntWalk.wrap64_in _ (by omega)]
      exact slice_one (w := w0) (g := g) (off := off) hj hnc
    have HCo := Lib.hid (HPv.out wo HF.out)
    have HRj := Lib.hid (fun (w' : World) (v' : Value) => HR.out w' j hjR v')
    obtain ⟨x0, hx0, hnx⟩ := HNX.out j hjR
    have hxb := HBD.out j _ x0 hx0
    have hcb := HCB.out j hjR
    have hpA := HUP.out j hjR
    have HUj := Lib.hid (fun t ht => HUQ.out j hjR t ht)
    have HX0 := Lib.hid hx0
    have HNj := Lib.hid hnx
    clear hone hk d0 hx0 hnx
    generalize Bq[j] = x at *
    obtain ⟨kk, hkk⟩ : ∃ kk, upK n m x.key = kk := ⟨_, rfl⟩
    rw [hkk] at HRj hpA HUj HX0 HNj
    obtain ⟨pp, hpp⟩ : ∃ pp, posK A kk = pp := ⟨_, rfl⟩
    rw [hpp] at hpA HUj HX0 HNj
    obtain ⟨C, hC⟩ : ∃ C, x.acc.count = C := ⟨_, rfl⟩
    rw [hC] at d1 HNj hcb
    rw [HNA.out] at hpA
    clear hkk hpp hC
    obtain ⟨g1, rfl⟩ : ∃ g1, gk = g1 + 1 := ⟨gk - 1, by omega⟩
    have D1 := Lib.hid d1
    clear d1
    go_upto_region 14 with (go_at_call 18; refine (HRj.out _ _ HONE.out.lt_ HCo.out).mono ?_; rintro e w7 ⟨A7, n7, c7, rfl, hn7, hr7, f7⟩; have HR7 := Lib.hid hr7; have H7 := Lib.hid f7; have e7 : n7 = 1 := hn7; clear hr7 f7 hn7; subst e7)
    obtain ⟨gU, oU, kvU, pvU, rfl, -, -, u0, -, -, hkU, -⟩ := HR7.out.at_ (j := 0) (by simp)
    simp only [Nat.zero_mul, Nat.add_zero, List.getElem_cons_zero] at u0 hkU
    obtain ⟨AkU, ckU, rfl, -⟩ := hkU.form
    have HKU := Lib.hid hkU
    have U0 := Lib.hid u0
    clear hkU u0
    go_upto_region 18 with fail
    clear hsl
    have hppi : (pp : Int) < (n4 : Int) := by omega
    go_loopg [17, 18] n4 (fun k r17 r18 wr => Hid (∃ (t : Nat) (y : Int), r18 = .int .i64 (t : Nat) ∧ t + k = n4 ∧ r17 = .int .i64 y ∧ y = (if pp < t then (pp : Int) else -1) ∧ Fr No w7 wr))
    case atStart => exact Lib.hid ⟨0, -1, rfl, by omega, rfl, by rw [if_neg (by omega)], Fr.refl _ _⟩
    case round =>
    obtain ⟨t, y, rfl, htk, rfl, hy, hf7⟩ := hrel.out
    clear hrel
    have HY := Lib.hid hy
    have HF7 := Lib.hid hf7
    have HFw := Lib.hid ((HF.out.trans H7.out fun _ _ h => h.elim).trans hf7 fun _ _ h => h.elim)
    clear hy hf7
    by_cases ht : t < n4
    · have hti : (t : Int) < (n4 : Int) := by omega
      have htA : t < A.length := by have := HNA.out; omega
      obtain ⟨gA, oA, kvA, pvA, rfl, -, -, a0, -, -, hkA, -⟩ := (HA5.out.past HFw.out).at_ htA
      obtain ⟨AkA, ckA, rfl, -⟩ := hkA.form
      have hiff := HUj.out t htA
      have HKA := Lib.hid hkA
      have K1 := Lib.hid (fun dd os => tells_grown (w := wr) (fun w' f' => compare_any w' (HKA.out.no f') ((HKU.out.no HF7.out).no f')) dd os)
      have hz := cmpK_zero A[t].key kk
      obtain ⟨qq, hqq⟩ : ∃ qq, cmpK A[t].key kk = qq := ⟨_, rfl⟩
      rw [hqq] at K1 hz
      have z1 : ∀ dd os, (grow (redrawn wr dd) os).cell? ⟨gA, oA + t * 3, none⟩ = some (.slice AkA A[t].key.length ckA) := fun dd os => cell_regrown a0 dd os
      have z2 : ∀ dd os, (grow (redrawn wr dd) os).cell? ⟨gU, oU, none⟩ = some (.slice AkU kk.length ckU) := fun dd os => cell_regrown ((cell_of_heap (HF7.out.block gU (Go.World.block_lt_of_cell? w7 _ U0.out) id)).trans U0.out) dd os
      have hqt : qq = 0 ↔ t = pp := hz.trans hiff
      clear a0 hkA hiff hz hqq HKA
      by_cases h0 : qq = 0
      · subst h0
        have HTP : Hid (t = pp) := Lib.hid (hqt.1 rfl)
        clear hqt
        go_upto_region 20 with fail
        refine wp_region_quiet_below mixedB (by kernel_rfl) ?_
        repeat (first | go_big_quiet_step (exact K1.out _ _) | quiet_step (exact K1.out _ _))
        refine wpQuiet_nil ?_
        intro wx hpx
        have HBW : Hid (Fr No wr wx) := Lib.hid (by obtain ⟨p, rfl⟩ := hpx; exact fr_reg _ _ _)
        clear hpx
        go_wp2_with fail
        obtain ⟨g2, rfl⟩ : ∃ g2, gk = g2 + 1 := ⟨gk - 1, by omega⟩
        go_roundg g2
        case rel => exact Lib.hid ⟨t + 1, t, by go_num, by omega, rfl, by have := HTP.out; rw [if_pos (by omega), this], HF7.out.tr HBW.out⟩
        all_goals omega
      · have hq0 : (qq == 0) = false := by simpa using h0
        have HTP : Hid (¬ t = pp) := Lib.hid (fun e => h0 (hqt.2 e))
        clear hqt
        go_upto_region 20 with fail
        refine wp_region_quiet_below mixedB (by kernel_rfl) ?_
        repeat (first | go_big_quiet_step (exact K1.out _ _) | quiet_step (exact K1.out _ _))
        refine wpQuiet_nil ?_
        intro wx hpx
        have HBW : Hid (Fr No wr wx) := Lib.hid (by obtain ⟨p, rfl⟩ := hpx; exact fr_reg _ _ _)
        clear hpx
        go_wp2_with fail
        obtain ⟨g2, rfl⟩ : ∃ g2, gk = g2 + 1 := ⟨gk - 1, by omega⟩
        go_roundg g2
        case rel => exact Lib.hid ⟨t + 1, y, by go_num, by omega, rfl, by rw [HY.out]; exact last_if HTP.out, HF7.out.tr HBW.out⟩
        all_goals omega
    · have hti : (n4 : Int) ≤ (t : Int) := by omega
      have hyp : y = (pp : Int) := by rw [HY.out, if_pos (by omega)]
      subst hyp
      have hpp0 : (0 : Int) ≤ (pp : Int) := by omega
      have hadd1 : wrap64 (x0 + C) = x0 + C := IntWalk.wrap64_in _ (by omega)
      have hadd2 : IntKind.i64.wrap (x0 + C) = x0 + C := IntWalk.i64_in _ (by omega)
      have HIw := Lib.hid ((HI.out.no H7.out).no HF7.out)
      have i0 := HIw.out.cell HX0.out
      have j0 : wr.cell? ⟨g, off + j * 3 + 1, none⟩ = some (.int .i64 C) := by
        have hb := (H7.out.tr HF7.out).block g (Go.World.block_lt_of_cell? wo _ D1.out) id
        exact (cell_of_heap hb).trans D1.out
      have z1 : ∀ dd os, (grow (redrawn wr dd) os).cell? ⟨G, pp, none⟩ = some (.int .i64 x0) := fun dd os => cell_regrown i0 dd os
      have z2 : ∀ dd os, (grow (redrawn wr dd) os).cell? ⟨g, off + j * 3 + 1, none⟩ = some (.int .i64 C) := fun dd os => cell_regrown j0 dd os
      clear i0 j0
      go_upto_region 24 with fail
      refine wp_below_tail 14 mixedB (by kernel_rfl) ?_
      simp only [List.take_succ_cons, List.take_zero, List.drop_succ_cons, List.drop_zero]
      repeat (first | go_big_quiet_step (fail) | quiet_step (fail))
      refine wpQuiet_nil ?_
      intro wx hpx
      have HBW : Hid (Fr No wr wx) := Lib.hid (by obtain ⟨p, rfl⟩ := hpx; exact fr_reg _ _ _)
      clear hpx z1 z2
      have HIx := Lib.hid (HIw.out.no HBW.out)
      have i1 := HIx.out.cell HX0.out
      have i2 := Blk.frozen HIx.out pp
      go_wp2_with fail
      go_roundg g1
      case rel => exact Lib.hid ⟨j + 1, by go_num, by omega, by rw [HNj.out]; exact HIx.out.put pp _, ((HF.out.trans (H7.out.tr (HF7.out.tr HBW.out)) fun _ _ h => h.elim).setCell (p := ⟨G, pp, none⟩) (fun _ => Nat.le_refl _) _)⟩
      all_goals omega
  · have hji : (n5 : Int) ≤ (j : Int) := by omega
    have hfin : Bq.take j = Bq := List.take_of_length_le (by have := HNB.out; omega)
    have HE : Hid (IB wo G (A.map fun a => a.acc.count)) := Lib.hid (by have := HI.out; rw [hfin, HALL.out] at this; exact this)
    clear hfin HI
    go_upto_region 26 with fail
    go_loopg [19] n4 (fun k r19 wr => Hid (∃ t : Nat, r19 = .int .i64 (t : Nat) ∧ t + k = n4 ∧ Fr No wo wr))
    case atStart => exact Lib.hid ⟨0, rfl, by omega, Fr.refl _ _⟩
    case round =>
    obtain ⟨t, rfl, htk, hfo⟩ := hrel.out
    clear hrel
    have HFO := Lib.hid hfo
    clear hfo
    by_cases ht : t < n4
    · have hti : (t : Int) < (n4 : Int) := by omega
      have htA : t < A.length := by have := HNA.out; omega
      obtain ⟨gA, oA, kvA, pvA, rfl, -, -, -, a1, -, -, -⟩ := ((HA5.out.past HF.out).no HFO.out).at_ htA
      have c1 := (HE.out.no HFO.out).cell (i := t) (x := A[t].acc.count) (by rw [List.getElem?_map, List.getElem?_eq_getElem htA]; rfl)
      generalize A[t].acc.count = C at *
      go_upto_region 28 with fail
      go_quiet (fail)
      go_wp2_with fail
      obtain ⟨g2, rfl⟩ : ∃ g2, gk = g2 + 1 := ⟨gk - 1, by omega⟩
      go_roundg g2
      case rel => exact Lib.hid ⟨t + 1, by go_num, by omega, HFO.out.drewN _⟩
      all_goals omega
    · have hti : (n4 : Int) ≤ (t : Int) := by omega
      have HZ : Hid (Fr No w wr) := Lib.hid ((H5.out.trans HF.out fun k hk h => by have := H5.out.size; have := HG.out; omega).tr HFO.out)
      go_wp2_with fail
      go_ret
      exact ⟨rfl, HZ.out⟩
end Go.Proofs.YtlpglijikmnopaaGreatDoor
