/- FactsCounts, walked. -/
import Derived.Test.YtmaeejojmbibnaaJ7
import Derived.Test.YtmaeejojmbibnaaJ6
import Derived.Test.YtmaeejojmbibnaaP8
namespace Go.Proofs.Ytmaeejojmbibnaa
open Go.RowKit Go.Maps
set_option linter.unusedVariables false

theorem St.bn {X : Nat → Prop} {s K M : Nat} {B : List (List FactP)} {w : World} (h : St X s K M B w) : B.flatten.length ≤ 64 * B.length := by
  obtain ⟨Q, S, h1, h2, rfl, rfl⟩ := h
  have := h2.flat
  have h3 := h2.bn
  simp only [List.length_nil] at h3
  omega
/-- A store, what lay below B as it was. -/
def Kq (w0 : World) (B s K M : Nat) (Bs : List (List FactP)) (w : World) : Prop := St (Bel B) s K M Bs w ∧ Fr (Ge B) w0 w ∧ B ≤ w.heap.size
/-- One batch more out of sound's. -/
theorem bat_at {B : Nat} {w : World} {A : Option Addr} {n c : Nat} {bs : List (List FactP)} (h : BatsC (Bel B) w (.slice A n c) bs) {i : Nat} (hi : i < bs.length) :
    ∃ g off lv lb, A = some ⟨g, off, none⟩ ∧ g < B ∧ w.cell? ⟨g, off + i, none⟩ = some lv ∧ FactsC (Bel B) w lv lb := by
  obtain ⟨g, off, c', e, hg, hlt, hc⟩ := RowE.at_ h.1 (by omega)
  injection e with e _ _
  obtain ⟨cs, h1, h2, lv, rfl, hf⟩ := hc i hi
  refine ⟨g, off, lv, _, e, hg, ?_, hf⟩
  have h3 := h2 0 (by omega)
  rw [Nat.mul_one, Nat.add_zero] at h3
  exact h3
theorem BatsC.ge {B : Nat} {w w' : World} {v : Value} {bs : List (List FactP)} (h : BatsC (Bel B) w v bs) (hf : Fr (Ge B) w w') : BatsC (Bel B) w' v bs :=
  BatsC.of h hf.size fun k hk hlt => ⟨hk, hf.block k hlt fun hx => by unfold Bel at hk; unfold Ge at hx; omega⟩
set_option maxRecDepth 100000 in
set_option maxHeartbeats 3000000 in
theorem factsCounts_any (w : World) (V : Value) (bs : List (List FactP)) (hV : BatsC (fun k => k < w.heap.size) w V bs) : Calls Try.prog 8 #[V] w fun e w' => e = .returned (.bool true) ∧ Below w.heap.size w w' := by
  obtain ⟨B, hB⟩ : ∃ B, w.heap.size = B := ⟨_, rfl⟩
  rw [hB] at hV
  have HB := Lib.hid hB
  clear hB
  obtain ⟨Ab, cb, rfl⟩ := hV.1.slice
  have hmx := hV.1.len_le
  unfold maxLen at hmx
  have HV : Hid (BatsC (Bel B) w (.slice Ab bs.length cb) bs) := Lib.hid hV
  obtain ⟨nb, hnb⟩ : ∃ nb, bs.length = nb := ⟨_, rfl⟩
  have HNB := Lib.hid hnb
  rw [hnb] at hmx HV ⊢
  clear hV hnb
  go_enter Try.func8, Try.ntmps8
  go_wp2_with fail
  refine (awake_any w).mono ?_
  rintro e w1 ⟨rfl, b1⟩
  have B1 : Hid (Fr No w w1) := Lib.hid (Fr.of_below b1)
  clear b1
  go_wp2_with fail
  refine (m_new (Bel B) 2 1 (by omega) (by omega) w1 fun k hk => by have h1 := HB.out; have h2 := B1.out.size; unfold Bel at hk; omega).mono ?_
  rintro e w2 ⟨s, rfl, h2, f2⟩
  have HS : Hid (Kq w B s 2 1 [] w2) := Lib.hid ⟨h2, (B1.out.nn f2).any, by have h1 := HB.out; have h2 := (B1.out.nn f2).size; omega⟩
  clear h2 f2 B1
  go_wp2
  go_loopw [6] (fun iv wr => ∃ i : Nat, i ≤ nb ∧ i ≤ 8 ∧ iv = .int .i64 i ∧ Hid (∃ Bs, Bs.length = i ∧ Kq w B s 2 1 Bs wr)) (fun iv _ => 8 - (intOf iv).toNat)
  case atStart => exact ⟨0, by omega, by omega, rfl, Lib.hid ⟨[], rfl, HS.out⟩⟩
  case round =>
    obtain ⟨i, hin, hi8, rfl, HI⟩ := hrel
    clear HS
    by_cases hc : i < nb ∧ i < 8
    · obtain ⟨hlt, hlt8⟩ := hc
      obtain ⟨Bs, hBs, hK⟩ := HI.out
      have hVw := HV.out.ge hK.2.1
      obtain ⟨g, off, lv, lb, eA, hgB, kc, hlv⟩ := bat_at hVw (i := i) (by rw [HNB.out]; exact hlt)
      subst eA
      obtain ⟨A1, c1, rfl⟩ := hlv.1.slice
      have HSN := Lib.hid (sound_any B wr hK.2.2 _ _ hlv)
      have HK := Lib.hid hK
      have HBS := Lib.hid hBs
      clear hVw hlv hgB hBs hK HI
      obtain ⟨nl, hnl⟩ : ∃ nl, lb.length = nl := ⟨_, rfl⟩
      rw [hnl] at kc HSN
      clear hnl
      go_wp2_with fail
      refine HSN.out.mono ?_
      rintro e w3 ⟨A2, c2, L, rfl, hsl, f3⟩
      have hft : ∀ f ∈ L, f.Fits 2 1 := by obtain ⟨_, _, _, h, _⟩ := hsl; exact h
      have hL64 : L.length ≤ 64 := by obtain ⟨_, _, h, _, _⟩ := hsl; exact h
      have hap := m_append (HK.out.1.btw f3) (by rw [HBS.out]; omega) (.slice A2 L.length c2) L (Facts.of hsl.facts (Nat.le_refl _) fun k hk hlt => ⟨hk, rfl⟩) (sound_chk HK.out.1.bn (by rw [HBS.out]; omega) hL64 hft)
      rw [HBS.out] at hap
      have HAP := Lib.hid hap
      have HF3 := Lib.hid f3
      clear hap hsl hft hL64 HSN
      generalize L.length = ll at *
      go_wp2_with fail
      refine HAP.out.mono ?_
      rintro e w4 ⟨rfl, h4, f4⟩
      have HK4 : Hid (∃ Bs, Bs.length = i + 1 ∧ Kq w B s 2 1 Bs w4) := Lib.hid ⟨Bs ++ [L], by rw [List.length_append, HBS.out]; rfl, h4.less fun k hk => .inl hk, (HK.out.2.1.gno HF3.out).gt (f4.ge fun k hk => .inl hk), Nat.le_trans HK.out.2.2 (Nat.le_trans HF3.out.size f4.size)⟩
      clear h4 f4 HAP
      go_wp2
      go_roundw
      case rel => exact ⟨i + 1, by omega, by omega, by go_num, HK4⟩
      case measure => simp [intOf]; omega
    · have hor : ¬ i < nb ∨ (i < nb ∧ ¬ i < 8) := by omega
      clear hc
      go_upto_region 6 with fail
      go_cut [32] (fun bv wx => bv = .bool false ∧ wr = wx)
      case first =>
        rcases hor with h1 | ⟨h1, h2⟩
        all_goals (go_wp2; go_meet; first | exact ⟨rfl, rfl⟩ | exact ⟨by simp; omega, rfl⟩)
      case rest =>
      obtain ⟨rfl, rfl⟩ := hcut
      clear hor
      obtain ⟨Bs, hBs, hK⟩ := HI.out
      have hsq := m_seq hK.1
      have hsc := m_scan hK.1 0 (Bs.length : Nat)
      rw [slc_all] at hsc
      have hmt : ∀ wx, Fr No wr wx → ∀ d : Nat, d < 2 → ∀ t : Tx, t.length ≤ maxLen → Calls Try.prog 26 #[.pointer (some ⟨s, 0, none⟩), .int .i64 d, encT t, .int .i64 (i : Nat)] wx fun e w' => e = .returned (.int .i64 (hits Bs.flatten d t : Nat)) ∧ Fr No wx w' := fun wx fx d hd t ht => by
        have h := m_match (hK.1.keep fx) d hd t ht (Bs.length : Nat)
        rw [mtc_all, hBs] at h
        exact h
      have hvl : ∀ wx, Fr No wr wx → ∀ d : Nat, d < 2 → Calls Try.prog 25 #[.pointer (some ⟨s, 0, none⟩), .int .i64 d] wx fun e w' => e = .returned (.int .i64 ((vals Bs.flatten d).length : Nat)) ∧ wx = w' := fun wx fx d hd => m_values (hK.1.keep fx) d hd
      have hln : ∀ wx, Fr No wr wx → Calls Try.prog 14 #[.pointer (some ⟨s, 0, none⟩)] wx (QuietI (Bs.flatten.length : Nat) wx) := fun wx fx => m_len (hK.1.keep fx)
      have hsq2 : ∀ wx, Fr No wr wx → Calls Try.prog 13 #[.pointer (some ⟨s, 0, none⟩)] wx fun e w' => e = .returned (.int .i64 (i : Nat)) ∧ wx = w' := fun wx fx => by
        have h := m_seq (hK.1.keep fx)
        rw [hBs] at h
        exact h
      obtain ⟨F, hF⟩ : ∃ F, Bs.flatten = F := ⟨_, rfl⟩
      have hFN : F.length ≤ 64000 := by rw [← hF]; exact hK.1.blen.2
      have hfit : ∀ f ∈ F, f.Fits 2 1 := fun f hf => (hK.1.fit f (by rw [hF]; exact hf)).1
      rw [hF] at hsc hmt hvl hln
      rw [hBs] at hsq hsc
      unfold ScanT at hsc
      obtain ⟨N, hN⟩ : ∃ N, F.length = N := ⟨_, rfl⟩
      rw [hN] at hsc hFN hln
      have HFW := Lib.hid hK.2.1
      have HSQ := Lib.hid hsq
      have HSC := Lib.hid hsc
      have HMT := Lib.hid hmt
      have HVL := Lib.hid hvl
      have HLN := Lib.hid hln
      have HSQ2 := Lib.hid hsq2
      have HFIT := Lib.hid hfit
      have HN := Lib.hid hN
      clear hsq hsc hmt hvl hln hsq2 hF hfit hN hBs hK HI
      obtain ⟨wK, hwK⟩ : ∃ wK, wK = wr := ⟨_, rfl⟩
      subst hwK
      obtain ⟨i0, hi0, hz0, hz1, hz2⟩ := info_parts info9
      go_wp2_with fail
      refine HSQ.out.mono ?_
      rintro e w' ⟨rfl, rfl⟩
      go_wp2_with fail
      refine HSC.out.mono ?_
      rintro e w5 ⟨A, c, rfl, ht, f5⟩
      have HTF := Lib.hid ht
      have HF5 := Lib.hid f5
      clear ht f5 HSQ HSC
      go_wp2
      go_loopw [8] (fun dv wr => ∃ d : Nat, d ≤ 2 ∧ dv = .int .i64 d ∧ Hid (Fr No w5 wr)) (fun dv _ => 2 - (intOf dv).toNat)
      case atStart => exact ⟨0, by omega, rfl, Lib.hid (Fr.refl _ _)⟩
      case round =>
        obtain ⟨d, hd2, rfl, HD⟩ := hrel
        by_cases hd : d < 2
        · obtain ⟨wS, hwS⟩ : ∃ wS, wS = wr := ⟨_, rfl⟩
          subst hwS
          obtain ⟨h1, hh1⟩ : ∃ h1, wS.heap.size = h1 := ⟨_, rfl⟩
          have HH1 := Lib.hid hh1
          clear hh1
          have hib : decide ((d : Int) < 2) = true := by simp; omega
          have hst : Hid (wS.ownsRow h1 9 1 (.slice none 0 0) 0 ((vals (F.take 0) d).map encT) ∧ (0 : Nat) = sumH F d (vals (F.take 0) d) ∧ Fr No wS wS) := Lib.hid ⟨World.ownsRow_nil _ _ _ _, rfl, Fr.refl _ _⟩
          go_wp2
          go_loopw [9, 10, 11] (fun lv sv iv wr => ∃ (j k sm : Nat) (A : Option Addr) (c : Nat), j ≤ N ∧ k ≤ N ∧ sm ≤ N ∧ iv = .int .i64 j ∧ lv = .slice A k c ∧ sv = .int .i64 sm ∧ Hid (wr.ownsRow h1 9 1 (.slice A k c) k ((vals (F.take j) d).map encT) ∧ sm = sumH F d (vals (F.take j) d) ∧ Fr No wS wr)) (fun _ _ iv _ => N - (intOf iv).toNat)
          case atStart => exact ⟨0, 0, 0, none, 0, by omega, by omega, by omega, rfl, rfl, rfl, hst⟩
          case round =>
            obtain ⟨j, k, sm, As, cs, hj, hk, hsm, rfl, rfl, rfl, HJ⟩ := hrel
            clear hst
            by_cases hjn : j < N
            · have hjl : j < F.length := by rw [HN.out]; exact hjn
              have hw5 : Fr No w5 wr := HD.out.nn HJ.out.2.2
              have HW5 := Lib.hid hw5
              obtain ⟨g, c', a, m, e1, k0, kx, k2, kz⟩ := TF.cell (i := j) HTF.out hjl
              injection e1 with e1 eb ec
              subst e1
              clear eb ec kx kz
              have kt := k2 d hd
              obtain ⟨t, hte⟩ : ∃ t, (fat F j).dim d = t := ⟨_, rfl⟩
              rw [hte] at kt
              have htl : t.length ≤ 64 := by
                rw [← hte, fat_eq hjl]
                exact dim_len (HFIT.out _ (List.getElem_mem hjl)) hd
              have hvn := vals_next hjl d
              rw [← fat_eq hjl, hte] at hvn
              have hkl : (vals (F.take j) d).length = k := by have := HJ.out.1.1; simpa using this
              have HKT : Hid (∀ wx, Fr No w5 wx → wx.cell? ⟨g, j * 2, none⟩ = some (.slice (some ⟨a, 0, none⟩) 2 2) ∧ wx.cell? ⟨a, d, none⟩ = some (encT t)) := Lib.hid fun wx fx => ⟨fx.cell_no' k0, fx.cell_no' kt⟩
              have HROW : Hid (∀ wx, Fr No wr wx → wx.ownsRow h1 9 1 (.slice As k cs) k ((vals (F.take j) d).map encT)) := Lib.hid fun wx fx => own_of HJ.out.1 fun q hq => fx.block q (HJ.out.1.lt q hq).2 id
              have HVN := Lib.hid hvn
              have HKL := Lib.hid hkl
              have HTL := Lib.hid htl
              clear hw5 k2 hte hvn hkl htl k0 kt
              obtain ⟨Vs, hVs⟩ : ∃ Vs, vals (F.take j) d = Vs := ⟨_, rfl⟩
              rw [hVs] at HVN HKL HROW HJ
              have HVS := Lib.hid hVs
              clear hVs
              obtain ⟨wT, hwT⟩ : ∃ wT, wT = wr := ⟨_, rfl⟩
              subst hwT
              have hst4 : Hid (false = decide (t ∈ Vs.take 0) ∧ Fr No wT wT) := Lib.hid ⟨by simp, Fr.refl _ _⟩
              go_wp2
              go_loopw [12, 13] (fun bv pv wr => ∃ (p : Nat) (bb : Bool), p ≤ k ∧ pv = .int .i64 p ∧ bv = .bool bb ∧ Hid (bb = decide (t ∈ Vs.take p) ∧ Fr No wT wr)) (fun _ pv _ => k - (intOf pv).toNat)
              case atStart => exact ⟨0, false, by omega, rfl, rfl, hst4⟩
              case round =>
                obtain ⟨p, bb, hp, rfl, rfl, HP⟩ := hrel
                clear hst4
                by_cases hpk : p < k
                · have hpl : p < Vs.length := by rw [HKL.out]; exact hpk
                  obtain ⟨gs, cx, e2, ex, ey⟩ := (HROW.out wr HP.out.2).form (by omega)
                  injection e2 with e2 ea eb
                  subst e2
                  clear ea eb ex ey
                  have kc := (HROW.out wr HP.out.2).cellAt p (by omega)
                  obtain ⟨u, hu⟩ : ∃ u, Vs[p] = u := ⟨_, rfl⟩
                  rw [List.getElem?_map, List.getElem?_eq_getElem hpl, hu] at kc
                  have kc' : wr.cell? ⟨gs, p, none⟩ = some (encT u) := kc
                  have k0 := (HKT.out wr (HW5.out.nn HP.out.2)).1
                  have kt := (HKT.out wr (HW5.out.nn HP.out.2)).2
                  have HNX : Hid (decide (t ∈ Vs.take (p + 1)) = (bb || decide (u = t))) := Lib.hid (by
                    rw [List.take_succ_eq_append_getElem hpl, hu, HP.out.1, Bool.eq_iff_iff]
                    simp only [List.mem_append, List.mem_singleton, decide_eq_true_eq, Bool.or_eq_true]
                    exact ⟨fun h => h.imp id Eq.symm, fun h => h.imp id Eq.symm⟩)
                  clear kc hu hpl
                  unfold encT at kc' kt
                  cases bb with
                  | true =>
                    go_upto_region 22 with fail
                    go_quiet (fail)
                    have HP2 : Hid (true = decide (t ∈ Vs.take (p + 1)) ∧ Fr No wT (wr.drewN nq)) := Lib.hid ⟨by rw [HNX.out]; rfl, HP.out.2.drewN nq⟩
                    go_wp2
                    go_roundw
                    case rel => exact ⟨p + 1, true, by omega, by go_num, rfl, HP2⟩
                    case measure => simp [intOf]; omega
                  | false =>
                    by_cases hut : u = t
                    · subst hut
                      go_upto_region 22 with fail
                      go_quiet (fail)
                      have HP2 : Hid (true = decide (u ∈ Vs.take (p + 1)) ∧ Fr No wT (wr.drewN nq)) := Lib.hid ⟨by rw [HNX.out]; simp, HP.out.2.drewN nq⟩
                      go_wp2
                      go_roundw
                      case rel => exact ⟨p + 1, true, by omega, by go_num, rfl, HP2⟩
                      case measure => simp [intOf]; omega
                    · have hq : (u == t) = false := by simpa using hut
                      have HUT := Lib.hid hut
                      clear hut
                      go_upto_region 22 with fail
                      go_quiet (fail)
                      have HP2 : Hid (false = decide (t ∈ Vs.take (p + 1)) ∧ Fr No wT (wr.drewN nq)) := Lib.hid ⟨by rw [HNX.out]; simpa using HUT.out, HP.out.2.drewN nq⟩
                      go_wp2
                      go_roundw
                      case rel => exact ⟨p + 1, false, by omega, by go_num, rfl, HP2⟩
                      case measure => simp [intOf]; omega
                · obtain rfl : p = k := by omega
                  have hall : bb = decide (t ∈ Vs) := by
                    have h := HP.out.1
                    rw [List.take_of_length_le (by rw [HKL.out]; exact Nat.le_refl _)] at h
                    exact h
                  have hTr : Fr No wS wr := HJ.out.2.2.nn HP.out.2
                  cases bb with
                  | true =>
                    have hin : t ∈ Vs := of_decide_eq_true hall.symm
                    have HJ2 : Hid (wr.ownsRow h1 9 1 (.slice As p cs) p ((vals (F.take (j + 1)) d).map encT) ∧ sm = sumH F d (vals (F.take (j + 1)) d) ∧ Fr No wS wr) := Lib.hid (by
                      rw [HVN.out, addT_in hin]
                      exact ⟨HROW.out wr HP.out.2, HJ.out.2.1, hTr⟩)
                    clear hall hin hTr
                    go_wp2
                    go_roundw
                    case rel => exact ⟨j + 1, p, sm, As, cs, by omega, by omega, by omega, by go_num, rfl, rfl, HJ2⟩
                    case measure => simp [intOf]; omega
                  | false =>
                    have hout : t ∉ Vs := of_decide_eq_false hall.symm
                    have hnd : (Vs ++ [t]).Nodup := by
                      have h := vals_nodup (F.take (j + 1)) d
                      rw [HVN.out, addT_out hout] at h
                      exact h
                    have hle := sumH_le d hnd F
                    rw [sumH_more, ← HJ.out.2.1, HN.out] at hle
                    have hlen : p + 1 ≤ N := by
                      have h := vals_le (F.take (j + 1)) d
                      rw [HVN.out, addT_out hout, List.length_append, HKL.out, List.length_take] at h
                      have : (([t] : List Tx)).length = 1 := rfl
                      omega
                    obtain ⟨ht, hht⟩ : ∃ ht, hits F d t = ht := ⟨_, rfl⟩
                    rw [hht] at hle
                    have HHT := Lib.hid hht
                    have k0 := (HKT.out wr (HW5.out.nn HP.out.2)).1
                    have kt := (HKT.out wr (HW5.out.nn HP.out.2)).2
                    unfold encT at kt
                    have HOUT := Lib.hid hout
                    have HTR := Lib.hid hTr
                    have HPF := Lib.hid HP.out.2
                    have hnew : Blk (wr.alloc (.cells #[.string ⟨t.toArray⟩] 9)) wr.heap.size 9 #[.string ⟨t.toArray⟩] := Blk.new wr 9 _
                    have HNEW := Lib.hid hnew
                    clear hall hout hnd hht hTr hnew
                    have hbase : h1 ≤ (wr.alloc (.cells #[.string ⟨t.toArray⟩] 9)).heap.size := by
                      have h1' := HH1.out
                      have h2' := HTR.out.size
                      simp
                      omega
                    have HFIN : Hid (∀ w3 g' cap, (wr.alloc (.cells #[.string ⟨t.toArray⟩] 9)).grownBy w3 (Value.slice As p cs).ownBlock → w3.ownsRow h1 9 1 (.slice (some ⟨g', 0, none⟩) (p + 1) cap) (p + 1) (Vs.map encT ++ [.string ⟨t.toArray⟩]) → w3.ownsRow h1 9 1 (.slice (some ⟨g', 0, none⟩) (p + 1) cap) (p + 1) ((vals (F.take (j + 1)) d).map encT) ∧ sm + ht = sumH F d (vals (F.take (j + 1)) d) ∧ Fr No wS w3) := Lib.hid fun w3 g' cap hgr ho3 => by
                      rw [HVN.out, addT_out HOUT.out, sumH_more, ← HJ.out.2.1, HHT.out, List.map_append]
                      refine ⟨ho3, rfl, ((HTR.out.alloc _).any.grown (F := Ge h1) hgr fun q hq hlt => (HJ.out.1.lt q hq).1).mono fun q hq hx => ?_⟩
                      have hx' : h1 ≤ q := hx
                      have := HH1.out
                      omega
                    have HMTD : Hid (∀ wx, Fr No wK wx → Calls Try.prog 26 #[.pointer (some ⟨s, 0, none⟩), .int .i64 d, .string ⟨t.toArray⟩, .int .i64 (i : Nat)] wx fun e w' => e = .returned (.int .i64 (ht : Nat)) ∧ Fr No wx w') := Lib.hid fun wx fx => by
                      have h := HMT.out wx fx d hd t (by have := HTL.out; unfold maxLen; omega)
                      rw [HHT.out] at h
                      exact h
                    have HPA : Hid (Fr No wT (wr.alloc (.cells #[.string ⟨t.toArray⟩] 9))) := Lib.hid (HPF.out.alloc _)
                    have HS5 : Hid (∀ w3, Fr No wS w3 → Fr No w5 w3) := Lib.hid fun w3 f => HD.out.nn f
                    have HSK : Hid (∀ w3, Fr No wS w3 → Fr No wK w3) := Lib.hid fun w3 f => HF5.out.nn (HD.out.nn f)
                    go_upto_region 24 with fail
                    go_wp2_with (at_builtin; refine wpList_append_lies _ (by rfl) _ _ 48 (by rfl) h1 9 i0 _ 1 16 Try.underlying48 hi0 hz0 hz1 hz2 rfl (by omega) (.slice As p cs) _ _ (by rfl) (HROW.out _ HPA.out) ⟨wr.heap.size, 0, none⟩ 1 1 [.string ⟨t.toArray⟩] (by rfl) (by rfl) (World.news_of_block (cs := #[.string ⟨t.toArray⟩]) (t := 9) (fr := (0, 0)) HNEW.out) (by simp [Value.oneCell']) (by omega) (by unfold maxLen; omega) (by omega) hbase _ rfl ?_; intro g' cap w3 hown3 hgrow hat hlt; have HE3 := Lib.hid (HFIN.out w3 g' cap hgrow hown3); clear hgrow hown3 hat hlt)
                    clear k0 kt
                    have HW53 : Hid (Fr No w5 w3) := Lib.hid (HS5.out _ HE3.out.2.2)
                    have HWK3 : Hid (Fr No wK w3) := Lib.hid (HSK.out _ HE3.out.2.2)
                    have k0 := (HKT.out w3 HW53.out).1
                    have kt := (HKT.out w3 HW53.out).2
                    unfold encT at kt HKT
                    have hd0 : (0 : Int) ≤ (d : Int) := by omega
                    have hdI : (d : Int) < 2 := by omega
                    have hj0 : (0 : Int) ≤ (j : Int) := by omega
                    have hjI : (j : Int) < (N : Int) := by omega
                    have hsI : IntKind.i64.wrap ((sm : Int) + (ht : Int)) = (sm : Int) + (ht : Int) := by rw [IntKind.wrap_i64]; omega
                    go_region_held3 (fun w' => w'.cell? ⟨g, j * 2, none⟩ = some (.slice (some ⟨a, 0, none⟩) 2 2) ∧ w'.cell? ⟨a, d, none⟩ = some (.string ⟨t.toArray⟩))
                      (first | exact HKT.out _ (HW53.out.drew.nn HF6.out) | exact HKT.out _ HW53.out.drew | go_keep)
                      (first
                        | (go_at_call 13; (with_reducible refine (HSQ2.out _ (by first | exact HWK3.out | exact HWK3.out.drew)).mono ?_); rintro e w' ⟨rfl, rfl⟩)
                        | (go_at_call 26; (with_reducible refine (HMTD.out _ (by first | exact HWK3.out | exact HWK3.out.drew)).mono ?_); rintro e w6 ⟨rfl, f6⟩; have HF6 := Lib.hid f6; clear f6))
                    all_goals (go_simp; go_wp2_with fail)
                    have HJ2 : Hid (w6.ownsRow h1 9 1 (.slice (some ⟨g', 0, none⟩) (p + 1) cap) (p + 1) ((vals (F.take (j + 1)) d).map encT) ∧ sm + ht = sumH F d (vals (F.take (j + 1)) d) ∧ Fr No wS w6) := Lib.hid (by
                      have h6 : Fr No w3 w6 := (Fr.refl No w3).drew.nn HF6.out
                      exact ⟨own_of HE3.out.1 fun q hq => h6.block q (HE3.out.1.lt q hq).2 id, HE3.out.2.1, HE3.out.2.2.nn h6⟩)
                    clear hsI
                    go_roundw
                    case rel => exact ⟨j + 1, p + 1, sm + ht, _, _, by omega, by omega, by omega, by go_num, rfl, by go_num, HJ2⟩
                    case measure => simp [intOf]; omega
            · obtain rfl : j = N := by omega
              have htk : F.take j = F := List.take_of_length_le (by rw [HN.out]; exact Nat.le_refl _)
              obtain ⟨ho, hs, hfw⟩ := HJ.out
              rw [htk] at ho hs
              rw [sumH_vals, HN.out] at hs
              have hkv : (vals F d).length = k := by have := ho.1; simpa using this
              subst hs
              have hv := HVL.out wr (HF5.out.nn (HD.out.nn hfw)) d hd
              rw [hkv] at hv
              have HV2 := Lib.hid hv
              have HDN : Hid (Fr No w5 wr) := Lib.hid (HD.out.nn hfw)
              clear htk ho hfw hkv hv HJ
              go_wp2_with fail
              refine HV2.out.mono ?_
              rintro e w' ⟨rfl, rfl⟩
              go_wp2
              go_roundw
              case rel => exact ⟨d + 1, by omega, by go_num, HDN⟩
              case measure => simp [intOf]; omega
        · obtain rfl : d = 2 := by omega
          have HL2 := Lib.hid (HLN.out wr (HF5.out.nn HD.out))
          go_wp2_with fail
          refine HL2.out.mono ?_
          rintro e w' ⟨rfl, q, rfl⟩
          have HFE : Hid (Fr (Ge B) w (wr.drewN q)) := Lib.hid ((HFW.out.gno (HF5.out.nn HD.out)).drewN q)
          go_wp2
          go_ret
          exact ⟨rfl, HFE.out.gbel HB.out⟩
end Go.Proofs.Ytmaeejojmbibnaa
