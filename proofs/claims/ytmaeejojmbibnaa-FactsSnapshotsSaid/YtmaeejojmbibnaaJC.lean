/- FactsSnapshots, walked. -/
import Derived.Test.YtmaeejojmbibnaaJB
import Derived.Test.YtmaeejojmbibnaaJ4
namespace Go.Proofs.Ytmaeejojmbibnaa
open Go.RowKit Go.Maps
set_option linter.unusedVariables false

theorem info32 : (Try.prog.info? 32).map (fun i => (i.zero, i.size, i.bytes)) = some (some (.slice none 0 0), 1, 24) := by kernel_rfl
set_option maxRecDepth 100000 in
set_option maxHeartbeats 4000000 in
theorem factsSnap_any (w : World) (V : Value) (bs : List (List FactP)) (a b : Int) (ha : i64 a) (hb : i64 b) (hV : BatsC (fun k => k < w.heap.size) w V bs) : Calls Try.prog 4 #[V, .int .i64 a, .int .i64 b] w fun e w' => e = .returned (.bool true) ∧ Below w.heap.size w w' := by
  obtain ⟨B, hB⟩ : ∃ B, w.heap.size = B := ⟨_, rfl⟩
  rw [hB] at hV
  have HB := Lib.hid hB
  clear hB
  obtain ⟨Ab, cb, rfl⟩ := hV.1.slice
  have hmx := hV.1.len_le
  unfold maxLen at hmx
  have HV : Hid (BatsC (Bel B) w (.slice Ab bs.length cb) bs) := Lib.hid hV
  obtain ⟨nb, hnb⟩ : ∃ nb, bs.length = nb := ⟨_, rfl⟩
  have HNB := Lib.hid hnb
  rw [hnb] at hmx HV ⊢
  have HAA := Lib.hid ha
  have HBB := Lib.hid hb
  obtain ⟨i1, hi1, hy0, hy1, hy2⟩ := info_parts info32
  obtain ⟨i0, hi0, hz0, hz1, hz2⟩ := info_parts info51
  clear hV hnb ha hb
  go_enter Try.func4, Try.ntmps4
  go_wp2_with fail
  refine (awake_any w).mono ?_
  rintro e w1 ⟨rfl, b1⟩
  have B1 : Hid (Fr No w w1) := Lib.hid (Fr.of_below b1)
  clear b1
  go_wp2_with fail
  refine (m_new (Bel B) 2 1 (by omega) (by omega) w1 fun k hk => by have h1 := HB.out; have h2 := B1.out.size; unfold Bel at hk; omega).mono ?_
  rintro e w2 ⟨s, rfl, h2, f2⟩
  have HS : Hid (Sn w B s (Bel B) [] (.slice none 0 0) 0 w2) := Lib.hid ⟨h2, fun k hk => hk, (B1.out.nn f2).any, by have h1 := HB.out; have h2 := (B1.out.nn f2).size; omega, rfl, ⟨[], World.ownsRow_nil _ _ _ _, fun j hj => absurd hj (Nat.not_lt_zero _)⟩, fun k hk => by simp [Value.ownBlock] at hk⟩
  clear h2 f2 B1
  obtain ⟨n, hn⟩ : ∃ n, min nb 12 = n := ⟨_, rfl⟩
  have hn1 : n ≤ nb := by omega
  have hn2 : n ≤ 12 := by omega
  go_upto_if 36 with fail
  go_cut [11] (fun nv wx => nv = .int .i64 n ∧ wx = w2)
  case first =>
    by_cases h12 : 12 < nb
    · obtain rfl : n = 12 := by omega
      clear hn
      go_wp2
      go_meet
      exact ⟨rfl, rfl⟩
    · obtain rfl : n = nb := by omega
      clear hn
      go_wp2
      go_meet
      exact ⟨rfl, rfl⟩
  case rest =>
  obtain ⟨rfl, rfl⟩ := hcut
  clear hn
  go_wp2
  go_loopw [10, 12] (fun tv iv wr => ∃ (i : Nat) (A : Option Addr) (c : Nat), i ≤ n ∧ iv = .int .i64 i ∧ tv = .slice A i c ∧ Hid (∃ X Bs, Sn w B s X Bs (.slice A i c) i wr)) (fun _ iv _ => n - (intOf iv).toNat)
  case atStart => exact ⟨0, none, 0, by omega, rfl, rfl, Lib.hid ⟨_, _, HS.out⟩⟩
  case round =>
    obtain ⟨i, At, ct, hi, rfl, rfl, HI⟩ := hrel
    clear HS
    by_cases hlt : i < n
    · obtain ⟨X, Bs, hS⟩ := HI.out
      have hVw := HV.out.ge hS.fr
      obtain ⟨g, off, lv, lb, eA, hgB, kc, hlv⟩ := bat_at hVw (i := i) (by rw [HNB.out]; omega)
      subst eA
      obtain ⟨A1, c1, rfl⟩ := hlv.1.slice
      have HSN := Lib.hid (sound_any B wr hS.le _ _ hlv)
      have HSS := Lib.hid hS
      obtain ⟨nl, hnl⟩ : ∃ nl, lb.length = nl := ⟨_, rfl⟩
      rw [hnl] at kc HSN
      clear hVw hlv hgB hS HI hnl
      go_wp2_with fail
      refine HSN.out.mono ?_
      rintro e w3 ⟨A2, c2, L, rfl, hsl, f3⟩
      have hft : ∀ f ∈ L, f.Fits 2 1 := by obtain ⟨_, _, _, h, _⟩ := hsl; exact h
      have hL64 : L.length ≤ 64 := by obtain ⟨_, _, h, _, _⟩ := hsl; exact h
      have hap := m_append (HSS.out.st.btw f3) (by rw [HSS.out.len]; omega) (.slice A2 L.length c2) L (Facts.of hsl.facts (Nat.le_refl _) fun k hk hlt => ⟨hk.imp (HSS.out.bel k) id, rfl⟩) (sound_chk HSS.out.st.bn (by rw [HSS.out.len]; omega) hL64 hft)
      rw [HSS.out.len] at hap
      have HAP := Lib.hid hap
      have HF3 := Lib.hid f3
      clear hap hsl hft hL64 HSN f3
      obtain ⟨ll, hll⟩ : ∃ ll, L.length = ll := ⟨_, rfl⟩
      rw [hll] at HAP ⊢
      clear hll
      go_wp2_with fail
      refine HAP.out.mono ?_
      rintro e w4 ⟨rfl, h4, f4⟩
      have H4 := Lib.hid h4
      have HF4 := Lib.hid f4
      have hsc := m_scan h4 0 (i + 1 : Nat)
      obtain ⟨l5, hl5⟩ : ∃ l5, slc (Bs ++ [L]) 0 (i + 1 : Nat) = l5 := ⟨_, rfl⟩
      rw [hl5] at hsc
      have HL5 := Lib.hid hl5
      have ecast : ((i + 1 : Nat) : Int) = (i : Int) + 1 := by omega
      rw [ecast] at hsc
      have HSC := Lib.hid hsc
      clear hsc hl5 ecast h4 f4 HAP
      go_wp2_with fail
      refine HSC.out.mono ?_
      rintro e w5 ⟨A5, c5, rfl, ht, f5⟩
      obtain ⟨n5, hn5⟩ : ∃ n5, l5.length = n5 := ⟨_, rfl⟩
      rw [hn5] at ht ⊢
      have HTF := Lib.hid ht
      have HF5 := Lib.hid f5
      clear ht f5 hn5 HSC
      obtain ⟨wd, hwd⟩ : ∃ wd, w5.alloc (.cells #[.slice A5 n5 c5] 32) = wd := ⟨_, rfl⟩
      obtain ⟨gd, hgd⟩ : ∃ gd, w5.heap.size = gd := ⟨_, rfl⟩
      have hfd : Fr No w5 wd := by rw [← hwd]; exact (Fr.refl No w5).alloc _
      have hbd : Blk wd gd 32 #[.slice A5 n5 c5] := by rw [← hwd, ← hgd]; exact Blk.new w5 32 _
      obtain ⟨cells, ho, hc⟩ := HSS.out.row
      have hod : wd.ownsRow B 32 1 (.slice At i ct) i cells := own_of ho fun k hk => by
        have hlt := (ho.lt k hk).2
        have s3 := HF3.out.size
        have s4 := HF4.out.size
        have s5 := HF5.out.size
        exact (hfd.block k (by omega) id).trans ((HF5.out.block k (by omega) id).trans ((HF4.out.block k (by omega) fun hn => hn (.inl (HSS.out.own k hk))).trans (HF3.out.block k hlt id)))
      have HFIN : Hid (∀ w7 g' cap, wd.grownBy w7 (Value.slice At i ct).ownBlock → w7.ownsRow B 32 1 (.slice (some ⟨g', 0, none⟩) (i + 1) cap) (i + 1) (cells ++ [.slice A5 n5 c5]) → ((Value.slice At i ct).ownBlock = some g' ∨ g' = wd.heap.size) → ∃ X Bs, Sn w B s X Bs (.slice (some ⟨g', 0, none⟩) (i + 1) cap) (i + 1) w7) := Lib.hid fun w7 g' cap hgr ho7 hat => by
        obtain ⟨X', h'⟩ := HSS.out.next HF3.out H4.out HF4.out HF5.out (by rw [HL5.out]; exact HTF.out) wd hfd hgr ho hc ho7 hat
        exact ⟨X', _, h'⟩
      have HO := Lib.hid hod
      have HWD := Lib.hid hwd
      have HGD := Lib.hid hgd
      have HBD := Lib.hid hbd
      have hbase : B ≤ wd.heap.size := by
        have s0 := HSS.out.le
        have s3 := HF3.out.size
        have s4 := HF4.out.size
        have s5 := HF5.out.size
        have s6 := hfd.size
        omega
      clear hwd hgd hbd hfd ho hc hod HTF
      have hwd := HWD.out
      have hgd := HGD.out
      go_wp2_with (at_builtin; refine wpList_append_lies _ (by rfl) _ _ 36 (by rfl) B 32 i1 _ 1 24 Try.underlying36 hi1 hy0 hy1 hy2 rfl (by omega) (.slice At i ct) _ _ (by rfl) HO.out ⟨gd, 0, none⟩ 1 1 [.slice A5 n5 c5] (by rfl) (by rfl) (World.news_of_block (cs := #[.slice A5 n5 c5]) (t := 32) (fr := (0, 0)) HBD.out) (by simp [Value.oneCell']) (by omega) (by unfold maxLen; omega) (by omega) hbase _ rfl ?_; intro g' cap w7 hown7 hgrow hat hlt; have HE2 := Lib.hid (HFIN.out w7 g' cap hgrow hown7 hat); clear hgrow hown7 hat hlt)
      go_roundw
      case rel => exact ⟨i + 1, _, _, by omega, by go_num, rfl, HE2⟩
      case measure => simp [intOf]; omega
    · obtain rfl : i = n := by omega
      obtain ⟨X, Bs, hS⟩ := HI.out
      obtain ⟨wL, hwL⟩ : ∃ wL, wL = wr := ⟨_, rfl⟩
      subst hwL
      have HSL := Lib.hid hS
      clear hS HI
      go_wp2
      go_loopw [15] (fun iv wr => ∃ j : Nat, j ≤ i ∧ iv = .int .i64 j ∧ Hid (Fr No wL wr)) (fun iv _ => i - (intOf iv).toNat)
      case atStart => exact ⟨0, by omega, rfl, Lib.hid (Fr.refl _ _)⟩
      case round =>
        obtain ⟨j, hj, rfl, HJ⟩ := hrel
        by_cases hji : j < i
        · have hst := HSL.out.st.keep HJ.out
          have hjB : j + 1 ≤ Bs.length := by rw [HSL.out.len]; omega
          have hsc := m_scan hst 0 (j + 1 : Nat)
          have hsz := m_size (w := wr) hst 0 (j + 1 : Nat)
          have hfc := slc_to Bs hjB
          obtain ⟨l5, hl5⟩ : ∃ l5, (Bs.take (j + 1)).flatten = l5 := ⟨_, rfl⟩
          rw [hfc, hl5] at hsc hsz
          have ecast : ((j + 1 : Nat) : Int) = (j : Int) + 1 := by omega
          rw [ecast] at hsc hsz
          obtain ⟨cells, ho, hc⟩ := HSL.out.row
          obtain ⟨u, hu, hfu⟩ := hc j hji
          rw [hl5] at hfu
          have hor := own_of ho (w' := wr) fun k hk => HJ.out.block k (ho.lt k hk).2 id
          obtain ⟨gt, ct', e2, _, _⟩ := hor.form (by omega)
          injection e2 with e2 ea eb
          subst e2
          clear ea eb
          have kc : wr.cell? ⟨gt, j, none⟩ = some u := (hor.cellAt j (by omega)).trans hu
          have HSC := Lib.hid hsc
          have HFU : Hid (Facts (KX X wL) wL u l5) := Lib.hid hfu
          have HKC := Lib.hid kc
          have hlen5 : l5.length ≤ 64000 := by
            have h1 := hst.blen.2
            have h2 := highS_le Bs 0 (j + 1 : Nat)
            rw [← hl5, ← hfc, slc_len]
            omega
          have HSZ : Hid (∀ wx, Fr No wr wx → Calls Try.prog 23 #[.pointer (some ⟨s, 0, none⟩), .int .i64 0, .int .i64 ((j : Int) + 1)] wx fun e w' => e = .returned (.int .i64 (l5.length : Nat)) ∧ Fr No wx w') := Lib.hid fun wx fx => by
            have h := m_size (hst.keep fx) 0 (j + 1 : Nat)
            rw [hfc, hl5, ecast] at h
            exact h
          obtain ⟨n5, hn5⟩ : ∃ n5, l5.length = n5 := ⟨_, rfl⟩
          have HN5 := Lib.hid hn5
          obtain ⟨Au, cu, rfl⟩ := hfu.slice
          unfold ScanT at HSC
          rw [hn5] at HSC HSZ hlen5 HFU HKC
          clear hst hjB hsc hsz hfc hl5 ecast ho hc hu hfu hor kc hn5
          go_wp2_with fail
          refine HSC.out.mono ?_
          rintro e w6 ⟨A6, c6, rfl, ht, f6⟩
          have hk6 := f6.cell_no' HKC.out
          have hsm := same_true w6 _ _ (.slice A6 n5 c6) (.slice Au n5 cu) l5 (ht.facts (by omega) (by omega) (by rw [HN5.out]; unfold maxLen; omega)) (Facts.of HFU.out (HJ.out.nn f6).size fun k hk hlt => ⟨hk, (HJ.out.nn f6).block k hlt id⟩)
          have HSM := Lib.hid hsm
          have HF6 := Lib.hid f6
          clear ht f6 hsm HSC HKC HFU
          go_wp2_with fail
          refine HSM.out.mono ?_
          rintro e w7 ⟨rfl, f7⟩
          have HF7 := Lib.hid (HF6.out.nn f7)
          clear f7 hk6 HSM
          go_wp2_with fail
          refine (HSZ.out _ HF7.out).mono ?_
          rintro e w8 ⟨rfl, f8⟩
          have HF8 : Hid (Fr No wL w8) := Lib.hid (HJ.out.nn (HF7.out.nn f8))
          clear f8
          go_wp2
          go_roundw
          case rel => exact ⟨j + 1, by omega, by go_num, HF8⟩
          case measure => simp [intOf]; omega
        · obtain rfl : j = i := by omega
          go_wp2_with fail
          refine (cut_any a HAA.out j (by omega) wr).mono ?_
          rintro e w' ⟨x, hx, rfl, rfl⟩
          have hcb := cut_any b HBB.out (j - x) (by omega) wr
          have esub : ((j - x : Nat) : Int) = (j : Int) - (x : Int) := by omega
          rw [esub] at hcb
          have HCB := Lib.hid hcb
          clear hcb esub
          go_wp2_with fail
          refine HCB.out.mono ?_
          rintro e w' ⟨y0, hy0', rfl, rfl⟩
          obtain ⟨y, hy⟩ : ∃ y, x + y0 = y := ⟨_, rfl⟩
          have hyI : (x : Int) + (y0 : Int) = (y : Int) := by omega
          have hxy : x ≤ y := by omega
          have hyj : y ≤ j := by omega
          clear hy hy0'
          have hst := HSL.out.st.keep HJ.out
          have hjB : j = Bs.length := HSL.out.len.symm
          obtain ⟨l0, e0⟩ : ∃ l, slc Bs 0 (x : Nat) = l := ⟨_, rfl⟩
          obtain ⟨l1, e1⟩ : ∃ l, slc Bs (x : Nat) (y : Nat) = l := ⟨_, rfl⟩
          obtain ⟨l2, e2⟩ : ∃ l, slc Bs (y : Nat) (j : Nat) = l := ⟨_, rfl⟩
          obtain ⟨lA, eA⟩ : ∃ l, slc Bs 0 (j : Nat) = l := ⟨_, rfl⟩
          have hjoin : l0 ++ l1 ++ l2 = lA := by rw [← e0, ← e1, ← e2, ← eA]; exact slc_join Bs hxy hyj (by omega)
          have eAll : lA = Bs.flatten := by rw [← eA, hjB]; exact slc_all Bs
          have hAll : lA.length ≤ 64000 := by rw [eAll]; exact hst.blen.2
          obtain ⟨wM, ewM⟩ : ∃ w, w = wr := ⟨_, rfl⟩
          subst ewM
          obtain ⟨hr, HHR0⟩ : ∃ h, wM.heap.size = h := ⟨_, rfl⟩
          have HHR := Lib.hid HHR0
          have HSC26 : Hid (∀ wx, Fr No wM wx → Calls Try.prog 19 #[.pointer (some ⟨s, 0, none⟩), .int .i64 0, .int .i64 (x : Nat)] wx (ScanT 2 1 l0 wx)) := Lib.hid fun wx fx => by rw [← e0]; exact m_scan (hst.keep fx) 0 (x : Nat)
          have HSC27 : Hid (∀ wx, Fr No wM wx → Calls Try.prog 19 #[.pointer (some ⟨s, 0, none⟩), .int .i64 (x : Nat), .int .i64 (y : Nat)] wx (ScanT 2 1 l1 wx)) := Lib.hid fun wx fx => by rw [← e1]; exact m_scan (hst.keep fx) (x : Nat) (y : Nat)
          have HSC28 : Hid (∀ wx, Fr No wM wx → Calls Try.prog 19 #[.pointer (some ⟨s, 0, none⟩), .int .i64 (y : Nat), .int .i64 (j : Nat)] wx (ScanT 2 1 l2 wx)) := Lib.hid fun wx fx => by rw [← e2]; exact m_scan (hst.keep fx) (y : Nat) (j : Nat)
          have HSC29 : Hid (∀ wx, Fr No wM wx → Calls Try.prog 19 #[.pointer (some ⟨s, 0, none⟩), .int .i64 0, .int .i64 (j : Nat)] wx (ScanT 2 1 lA wx)) := Lib.hid fun wx fx => by rw [← eA]; exact m_scan (hst.keep fx) 0 (j : Nat)
          have HLEN : Hid (∀ wx, Fr No wM wx → Calls Try.prog 14 #[.pointer (some ⟨s, 0, none⟩)] wx (QuietI (lA.length : Nat) wx)) := Lib.hid fun wx fx => by rw [eAll]; exact m_len (hst.keep fx)
          have HFW : Hid (Fr (Ge B) w wM) := Lib.hid (HSL.out.fr.gno HJ.out)
          obtain ⟨n0, h0⟩ : ∃ n, l0.length = n := ⟨_, rfl⟩
          obtain ⟨n1, h1⟩ : ∃ n, l1.length = n := ⟨_, rfl⟩
          obtain ⟨n2, h2⟩ : ∃ n, l2.length = n := ⟨_, rfl⟩
          obtain ⟨nA, hA⟩ : ∃ n, lA.length = n := ⟨_, rfl⟩
          have hNT' : n0 + n1 + n2 = nA := by rw [← h0, ← h1, ← h2, ← hA, ← hjoin, List.length_append, List.length_append]
          have HJN := Lib.hid hjoin
          have HNA := Lib.hid hNT'
          have hNT0 : n0 + n1 + n2 ≤ 64000 := by omega
          have HNT := Lib.hid hNT0
          unfold ScanT at HSC26 HSC27 HSC28 HSC29
          rw [h0] at HSC26
          rw [h1] at HSC27
          rw [h2] at HSC28
          rw [hA] at HSC29 HLEN
          have HL_l0 := Lib.hid h0
          have HL_l1 := Lib.hid h1
          have HL_l2 := Lib.hid h2
          have HL_lA := Lib.hid hA
          have HL26 : Hid (LF2 hr hr wM (.slice none 0 0) ([] : List FactP) ∧ Fr No wM wM) := Lib.hid ⟨LF2.nil _ _ _, Fr.refl _ _⟩
          have HLP26 : Hid (([] : List FactP).length = 0) := Lib.hid rfl
          have HWY : Hid (wrap64 (y : Int) = (y : Int)) := Lib.hid (by first | go_num | (unfold wrap64; omega) | (simp [wrap64]; omega))
          clear hst hjB e0 e1 e2 eA hjoin eAll hAll HHR0 h0 h1 h2 hA hNT' hNT0 HJ HSL hlt hji hi hj hn1 hn2
          go_upto_region 26 with fail
          go_cut [20] (fun bv wx => ∃ (A : Option Addr) (c : Nat), bv = .slice A (0 + n0) c ∧ Hid (LF2 hr hr wx (.slice A (0 + n0) c) (([] : List FactP) ++ l0) ∧ Fr No wM wx))
          case first =>
            go_wp2_with fail
            refine (HSC26.out _ HL26.out.2).mono ?_
            rintro e wz ⟨A5, c5, rfl, ht, f5⟩
            obtain ⟨xs, ho, _, hop⟩ := (HL26.out.1.keep f5).open
            have hfz : Fr No wM wz := HL26.out.2.nn f5
            by_cases h0n : n0 = 0
            · have hnil : l0 = [] := List.length_eq_zero_iff.1 (HL_l0.out.trans h0n)
              have hfin : Hid (LF2 hr hr wz (.slice none (0 + n0) 0) (([] : List FactP) ++ l0) ∧ Fr No wM wz) := Lib.hid (by
                rw [hnil, List.append_nil, h0n, Nat.add_zero]
                exact ⟨HL26.out.1.keep f5, hfz⟩)
              have hcap : 0 ≤ 0 := by
                have h := ho
                rw [show ((([] : List FactP)).length) = 0 by have h1 := HLP26.out; exact h1] at h
                exact own_cap h
              have HKN := Lib.hid h0n
              clear ht f5 ho hop hfz hnil
              rw [h0n]
              clear h0n
              go_wp2_with (refine wpList_append_nothing rfl _ _ 32 rfl 51 i0 Try.underlying32 hi0 none (0) 0 hcap (by rfl) A5 c5 (by rfl) ?_)
              go_meet
              exact ⟨none, 0, by first | rfl | (rw [HKN.out]; done) | (rw [HKN.out]; rfl) | (simp [HKN.out]), hfin⟩
            · have hkn : 0 < n0 := by omega
              have hlz : wM.heap.size ≤ wz.heap.size := hfz.size
              obtain ⟨⟨da, ma, o5, b5⟩, hfit⟩ := ht
              have hlN : (l0).length = n0 := HL_l0.out
              have hlP : (([] : List FactP)).length = 0 := HLP26.out
              rw [hlN] at o5
              obtain ⟨g5, c5', e1, _, _⟩ := o5.form hkn
              injection e1 with e1 ea eb
              subst e1
              subst eb
              clear ea
              have hcells : ∀ j u, (fcells 2 1 da ma n0)[j]? = some u → wz.cell? ((⟨g5, 0, none⟩ : Addr).add j) = some u := fun j u hu => by
                have hj : j < (fcells 2 1 da ma n0).length := (List.getElem?_eq_some_iff.1 hu).1
                rw [Addr.add_mid, Nat.zero_add, ← hu]
                exact o5.cellAt j (by rw [fcells_len] at hj; exact hj)
              rw [hlP] at ho
              have HEND : Hid (∀ w3 g' cap, wz.grownBy w3 (Value.slice none (0) 0).ownBlock → w3.ownsRow hr 51 2 (.slice (some ⟨g', 0, none⟩) (0 + n0) cap) (0 + n0) (xs ++ fcells 2 1 da ma n0) → LF2 hr hr w3 (.slice (some ⟨g', 0, none⟩) (0 + n0) cap) (([] : List FactP) ++ l0) ∧ Fr No wM w3) := Lib.hid fun w3 g' cap hgr ho3 => by
                refine ⟨LF2.join (g2 := g5) (c2 := c5) (v := .slice none (0) 0) (hs := _) (by rw [hlP]; exact ho) (by rw [hlP, hlN]; have := HNT.out; omega) hop (by have := HL26.out.2.size; have := HHR.out; omega) da ma b5 hfit (by omega) (by omega) hgr (by rw [hlP, hlN]; exact ho3), ?_⟩
                refine (hfz.any.grown (F := Ge hr) hgr fun j hj hlt => (ho.lt j hj).1).mono fun j hj hx => ?_
                have hx' : hr ≤ j := hx
                have := HHR.out
                omega
              have HO := Lib.hid ho
              have HC := Lib.hid hcells
              have hb2 : hr ≤ wz.heap.size := by have := HHR.out; omega
              have hNT := HNT.out
              clear ho hop hcells o5 b5 hfit f5 hfz hlN hlP h0n
              go_wp2_with (at_builtin; refine wpList_append_lies _ (by rfl) _ _ 32 (by rfl) hr 51 i0 _ 2 48 Try.underlying32 hi0 hz0 hz1 hz2 rfl (by omega) (.slice none (0) 0) _ _ (by rfl) HO.out ⟨g5, 0, none⟩ n0 _ (fcells 2 1 da ma n0) (by rfl) (fcells_len _ _ _ _ _) HC.out (fcells_one _ _ _ _ _) hkn (by unfold maxLen; omega) (by omega) hb2 _ rfl ?_; intro g' cap w3 hown3 hgrow hat hlt; have HE2 := Lib.hid (HEND.out w3 g' cap hgrow hown3); clear hgrow hown3 hat hlt)
              go_meet
              exact ⟨some ⟨g', 0, none⟩, cap, by first | rfl | simp, HE2⟩
          case rest =>
          obtain ⟨q1A, q1c, rfl, q1H⟩ := hcut
          have HLP27 : Hid (l0.length = n0) := HL_l0
          have q1H' : Hid (LF2 hr hr wc (.slice q1A n0 q1c) l0 ∧ Fr No wM wc) := by
            have h := q1H.out
            rw [List.nil_append, Nat.zero_add] at h
            exact Lib.hid h
          have e0 : 0 + n0 = n0 := Nat.zero_add _
          rw [e0]
          try rw [HWY.out]
          clear e0 q1H
          go_upto_region 27 with fail
          go_cut [20] (fun bv wx => ∃ (A : Option Addr) (c : Nat), bv = .slice A (n0 + n1) c ∧ Hid (LF2 hr hr wx (.slice A (n0 + n1) c) (l0 ++ l1) ∧ Fr No wM wx))
          case first =>
            go_wp2_with fail
            refine (HSC27.out _ q1H'.out.2).mono ?_
            rintro e wz ⟨A5, c5, rfl, ht, f5⟩
            obtain ⟨xs, ho, _, hop⟩ := (q1H'.out.1.keep f5).open
            have hfz : Fr No wM wz := q1H'.out.2.nn f5
            by_cases h0n : n1 = 0
            · have hnil : l1 = [] := List.length_eq_zero_iff.1 (HL_l1.out.trans h0n)
              have hfin : Hid (LF2 hr hr wz (.slice q1A (n0 + n1) q1c) (l0 ++ l1) ∧ Fr No wM wz) := Lib.hid (by
                rw [hnil, List.append_nil, h0n, Nat.add_zero]
                exact ⟨q1H'.out.1.keep f5, hfz⟩)
              have hcap : n0 ≤ q1c := by
                have h := ho
                rw [show ((l0).length) = n0 by have h1 := HLP27.out; exact h1] at h
                exact own_cap h
              have HKN := Lib.hid h0n
              clear ht f5 ho hop hfz hnil
              rw [h0n]
              clear h0n
              go_wp2_with (refine wpList_append_nothing rfl _ _ 32 rfl 51 i0 Try.underlying32 hi0 q1A (n0) q1c hcap (by rfl) A5 c5 (by rfl) ?_)
              go_meet
              exact ⟨q1A, q1c, by first | rfl | (rw [HKN.out]; done) | (rw [HKN.out]; rfl) | (simp [HKN.out]), hfin⟩
            · have hkn : 0 < n1 := by omega
              have hlz : wM.heap.size ≤ wz.heap.size := hfz.size
              obtain ⟨⟨da, ma, o5, b5⟩, hfit⟩ := ht
              have hlN : (l1).length = n1 := HL_l1.out
              have hlP : (l0).length = n0 := HLP27.out
              rw [hlN] at o5
              obtain ⟨g5, c5', e1, _, _⟩ := o5.form hkn
              injection e1 with e1 ea eb
              subst e1
              subst eb
              clear ea
              have hcells : ∀ j u, (fcells 2 1 da ma n1)[j]? = some u → wz.cell? ((⟨g5, 0, none⟩ : Addr).add j) = some u := fun j u hu => by
                have hj : j < (fcells 2 1 da ma n1).length := (List.getElem?_eq_some_iff.1 hu).1
                rw [Addr.add_mid, Nat.zero_add, ← hu]
                exact o5.cellAt j (by rw [fcells_len] at hj; exact hj)
              rw [hlP] at ho
              have HEND : Hid (∀ w3 g' cap, wz.grownBy w3 (Value.slice q1A (n0) q1c).ownBlock → w3.ownsRow hr 51 2 (.slice (some ⟨g', 0, none⟩) (n0 + n1) cap) (n0 + n1) (xs ++ fcells 2 1 da ma n1) → LF2 hr hr w3 (.slice (some ⟨g', 0, none⟩) (n0 + n1) cap) (l0 ++ l1) ∧ Fr No wM w3) := Lib.hid fun w3 g' cap hgr ho3 => by
                refine ⟨LF2.join (g2 := g5) (c2 := c5) (v := .slice q1A (n0) q1c) (hs := _) (by rw [hlP]; exact ho) (by rw [hlP, hlN]; have := HNT.out; omega) hop (by have := q1H'.out.2.size; have := HHR.out; omega) da ma b5 hfit (by omega) (by omega) hgr (by rw [hlP, hlN]; exact ho3), ?_⟩
                refine (hfz.any.grown (F := Ge hr) hgr fun j hj hlt => (ho.lt j hj).1).mono fun j hj hx => ?_
                have hx' : hr ≤ j := hx
                have := HHR.out
                omega
              have HO := Lib.hid ho
              have HC := Lib.hid hcells
              have hb2 : hr ≤ wz.heap.size := by have := HHR.out; omega
              have hNT := HNT.out
              clear ho hop hcells o5 b5 hfit f5 hfz hlN hlP h0n
              go_wp2_with (at_builtin; refine wpList_append_lies _ (by rfl) _ _ 32 (by rfl) hr 51 i0 _ 2 48 Try.underlying32 hi0 hz0 hz1 hz2 rfl (by omega) (.slice q1A (n0) q1c) _ _ (by rfl) HO.out ⟨g5, 0, none⟩ n1 _ (fcells 2 1 da ma n1) (by rfl) (fcells_len _ _ _ _ _) HC.out (fcells_one _ _ _ _ _) hkn (by unfold maxLen; omega) (by omega) hb2 _ rfl ?_; intro g' cap w3 hown3 hgrow hat hlt; have HE2 := Lib.hid (HEND.out w3 g' cap hgrow hown3); clear hgrow hown3 hat hlt)
              go_meet
              exact ⟨some ⟨g', 0, none⟩, cap, by first | rfl | simp, HE2⟩
          case rest =>
          obtain ⟨q2A, q2c, rfl, q2H⟩ := hcut
          try rw [HWY.out]
          have HLP28 : Hid ((l0 ++ l1).length = n0 + n1) := Lib.hid (by rw [List.length_append, HL_l0.out, HL_l1.out])
          go_upto_region 28 with fail
          go_cut [20] (fun bv wx => ∃ (A : Option Addr) (c : Nat), bv = .slice A ((n0 + n1) + n2) c ∧ Hid (LF2 hr hr wx (.slice A ((n0 + n1) + n2) c) ((l0 ++ l1) ++ l2) ∧ Fr No wM wx))
          case first =>
            go_wp2_with fail
            refine (HSC28.out _ q2H.out.2).mono ?_
            rintro e wz ⟨A5, c5, rfl, ht, f5⟩
            obtain ⟨xs, ho, _, hop⟩ := (q2H.out.1.keep f5).open
            have hfz : Fr No wM wz := q2H.out.2.nn f5
            by_cases h0n : n2 = 0
            · have hnil : l2 = [] := List.length_eq_zero_iff.1 (HL_l2.out.trans h0n)
              have hfin : Hid (LF2 hr hr wz (.slice q2A ((n0 + n1) + n2) q2c) ((l0 ++ l1) ++ l2) ∧ Fr No wM wz) := Lib.hid (by
                rw [hnil, List.append_nil, h0n, Nat.add_zero]
                exact ⟨q2H.out.1.keep f5, hfz⟩)
              have hcap : (n0 + n1) ≤ q2c := by
                have h := ho
                rw [show (((l0 ++ l1)).length) = (n0 + n1) by have h1 := HLP28.out; exact h1] at h
                exact own_cap h
              have HKN := Lib.hid h0n
              clear ht f5 ho hop hfz hnil
              rw [h0n]
              clear h0n
              go_wp2_with (refine wpList_append_nothing rfl _ _ 32 rfl 51 i0 Try.underlying32 hi0 q2A ((n0 + n1)) q2c hcap (by rfl) A5 c5 (by rfl) ?_)
              go_meet
              exact ⟨q2A, q2c, by first | rfl | (rw [HKN.out]; done) | (rw [HKN.out]; rfl) | (simp [HKN.out]), hfin⟩
            · have hkn : 0 < n2 := by omega
              have hlz : wM.heap.size ≤ wz.heap.size := hfz.size
              obtain ⟨⟨da, ma, o5, b5⟩, hfit⟩ := ht
              have hlN : (l2).length = n2 := HL_l2.out
              have hlP : ((l0 ++ l1)).length = (n0 + n1) := HLP28.out
              rw [hlN] at o5
              obtain ⟨g5, c5', e1, _, _⟩ := o5.form hkn
              injection e1 with e1 ea eb
              subst e1
              subst eb
              clear ea
              have hcells : ∀ j u, (fcells 2 1 da ma n2)[j]? = some u → wz.cell? ((⟨g5, 0, none⟩ : Addr).add j) = some u := fun j u hu => by
                have hj : j < (fcells 2 1 da ma n2).length := (List.getElem?_eq_some_iff.1 hu).1
                rw [Addr.add_mid, Nat.zero_add, ← hu]
                exact o5.cellAt j (by rw [fcells_len] at hj; exact hj)
              rw [hlP] at ho
              have HEND : Hid (∀ w3 g' cap, wz.grownBy w3 (Value.slice q2A ((n0 + n1)) q2c).ownBlock → w3.ownsRow hr 51 2 (.slice (some ⟨g', 0, none⟩) ((n0 + n1) + n2) cap) ((n0 + n1) + n2) (xs ++ fcells 2 1 da ma n2) → LF2 hr hr w3 (.slice (some ⟨g', 0, none⟩) ((n0 + n1) + n2) cap) ((l0 ++ l1) ++ l2) ∧ Fr No wM w3) := Lib.hid fun w3 g' cap hgr ho3 => by
                refine ⟨LF2.join (g2 := g5) (c2 := c5) (v := .slice q2A ((n0 + n1)) q2c) (hs := _) (by rw [hlP]; exact ho) (by rw [hlP, hlN]; have := HNT.out; omega) hop (by have := q2H.out.2.size; have := HHR.out; omega) da ma b5 hfit (by omega) (by omega) hgr (by rw [hlP, hlN]; exact ho3), ?_⟩
                refine (hfz.any.grown (F := Ge hr) hgr fun j hj hlt => (ho.lt j hj).1).mono fun j hj hx => ?_
                have hx' : hr ≤ j := hx
                have := HHR.out
                omega
              have HO := Lib.hid ho
              have HC := Lib.hid hcells
              have hb2 : hr ≤ wz.heap.size := by have := HHR.out; omega
              have hNT := HNT.out
              clear ho hop hcells o5 b5 hfit f5 hfz hlN hlP h0n
              go_wp2_with (at_builtin; refine wpList_append_lies _ (by rfl) _ _ 32 (by rfl) hr 51 i0 _ 2 48 Try.underlying32 hi0 hz0 hz1 hz2 rfl (by omega) (.slice q2A ((n0 + n1)) q2c) _ _ (by rfl) HO.out ⟨g5, 0, none⟩ n2 _ (fcells 2 1 da ma n2) (by rfl) (fcells_len _ _ _ _ _) HC.out (fcells_one _ _ _ _ _) hkn (by unfold maxLen; omega) (by omega) hb2 _ rfl ?_; intro g' cap w3 hown3 hgrow hat hlt; have HE2 := Lib.hid (HEND.out w3 g' cap hgrow hown3); clear hgrow hown3 hat hlt)
              go_meet
              exact ⟨some ⟨g', 0, none⟩, cap, by first | rfl | simp, HE2⟩
          case rest =>
          obtain ⟨q3A, q3c, rfl, q3H⟩ := hcut
          have hjl : (l0 ++ l1 ++ l2) = lA := HJN.out
          rw [hjl] at q3H
          have hna := HNA.out
          rw [hna] at q3H ⊢
          clear hjl hna
          go_upto_region 29 with fail
          go_wp2_with fail
          refine (HSC29.out _ q3H.out.2).mono ?_
          rintro e wz ⟨A5, c5, rfl, ht, f5⟩
          have hfz : Fr No wM wz := q3H.out.2.nn f5
          have hsm := same_true wz _ _ (.slice q3A nA q3c) (.slice A5 nA c5) lA (q3H.out.1.keep f5).facts (ht.facts (by omega) (by omega) (by rw [HL_lA.out]; have := HNT.out; have := HNA.out; unfold maxLen; omega))
          have HSM := Lib.hid hsm
          have HFZ := Lib.hid hfz
          clear ht f5 hfz hsm
          go_wp2_with fail
          refine HSM.out.mono ?_
          rintro e w7 ⟨rfl, f7⟩
          have HF7 := Lib.hid (HFZ.out.nn f7)
          clear f7 HSM
          go_wp2_with fail
          refine (HLEN.out _ HF7.out).mono ?_
          rintro e w8 ⟨rfl, q, rfl⟩
          have HFE : Hid (Fr (Ge B) w (w7.drewN q)) := Lib.hid ((HFW.out.gno HF7.out).drewN q)
          go_wp2
          go_ret
          exact ⟨rfl, HFE.out.gbel HB.out⟩
end Go.Proofs.Ytmaeejojmbibnaa
