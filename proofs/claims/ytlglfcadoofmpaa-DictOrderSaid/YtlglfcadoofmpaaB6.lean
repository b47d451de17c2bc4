/- DictOrder walked. -/
import Derived.Test.YtlglfcadoofmpaaB5
namespace Go.Proofs.Ytlglfcadoofmpaa
open Go.RowKit Go.Maps Go.Proofs
set_option linter.unusedVariables false

theorem eqb (a b : Nat) : ((a : Int) == (b : Int)) = decide (a = b) := by
  by_cases h : a = b
  · subst h; simp
  · have : ¬ (a : Int) = (b : Int) := by omega
    simp [h, this]
theorem ltb (a b : Nat) : decide ((a : Int) < (b : Int)) = decide (a < b) := by
  rw [decide_eq_decide]; omega

set_option maxRecDepth 100000 in
set_option maxHeartbeats 8000000 in
theorem order_law (v : Value) (ts : List Tx) (w : World) (hts : TAt w.heap.size w v ts) :
    Calls Try.prog 4 #[v] w fun e w' => e = .returned (.bool true) ∧ Below w.heap.size w w' := by
  obtain ⟨B, hB⟩ : ∃ B, w.heap.size = B := ⟨_, rfl⟩
  rw [hB] at hts
  have hT0 := hts
  obtain ⟨hl9, htl, A, cc, rfl, hcell⟩ := hT0
  have HT := Lib.hid hts
  have HBs := Lib.hid hB
  clear hB hts htl hcell
  go_enter Try.func4, Try.ntmps4
  go_wp2_with fail
  refine (awake_any w).mono ?_
  rintro e w1 ⟨rfl, b1⟩
  have B1 : Hid (Below B w w1) := Lib.hid (by rw [← HBs.out]; exact b1)
  clear b1
  go_wp2_with fail
  refine (m_new w1).mono ?_
  rintro e w2 ⟨rfl, h2, f2⟩
  have hS := seen_new HBs.out B1.out h2 f2
  obtain ⟨d, hd⟩ : ∃ d, w1.heap.size = d := ⟨_, rfl⟩
  rw [hd] at hS ⊢
  have hI : OI w B d [] [] [] (.slice none 0 0) (.slice none 0 0) w2 := ⟨hS.dt.less fun k hk => by
    rcases hk with (hk | hk) | hk
    · exact hk
    · simp [Value.ownBlock] at hk
    · simp [Value.ownBlock] at hk, ⟨hS.bel, hS.le⟩, World.ownsRow_nil _ _ _ _, World.ownsRow_nil _ _ _ _⟩
  have HI := Lib.hid hI
  clear hS hd h2 f2 B1 hI
  go_upto_region 8 with fail
  go_loopw [5, 6, 7] (fun nv kv iv wr => ∃ (k : Nat) (L K : List Tx) (N : List Nat), iv = .int .i64 k ∧ k ≤ ts.length ∧ k ≤ 200 ∧ Hid (L.length ≤ k ∧ K.length ≤ k) ∧ Hid (Kept L K N) ∧ Hid (OI w B d L K N nv kv wr)) (fun _ _ iv _ => 200 - (intOf iv).toNat)
  case atStart => exact ⟨0, [], [], [], rfl, Nat.zero_le _, by omega, Lib.hid ⟨Nat.le_refl _, Nat.le_refl _⟩, Lib.hid Kept.nil, HI⟩
  case round =>
    obtain ⟨k, L, K, N, rfl, hk, hk2, HL, HKP, HO⟩ := hrel
    clear HI
    by_cases hlt : k < ts.length ∧ k < 200
    · obtain ⟨hlt1, hlt2⟩ := hlt
      obtain ⟨_, htl, A', cc', e', hcell⟩ := HT.out.below HO.out.bel.1
      injection e' with e1 _ e2
      subst e1 e2
      obtain ⟨g, o, rfl, hg, hx⟩ := hcell (by omega)
      have ct := hx k _ (List.getElem?_eq_getElem hlt1)
      have htk := htl _ (List.getElem_mem hlt1)
      unfold encT at ct
      generalize ts[k] = t at *
      have HP := Lib.hid (m_put HO.out.dt t htk)
      have HG : Hid (g < B) := Lib.hid hg
      have HCT := Lib.hid ct
      clear hx htl hcell hg
      by_cases hl : 64 < t.length
      · obtain ⟨p1, p2, p3⟩ := put_long_plain (L := L) hl
        have hp := HP.out
        unfold PutX at hp
        rw [p1, p2, p3] at hp
        have HP2 := Lib.hid hp
        have hs : (⟨t.toArray⟩ : ByteArray).size = t.length := by simp [ByteArray.size]
        have hs1 : 64 < (⟨t.toArray⟩ : ByteArray).size := by omega
        have hs2 : (⟨t.toArray⟩ : ByteArray).size ≤ 9223372036854775807 := by unfold maxLen at htk; omega
        clear HP hp p1 p2 p3 hs htk hl
        generalize (⟨t.toArray⟩ : ByteArray) = s at *
        go_wp2_with fail
        refine HP2.out.mono ?_
        rintro e w3 ⟨rfl, h3, f3⟩
        have HO3 := Lib.hid (HO.out.put h3 f3)
        have ct3 : w3.cell? ⟨g, o + k, none⟩ = some (.string s) := by
          rw [← HCT.out]
          simp only [World.cell?]
          rw [f3.block g (World.block_lt_of_cell? _ _ HCT.out) (fun hn => hn (.inl (.inl HG.out)))]
        clear h3 f3 ct HP2 HO
        go_wp2
        go_roundw
        case rel => exact ⟨k + 1, L, K, N, by go_num, by omega, by omega, Lib.hid ⟨by have := HL.out.1; omega, by have := HL.out.2; omega⟩, HKP, HO3⟩
        case measure => simp [intOf]; omega
      · have hl' : t.length ≤ 64 := by omega
        obtain ⟨n, hok⟩ := put_ok (L := L) (t := t) hl' (by have := HL.out.1; omega)
        have hp := HP.out
        unfold PutX at hp
        rw [hok.eN, hok.eE] at hp
        have HP2 := Lib.hid hp
        have hkp := HKP.out.put hok hl'
        have HKP2 := Lib.hid hkp
        have hnl : (n : Int) ≤ 1000000 := by
          have := (num_some hok.nn).1; have := hok.len; have := HL.out.1; omega
        have HLL : Hid ((putL L t).length ≤ k + 1 ∧ (K ++ [t]).length ≤ k + 1) := Lib.hid ⟨by have := hok.len; have := HL.out.1; omega, by have := HL.out.2; simp; omega⟩
        have HNL : Hid (N.length ≤ 1000000) := Lib.hid (by rw [HKP.out.len]; have := HL.out.2; omega)
        have HKL : Hid (K.length ≤ 1000000) := Lib.hid (by have := HL.out.2; omega)
        have hcf : ∀ wx, Below B w wx → wx.cell? ⟨g, o + k, none⟩ = some (.string ⟨t.toArray⟩) := by
          intro wx hbx
          rw [← HCT.out]
          simp only [World.cell?]
          rw [hbx.block g HG.out, HO.out.bel.1.block g HG.out]
        have HCF := Lib.hid hcf
        have hs : (⟨t.toArray⟩ : ByteArray).size ≤ 64 := size_le hl'
        clear HP hp hok hkp htk hl hl' hcf
        generalize putL L t = L' at *
        obtain ⟨s, hss⟩ : ∃ s : ByteArray, ⟨t.toArray⟩ = s := ⟨_, rfl⟩
        rw [hss] at hs ct HP2 HCF HCT
        have HSS := Lib.hid hss
        clear hss
        go_wp2_with fail
        refine HP2.out.mono ?_
        rintro e w3 ⟨rfl, h3, f3⟩
        have HO3 := Lib.hid (HO.out.put h3 f3)
        have c3 := HCF.out w3 HO3.out.bel.1
        obtain ⟨vn, w4, hr4, ho4⟩ := HO3.out.push_n n HNL.out
        have HR4 := Lib.hid hr4
        have HO4 := Lib.hid ho4
        have c4 := HCF.out w4 ho4.bel.1
        obtain ⟨vk, w5, hr5, ho5⟩ := HO4.out.push_k t HKL.out
        rw [HSS.out] at hr5
        have HR5 := Lib.hid hr5
        have HO5 := Lib.hid ho5
        clear h3 f3 ct HP2 HO hr4 ho4 hr5 ho5
        go_wp2_with (first
          | (at_builtin; refine wpList_addr 35 rfl _ _ rfl _ _ _ _ rfl rfl (HR4.out _) ?_)
          | (at_builtin; refine wpList_addr 27 rfl _ _ rfl _ _ _ _ rfl rfl (HR5.out _) ?_))
        go_roundw
        case rel => exact ⟨k + 1, L', K ++ [t], N ++ [n], by go_num, by omega, by omega, HLL, HKP2, HO5⟩
        case measure => simp [intOf]; omega
    · have hor : ts.length ≤ k ∨ (k < ts.length ∧ 200 ≤ k) := by omega
      clear hlt
      go_upto_region 8 with fail
      go_cut [32] (fun bv wx => bv = .bool false ∧ wr = wx)
      case first =>
        rcases hor with h1 | ⟨h1, h2⟩
        all_goals (go_wp2; go_meet; first | exact ⟨rfl, rfl⟩ | exact ⟨by simp; omega, rfl⟩)
      case rest =>
      obtain ⟨rfl, rfl⟩ := hcut
      clear hor hk
      have HLN := Lib.hid (m_len HO.out.dt)
      have hm4 : L.length ≤ 4096 := HO.out.dt.facts.2.1
      have HND := Lib.hid HO.out.dt.facts.1
      obtain ⟨T, hT⟩ := ord_exists HND.out
      have HOT := Lib.hid hT
      have HJ := Lib.hid (HO.out.make L.length hm4)
      have HSN := Lib.hid (SeenAt.zero L K N T)
      obtain ⟨gs, hgs⟩ : ∃ gs, wr.heap.size = gs := ⟨_, rfl⟩
      obtain ⟨m, hmm⟩ : ∃ m, L.length = m := ⟨_, rfl⟩
      obtain ⟨w3, hw3⟩ : ∃ w3, wr.alloc (.cells (madeCells #[.bool false] m) 4) = w3 := ⟨_, rfl⟩
      rw [hmm] at hm4 HJ HLN HSN
      have hmk := run_make_row' (P := Try.prog) 41 4 (.bool false) 1 Try.underlying41 info4 rfl .i64 .i64 m (by omega) (by omega)
      rw [hgs, hw3] at HJ
      have hkl : K.length ≤ 200 := by have := HL.out.2; omega
      obtain ⟨q, hq⟩ : ∃ q, K.length = q := ⟨_, rfl⟩
      obtain ⟨Ak, ck, ek⟩ := own_form HJ.out.rk
      subst ek
      rw [hq] at hkl HJ ⊢
      have HGS := Lib.hid hgs
      have HW3 := Lib.hid hw3
      have HMM := Lib.hid hmm
      have HQ := Lib.hid hq
      clear hT hgs hw3 hmm hq HO HL
      go_upto_region 19 with (go_at_call 11; refine HLN.out.mono ?_; rintro e w' ⟨rfl, rfl⟩)
      rw [HW3.out, HGS.out]
      clear hmk HLN HW3 HGS
      go_wp2
      go_loopw [11] (fun iv wx => ∃ (i : Nat) (s : List Bool), iv = .int .i64 i ∧ i ≤ q ∧ s.length = m ∧ Hid (SeenAt L K N T s i) ∧ Hid (OJ w B d L K N s u5 (.slice Ak q ck) (.slice (some ⟨gs, 0, none⟩) m m) wx)) (fun iv _ => q - (intOf iv).toNat)
      case atStart => exact ⟨0, List.replicate m false, rfl, Nat.zero_le _, by simp, HSN, HJ⟩
      case round =>
        obtain ⟨i, s, rfl, hi, hs, HSI, HJI⟩ := hrel
        clear HJ HSN
        by_cases hlt : i < q
        · have hiK : i < K.length := by rw [HQ.out]; exact hlt
          obtain ⟨t, ht⟩ : ∃ t, K[i]? = some t := ⟨_, List.getElem?_eq_getElem hiK⟩
          obtain ⟨n, hn, hnum⟩ := HKP.out.nums i t ht
          have hnm := num_some hnum
          have hnl : n < L.length := hnm.1
          have htx : t.length ≤ 64 := HKP.out.tx t (List.mem_of_getElem? ht)
          have HFI : Hid (Calls Try.prog 16 #[.pointer (some ⟨d, 0, none⟩), .string ⟨t.toArray⟩] wr (TextP (.int .i64 (n : Nat)) true wr)) := Lib.hid (by
            have := m_find HJI.out.dt t (by unfold maxLen; omega)
            rw [hnum] at this; exact this)
          have HTE : Hid (Calls Try.prog 17 #[.pointer (some ⟨d, 0, none⟩), .int .i64 (n : Nat)] wr (TextP (.string ⟨t.toArray⟩) true wr)) := Lib.hid (by
            have := m_text HJI.out.dt n hnl
            rw [hnm.2] at this; exact this)
          have HRA := Lib.hid (HJI.out.rank HOT.out n hnl)
          have hNl : N.length = q := by rw [HKP.out.len, HQ.out]
          have hrk := HJI.out.rk
          rw [HQ.out] at hrk
          obtain ⟨gk, ck', ek, _, hck⟩ := own_cells hrk (by omega)
          injection ek with ek1 _ ek2
          subst ek1 ek2
          have hrn := HJI.out.rn
          rw [hNl] at hrn
          obtain ⟨gn, cn, en, _, hcn⟩ := own_cells hrn (by omega)
          subst en
          have ck0 : wr.cell? ⟨gk, i, none⟩ = some (.string ⟨t.toArray⟩) := (hck i hlt).1.trans (by rw [List.getElem?_map, ht]; rfl)
          have cn0 : wr.cell? ⟨gn, i, none⟩ = some (.int .i64 n) := (hcn i hlt).1.trans (by rw [List.getElem?_map, hn]; rfl)
          have HTT := Lib.hid ht
          have HNN := Lib.hid hn
          have HNU := Lib.hid hnum
          have HNLEN := Lib.hid hNl
          have hnb : (n : Int) ≤ 4096 := by have := HMM.out; omega
          have HSL := Lib.hid hs
          clear hiK ht hn hnum hnm hnl htx hrk hck hrn hcn hNl hs
          go_wp2_with (first
            | (go_at_call 16; refine HFI.out.mono ?_; rintro e w' ⟨rfl, rfl⟩)
            | (go_at_call 17; refine HTE.out.mono ?_; rintro e w' ⟨rfl, rfl⟩))
          refine HRA.out.mono ?_
          rintro e w4 ⟨k, rfl, hk, hj4⟩
          have HK4 := Lib.hid hk
          have HJ4 := Lib.hid hj4
          clear HFI HTE HRA hk hj4 ck0 cn0
          have hkm : k < m := by
            have := (List.getElem?_eq_some_iff.1 HK4.out).1
            rw [HOT.out.len, HMM.out] at this; exact this
          have hrk := HJ4.out.rk
          rw [HQ.out] at hrk
          have ck4 : w4.cell? ⟨gk, i, none⟩ = some (.string ⟨t.toArray⟩) := (hrk.cellAt i (by omega)).trans (by rw [List.getElem?_map, HTT.out]; rfl)
          have hrn := HJ4.out.rn
          rw [HNLEN.out] at hrn
          have cn4 : w4.cell? ⟨gn, i, none⟩ = some (.int .i64 n) := (hrn.cellAt i (by omega)).trans (by rw [List.getElem?_map, HNN.out]; rfl)
          have hrs := HJ4.out.rs
          rw [HSL.out] at hrs
          obtain ⟨b0, hb0⟩ : ∃ b0, w4.cell? ⟨gs, k, none⟩ = some b0 := ⟨_, (hrs.cellAt k (by omega)).trans (List.getElem?_eq_getElem (by rw [List.length_map, HSL.out]; exact hkm))⟩
          have zs := hrs.frozenAt k
          have hj5 := HJ4.out
          rw [← HSL.out] at hj5
          have hj5 := hj5.set k true
          rw [HSL.out] at hj5
          obtain ⟨w5, hw5⟩ : ∃ w5, w4.setCell ⟨gs, k, none⟩ (.bool true) = w5 := ⟨_, rfl⟩
          rw [hw5] at hj5
          have HJ5 := Lib.hid hj5
          have HW5 := Lib.hid hw5
          have HS5 := Lib.hid (HSI.out.next HOT.out HNN.out HK4.out)
          have hge : decide (m ≤ k) = false := by simpa using hkm
          have hkb : (k : Int) ≤ 4096 := by omega
          have HSL5 : Hid ((s.set k true).length = m) := Lib.hid (by rw [List.length_set]; exact HSL.out)
          clear hrk hrn hrs hj5 hw5 HSI
          by_cases hi0 : i = 0
          · have hi1 : (i : Int) ≤ 0 := by omega
            have HI0 := Lib.hid hi0
            clear hi0
            go_wp2
            go_roundw
            case rel => exact ⟨i + 1, s.set k true, by go_num, by omega, HSL5.out, HS5, by rw [HW5.out]; exact HJ5⟩
            case measure => simp [intOf]; omega
          · obtain ⟨p, rfl⟩ : ∃ p, i = p + 1 := ⟨i - 1, by omega⟩
            clear hi0
            go_upto_region 29 with fail
            rw [HW5.out]
            have hpK : p < K.length := by rw [HQ.out]; omega
            obtain ⟨tp, htp⟩ : ∃ tp, K[p]? = some tp := ⟨_, List.getElem?_eq_getElem hpK⟩
            obtain ⟨n', hn', hnum'⟩ := HKP.out.nums p tp htp
            have hnl' := (num_some hnum').1
            have hnb' : (n' : Int) ≤ 4096 := by have := HMM.out; omega
            have hrn := HJ5.out.rn
            rw [HNLEN.out] at hrn
            have cn5 : w5.cell? ⟨gn, p, none⟩ = some (.int .i64 n') := (hrn.cellAt p (by omega)).trans (by rw [List.getElem?_map, hn']; rfl)
            have HRA := Lib.hid (HJ5.out.rank HOT.out n' hnl')
            have HTP := Lib.hid htp
            have HNP := Lib.hid hn'
            have HUP := Lib.hid hnum'
            clear hpK htp hn' hnum' hnl' hrn zs hb0 ck4 cn4 HW5 HJ4
            go_wp2_with fail
            refine HRA.out.mono ?_
            rintro e w6 ⟨j, rfl, hj, hj6⟩
            have hjm : j < m := by
              have := (List.getElem?_eq_some_iff.1 hj).1
              rw [HOT.out.len, HMM.out] at this; exact this
            have hrk := hj6.rk
            rw [HQ.out] at hrk
            have ck6 : w6.cell? ⟨gk, p + 1, none⟩ = some (.string ⟨t.toArray⟩) := (hrk.cellAt (p + 1) (by omega)).trans (by rw [List.getElem?_map, HTT.out]; rfl)
            have cp6 : w6.cell? ⟨gk, p, none⟩ = some (.string ⟨tp.toArray⟩) := (hrk.cellAt p (by omega)).trans (by rw [List.getElem?_map, HTP.out]; rfl)
            obtain ⟨r1, r2⟩ := rank_cmp HOT.out HND.out HUP.out HNU.out hj HK4.out
            have hjb : (j : Int) ≤ 4096 := by omega
            have HJ6 := Lib.hid hj6
            have R1 := Lib.hid r1
            have R2 := Lib.hid r2
            clear r1 r2 hj hj6 hrk HRA cn5 HJ5
            obtain ⟨w7, hw7⟩ : ∃ w7, w7 = w6 := ⟨_, rfl⟩
            have HP1 : Hid (p + 1 ≤ q ∧ p + 1 < q ∧ q ≤ 200) := Lib.hid ⟨hi, hlt, hkl⟩
            have HWR : Hid (IntKind.i64.wrap (p : Int) = (p : Int)) := Lib.hid (IntWalk.i64_in _ (by omega))
            clear hw7 hge hkb hnb hnb' hi hk2 hm4 hkl
            have hp0 : p < q := by omega
            clear hjb hjm hkm
            have hpi : (0 : Int) ≤ (p : Int) := by omega
            go_upto_region 30 with fail
            have hwr := HWR.out
            go_cut [185] (fun bv wy => bv = .bool false ∧ ∃ nq, wy = w6.drewN nq)
            case first =>
              rcases Nat.lt_trichotomy j k with hjk | hjk | hjk
              · have r1 : Op.bytesLess tp t = true := by rw [← R1.out]; simpa using hjk
                have r2 : (tp == t) = false := by rw [← R2.out]; simp; omega
                have r3 : ((j : Int) == (k : Int)) = false := by rw [eqb]; simp; omega
                have r4 : decide (j < k) = true := by simpa using hjk
                clear hjk
                go_quiet (fail)
                go_wp2_with fail
                go_meet
                exact ⟨rfl, _, rfl⟩
              · have r1 : Op.bytesLess tp t = false := by rw [← R1.out]; simp; omega
                have r2 : (tp == t) = true := by rw [← R2.out]; simpa using hjk
                have r3 : ((j : Int) == (k : Int)) = true := by rw [eqb]; simpa using hjk
                have r4 : decide (j < k) = false := by simp; omega
                clear hjk
                go_quiet (fail)
                go_wp2_with fail
                go_meet
                exact ⟨rfl, _, rfl⟩
              · have r1 : Op.bytesLess tp t = false := by rw [← R1.out]; simp; omega
                have r2 : (tp == t) = false := by rw [← R2.out]; simp; omega
                have r3 : ((j : Int) == (k : Int)) = false := by rw [eqb]; simp; omega
                have r4 : decide (j < k) = false := by simp; omega
                clear hjk
                go_quiet (fail)
                go_wp2_with fail
                go_meet
                exact ⟨rfl, _, rfl⟩
            case rest =>
            obtain ⟨rfl, nq, rfl⟩ := hcut
            clear hwr hpi
            obtain ⟨hp1, hp2, hp3⟩ := HP1.out
            go_wp2
            go_roundw
            case rel => exact ⟨p + 1 + 1, s.set k true, by go_num, by have := HP1.out; omega, HSL5.out, HS5, by refine Lib.hid ?_; refine OJ.keep HJ6.out (HJ6.out.dt.keep ((Fr.refl No w6).drewN _)) ((Fr.refl No w6).drewN _).any⟩
            case measure => simp [intOf]; have := HP1.out; omega
        · obtain rfl : i = q := by omega
          have hdone : ∀ j, j < m → s[j]? = some true := fun j hj => by
            have h := HSI.out
            rw [← HQ.out] at h
            exact h.done HOT.out HKP.out HND.out (by rw [HMM.out]; exact hj)
          have HDN := Lib.hid hdone
          have HSL := Lib.hid hs
          have HFN : Hid (Below B w wr) := Lib.hid HJI.out.bel.1
          have hrs := HJI.out.rs
          rw [HSL.out] at hrs
          have HRS := Lib.hid hrs
          clear hdone hs hrs HSI HJI HOT HKP HND HMM HQ
          go_wp2
          go_loop [20] (fun iv => ∃ j : Nat, iv = .int .i64 j ∧ j ≤ m) (fun iv => m - (intOf iv).toNat)
          case atStart => exact ⟨0, rfl, Nat.zero_le _⟩
          case round =>
            obtain ⟨j, rfl, hj⟩ := hrel
            by_cases hlt2 : j < m
            · have cs : wr.cell? ⟨gs, j, none⟩ = some (.bool true) := (HRS.out.cellAt j (by omega)).trans (by rw [List.getElem?_map, HDN.out j hlt2]; rfl)
              go_wp2
              go_round
              case rel => exact ⟨j + 1, by go_num, by omega⟩
              case measure => simp [intOf]; omega
            · obtain rfl : j = m := by omega
              go_wp2
              go_ret
              exact ⟨rfl, by rw [HBs.out]; exact HFN.out⟩
end Go.Proofs.Ytlglfcadoofmpaa
