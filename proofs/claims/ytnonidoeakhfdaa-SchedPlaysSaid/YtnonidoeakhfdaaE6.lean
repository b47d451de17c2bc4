/- The law SchedRising, walked. -/
import Derived.Test.YtnonidoeakhfdaaE5
namespace Go.Proofs.Ytnonidoeakhfdaa
open Go.RowKit Go.Maps Go.Sort
set_option linter.unusedVariables false

theorem Fr.old_cell {w wr : World} (h : Fr (Out (Old w.heap.size)) w wr) {g o : Nat} {v : Value} (hg : g < w.heap.size) (hc : w.cell? ⟨g, o, none⟩ = some v) : wr.cell? ⟨g, o, none⟩ = some v := by
  rw [World.cell?_of_block (h.block g hg fun ho => ho hg)]; exact hc

theorem ML.d4 {w wr : World} {d : Nat} {vt vl : Value} {vals : List Value} {tds : List (List Int)} {dl : List Int} {dk : Nat → Nat} {al : Nat → Bool} {pot : Nat → Nat} {u : Nat} {Q : SS → Prop} (h : ML w d vt vals tds vl dl dk al pot u Q wr) {k : Nat} (hk : k < tds.length) : (tdF tds k).length ≤ 4 := by
  obtain ⟨S, ⟨h1, h2, _⟩, hw, h3⟩ := h.rb.one
  exact (h1.td k hk).len

theorem eqb (a b : Nat) : ((a : Int) == (b : Int)) = decide (a = b) := by
  by_cases h : a = b
  · subst h; simp
  · have : (a : Int) ≠ b := by omega
    simp [h, this]

set_option maxRecDepth 100000 in
set_option maxHeartbeats 8000000 in
theorem schedrising_any (w : World) (va vp : Value) (n np : Nat) (hA : RowsAt w va n) (hP : IntsAt w vp np) :
    Calls Try.prog 5 #[va, vp] w fun e w' => e = .returned (.bool true) ∧ Below w.heap.size w w' := by
  have HA := Lib.hid hA
  have HP := Lib.hid hP
  have hcap : (n : Int) ≤ 9223372036854775807 := by have := hA.cap; unfold maxLen at this; omega
  have hcapp : (np : Int) ≤ 9223372036854775807 := by have := hP.cap; unfold maxLen at this; omega
  have hlenA := hA.len
  have hlenP := hP.len
  clear hA hP
  go_enter Try.func5, Try.ntmps5
  go_wp2_with fail
  refine (awake_any _).mono ?_
  rintro e w1 ⟨rfl, b⟩
  have F0 := Lib.hid (frO_bel b)
  have hw1 := b.size
  clear b
  go_wp2_with fail
  refine (m_new (Old w.heap.size) fun k hk => Nat.lt_of_lt_of_le hk hw1).mono ?_
  rintro e w2 ⟨d, rfl, h0, f0⟩
  have hF : Fr (Out (Old w.heap.size)) w w2 := frO F0.out f0.any
  have HT : Hid (RB w d (Tz 0) (.slice none 0 0) [] [] (.slice none 0 0) [] w2) := Lib.hid ⟨⟨_, _, h0, ⟨TI.zero _, fun n => rfl⟩, fun k hk => hk, (fun k hk => by cases hk), (fun v hv => by cases hv), (fun k hk => by cases hk)⟩, World.ownsRow_nil _ _ 29 1, rfl, (fun i v td hv => by simp at hv), World.ownsRow_nil _ _ 3 1, (fun v hv => by cases hv), hF⟩
  clear h0 f0 F0 hw1 hF
  go_wp2
  go_loopw [7, 8] (fun tv iv wr => ∃ (i : Nat) (vals : List Value) (tds : List (List Int)), i ≤ n ∧ i ≤ 12 ∧ iv = .int .i64 i ∧ tds.length = i ∧ (∀ l ∈ tds, Rising l) ∧ RB w d (Tz i) tv vals tds (.slice none 0 0) [] wr) (fun _ iv _ => 12 - (intOf iv).toNat)
  case atStart => exact ⟨0, [], [], Nat.zero_le _, Nat.zero_le _, rfl, rfl, (fun l hl => by cases hl), HT.out⟩
  case round =>
    obtain ⟨i, vals, tds, hi, hi12, rfl, htl, hrs, hR⟩ := hrel
    have HR := Lib.hid hR
    have HRs := Lib.hid hrs
    clear hR hrs HT
    go_upto_region 7 with fail
    go_cut [32] (fun bv wx => wr = wx ∧ bv = .bool (decide (i < n ∧ i < 12)))
    case first =>
      by_cases h1 : i < n
      · go_wp2_with fail
        go_meet
        exact ⟨rfl, by congr 1; simp [h1] <;> omega⟩
      · go_wp2_with fail
        go_meet
        exact ⟨rfl, by congr 1; simp [h1] <;> omega⟩
    case rest =>
    obtain ⟨rfl, rfl⟩ := hcut
    by_cases hlt : i < n ∧ i < 12
    · have hd : decide (i < n ∧ i < 12) = true := by simpa using hlt
      obtain ⟨hlt1, hlt2⟩ := hlt
      rw [hd]
      clear hd
      obtain ⟨ga, oa, vr, m, hga, hixa, hca, hI⟩ := HA.out.at_ i hlt1
      have hlenR := hI.len
      have HI := Lib.hid hI
      have HCA := Lib.hid hca
      have HIXA := Lib.hid hixa
      clear hI hca hixa
      obtain ⟨wo, rfl⟩ : ∃ wo : World, wo = wr := ⟨_, rfl⟩
      go_wp2
      go_loopw [9, 10] (fun lv qv wr => ∃ (q : Nat) (l : List Int), q ≤ 6 ∧ qv = .int .i64 q ∧ Rup l q ∧ RB w d (Tz i) u7 vals tds lv l wr) (fun _ qv _ => 6 - (intOf qv).toNat)
      case atStart => exact ⟨0, [], Nat.zero_le _, rfl, Rup.zero, HR.out⟩
      case round =>
        obtain ⟨q, l, hq, rfl, hU, hR⟩ := hrel
        have HR2 := Lib.hid hR
        have HU := Lib.hid hU
        have hl4 := hU.len
        have hlenL := fun ty W => own_len hR.rl ty W
        clear hR hU HR
        go_upto_region 11 with fail
        go_cut [41] (fun bv wx => wr = wx ∧ bv = .bool (decide (q < 6 ∧ l.length < 4)))
        case first =>
          by_cases h1 : q < 6
          · go_wp2_with fail
            go_meet
            exact ⟨rfl, by congr 1; simp [h1] <;> omega⟩
          · go_wp2_with fail
            go_meet
            exact ⟨rfl, by congr 1; simp [h1] <;> omega⟩
        case rest =>
        obtain ⟨rfl, rfl⟩ := hcut
        by_cases hlt : q < 6 ∧ l.length < 4
        · have hd : decide (q < 6 ∧ l.length < 4) = true := by simpa using hlt
          obtain ⟨hq6, hll⟩ := hlt
          rw [hd]
          clear hd
          obtain ⟨wi, rfl⟩ : ∃ wi : World, wi = wr := ⟨_, rfl⟩
          have hcm : (m : Int) ≤ 9223372036854775807 := by have := HI.out.cap; unfold maxLen at this; omega
          clear hlenL
          go_wp2
          go_loopw [9, 11] (fun lv kv wr => ∃ k : Nat, k ≤ m ∧ kv = .int .i64 k ∧ RB w d (Tz i) u7 vals tds lv l wr) (fun _ kv _ => m - (intOf kv).toNat)
          case atStart => exact ⟨0, Nat.zero_le _, rfl, HR2.out⟩
          case round =>
            obtain ⟨k, hk, rfl, hR⟩ := hrel
            have HR3 := Lib.hid hR
            clear HR2
            have hca := hR.fr.old_cell hga HCA.out
            have hixa := HIXA.out
            clear hR
            by_cases hkm : k < m
            · obtain ⟨gi, oi, z, hgi, hixi, hci, hz⟩ := HI.out.at_ k hkm
              have hci := HR3.out.fr.old_cell hgi hci
              go_upto_region 16 with fail
              go_cut [62] (fun bv wx => wr = wx ∧ ∃ b, bv = .bool b)
              case first =>
                go_wp2_with fail
                go_meet
                exact ⟨rfl, _, rfl⟩
              case rest =>
              obtain ⟨rfl, b, rfl⟩ := hcut
              cases b
              · go_wp2
                go_roundw
                case rel => exact ⟨k + 1, by omega, by go_num, HR3.out⟩
                case measure => simp [intOf]; omega
              · obtain ⟨v', w4, hr, hR4⟩ := HR3.out.addl (q : Int) (by omega)
                have HAd := Lib.hid hr
                have HR4 := Lib.hid hR4
                clear hr hR4
                go_wp2_with (at_builtin; refine wpList_add rfl _ _ rfl _ _ _ _ rfl rfl (HAd.out _) ?_)
                go_roundw
                case rel => exact ⟨q + 1, l ++ [(q : Int)], by omega, by go_num, HU.out.add hll, HR4.out⟩
                case measure => simp [intOf]; omega
            · go_wp2
              go_roundw
              case rel => exact ⟨q + 1, l, by omega, by go_num, HU.out.next, HR3.out⟩
              case measure => simp [intOf]; omega
        · have hd : decide (q < 6 ∧ l.length < 4) = false := by simpa using hlt
          rw [hd]
          clear hd
          have hst := HR2.out.start (by omega)
          have HST := Lib.hid hst
          have HRi := Lib.hid (HU.out.rising hq)
          have hvl := HR2.out.ln
          obtain ⟨A9, c9, rfl⟩ := own_form HR2.out.rl
          clear hst hlenL
          go_wp2_with (first
            | (go_at_call 20; refine HST.out.mono ?_; rintro e w3 ⟨rfl, hR3⟩; obtain ⟨v', w4, hr, hR4⟩ := hR3.push (by omega); have HPu := Lib.hid hr; have HR4 := Lib.hid hR4; clear hr hR3 hR4)
            | (at_builtin; refine wpList_addr rfl _ _ rfl _ _ _ _ rfl rfl (HPu.out _) ?_))
          go_roundw
          case rel => exact ⟨i + 1, vals ++ [.slice A9 l.length c9], tds ++ [l], by omega, by omega, by go_num, by simp; omega, fun x hx => by
            rcases List.mem_append.1 hx with hx | hx
            · exact HRs.out x hx
            · rw [List.mem_singleton.1 hx]; exact HRi.out, HR4.out⟩
          case measure => simp [intOf]; omega
    · have hd : decide (i < n ∧ i < 12) = false := by simpa using hlt
      rw [hd]
      clear hd
      subst htl
      have hlT : ∀ ty W, (Builtin.len_ #[45] ty #[u7]).run Try.prog W = .ok (.int .i64 (tds.length : Nat)) W := fun ty W => by rw [← HR.out.ln]; exact HR.out.tlen ty W
      have hmk := run_make_row' (P := Try.prog) 29 3 (.int .i64 0) 8 Try.underlying29 info3 rfl .i64 .i64 tds.length (by omega) (by omega)
      have HM := Lib.hid (ML.begin (HR.out.make tds.length (by omega)) hi12 HRs.out)
      clear HR HRs hlenA HA hi hlt
      go_upto_region 20 with fail
      go_cut [12] (fun dv wx => ML w d u7 vals tds dv (List.replicate tds.length 0) (fun _ => 0) (fun _ => true) (fun _ => 9) tds.length Any wx)
      case first =>
        go_wp2_with fail
        go_meet
        exact HM.out
      case rest =>
      have HM := Lib.hid hcut
      clear hcut hmk
      go_wp2
      go_loopw [13, 14] (fun lv iv wr => ∃ (k : Nat) (dl : List Int) (dk : Nat → Nat) (al : Nat → Bool) (pot : Nat → Nat), iv = .int .i64 k ∧ lv = .int .i64 (sumTo (alN al) tds.length : Nat) ∧ k + sumTo pot tds.length ≤ 108 ∧ ML w d u7 vals tds u12 dl dk al pot (tds.length + 2 * k) Any wr) (fun _ iv _ => 108 - (intOf iv).toNat)
      case atStart => exact ⟨0, _, _, _, _, rfl, by rw [left_all], by have := sumTo_le (fun _ => 9) 9 tds.length (fun _ _ => Nat.le_refl _); omega, HM.out⟩
      case round =>
        obtain ⟨k, dl, dk, al, pot, rfl, rfl, hb, hM⟩ := hrel
        have HM2 := Lib.hid hM
        clear hM HM
        obtain ⟨L, hL⟩ : ∃ L : Int, ((sumTo (alN al) tds.length : Nat) : Int) = L := ⟨_, rfl⟩
        by_cases hz : sumTo (alN al) tds.length = 0
        · have h0 := Lib.hid (left_none hz)
          have hL0 : ¬ (0 < L) := by omega
          rw [hL]
          have HL := Lib.hid hL
          clear hL hz hb
          go_wp2_with (first
            | (go_at_call 12; refine (HM2.out.ready h0.out).mono ?_; rintro e w3 ⟨g, c, rfl, hM3⟩; have HM3 := Lib.hid hM3; clear hM3)
            | (go_at_call 14; refine (HM3.out.stuck0 h0.out).mono ?_; rintro e w4 ⟨rfl, hF⟩; have HF := Lib.hid hF; clear hF))
          go_ret
          exact ⟨rfl, bel_of HF.out (Nat.le_refl _)⟩
        · obtain ⟨k0, hk0, ha0⟩ := left_some (Nat.pos_of_ne_zero hz)
          have hL0 : 0 < L := by omega
          have hL1 : L ≤ 12 := by
            have := sumTo_le (alN al) 1 tds.length (fun j _ => by unfold alN; split <;> omega)
            omega
          rw [hL]
          have HL := Lib.hid hL
          clear hL hz
          go_upto_if 86 with fail
          go_cut [15] (fun zv wx => wr = wx ∧ ∃ z, zv = .int .i64 z ∧ -9223372036854775808 ≤ z ∧ z ≤ 9223372036854775807)
          case first =>
            by_cases hkp : k < np
            · obtain ⟨gi, oi, z, hgi, hixi, hci, hz⟩ := HP.out.at_ k hkp
              have hci := HM2.out.rb.fr.old_cell hgi hci
              go_wp2_with fail
              go_meet
              exact ⟨rfl, z, rfl, hz⟩
            · go_wp2_with fail
              go_meet
              exact ⟨rfl, k, rfl, by omega, by omega⟩
          case rest =>
          obtain ⟨rfl, z, rfl, hz⟩ := hcut
          have HSt := Lib.hid (HM2.out.stuck hk0 ha0)
          go_upto_region 33 with (first
            | (go_at_call 14; refine HSt.out.mono ?_; rintro e w4 ⟨rfl, hM3⟩; have HM3 := Lib.hid (hM3.pick hk0 ha0 (by omega) z hz); clear hM3)
            | (go_at_call 23; refine HM3.out.mono ?_; rintro e w5 ⟨k', hk', ha', rfl, hM4⟩; have HM4 := Lib.hid hM4; have hk12 := hM4.m12; clear hM4 HM3 HSt HM2))
          go_cut [18] (fun kv wx => w5 = wx ∧ kv = .int .i64 (k' : Nat))
          case first =>
            go_wp2_with fail
            go_meet
            exact ⟨rfl, by go_num⟩
          case rest =>
          obtain ⟨rfl, rfl⟩ := hcut
          have htd : tds[k']? = some (tdF tds k') := by unfold tdF; rw [getD_of _ _ _ hk']; exact List.getElem?_eq_getElem hk'
          obtain ⟨gt, vk, hixT, hcT, hoT⟩ := HM4.out.rb.at htd
          have hlenK := fun ty W => own_len hoT ty W
          obtain ⟨gd, _, hixD, hcD⟩ := own_at HM4.out.rb.rl (HM4.out.dd k' hk')
          have hle := HM4.out.le hk' ha'
          clear hlT hlenP
          go_upto_region 34 with fail
          go_cut [126] (fun bv wx => bv = .bool (decide (dk k' = (tdF tds k').length)) ∧ ML w d u7 vals tds u12 dl dk al pot (tds.length + 2 * k + 1) (Rdy k') wx)
          case first =>
            go_region
            all_goals (go_simp; go_wp2_with fail)
            all_goals go_meet
            all_goals exact ⟨by rw [eqb], HM4.out.keep ((Fr.refl No _).drew)⟩
          case rest =>
          obtain ⟨rfl, hM5⟩ := hcut
          have HM5 := Lib.hid hM5
          clear hM5 HM4 hixT hcT hoT hlenK hixD hcD htd
          by_cases hde : dk k' = (tdF tds k').length
          · have hd : decide (dk k' = (tdF tds k').length) = true := by simpa using hde
            rw [hd]
            clear hd
            obtain ⟨hp1, hE⟩ := HM5.out.end_ hk' ha' hde
            have HE := Lib.hid hE
            have hsum := sumTo_up pot k' 0 tds.length hk'
            have hleft := left_end hk' ha'
            have hL' := HL.out
            clear hE HM5 hle hde
            go_wp2_with (go_at_call 24; refine HE.out.mono ?_; rintro e w6 ⟨rfl, hM6⟩; have HM6 := Lib.hid hM6; clear hM6 HE)
            go_roundw
            case rel => exact ⟨k + 1, dl, dk, upN al k' false, upN pot k' 0, by go_num, by congr 1; omega, by omega, ⟨HM6.out.rb.imp fun S X _ hS => ⟨hS.1, by omega, trivial⟩, HM6.out.dd, HM6.out.dlen, HM6.out.m12⟩⟩
            case measure => simp [intOf]; omega
          · have hd : decide (dk k' = (tdF tds k').length) = false := by simpa using hde
            rw [hd]
            clear hd
            have hd4 := HM5.out.d4 hk'
            have htd : tds[k']? = some (tdF tds k') := by unfold tdF; rw [getD_of _ _ _ hk']; exact List.getElem?_eq_getElem hk'
            obtain ⟨n1, hn1⟩ : ∃ n1, (tdF tds k')[dk k']? = some n1 := ⟨_, List.getElem?_eq_getElem (by omega)⟩
            obtain ⟨gt, vk, hixT, hcT, hoT⟩ := HM5.out.rb.at htd
            obtain ⟨gd, _, hixD, hcD⟩ := own_at HM5.out.rb.rl (HM5.out.dd k' hk')
            obtain ⟨gn, _, hixN, hcN⟩ := own_at hoT hn1
            obtain ⟨hp1, hK⟩ := (HM5.out.keep ((Fr.refl No wc).drew)).lock hk' ha' (by omega) hn1
            have HLk := Lib.hid hK
            have hsum := sumTo_up pot k' (pot k' - 1) tds.length hk'
            have hL' := HL.out
            clear hK hoT hn1 htd HM5
            go_upto_region 38 with fail
            go_cut [19, 20] (fun av ev wx => ∃ b, av = .bool b ∧ ev = .int .i64 0 ∧ Lk w d u7 vals tds u12 dl dk al pot (tds.length + 2 * k + 1 + 1) k' b wx)
            case first =>
              go_region_with (go_at_call 21; refine HLk.out.mono ?_; rintro e wx ⟨b, rfl, hK⟩; have HK := Lib.hid hK; clear hK)
              all_goals (go_simp; go_wp2_with fail)
              all_goals go_meet
              all_goals exact ⟨b, rfl, rfl, HK.out⟩
            case rest =>
            obtain ⟨b, rfl, rfl, hK⟩ := hcut
            have HK := Lib.hid hK
            clear hK HLk hixT hcT hixD hcD hixN hcN
            cases b
            · have HN := Lib.hid HK.out.not
              go_wp2
              go_roundw
              case rel => exact ⟨k + 1, dl, dk, al, upN pot k' (pot k' - 1), by go_num, by congr 1; omega, by omega, ⟨HN.out.rb.imp fun S X _ hS => ⟨hS.1, by omega, trivial⟩, HN.out.dd, HN.out.dlen, HN.out.m12⟩⟩
              case measure => simp [intOf]; omega
            · obtain ⟨g, hix, hc, hf, hN⟩ := HK.out.got hk'
              have HN := Lib.hid hN
              clear hN HK
              go_wp2
              go_roundw
              case rel => exact ⟨k + 1, _, _, al, upN pot k' (pot k' - 1), by go_num, by congr 1; omega, by omega, ⟨HN.out.rb.imp fun S X _ hS => ⟨hS.1, by omega, trivial⟩, HN.out.dd, HN.out.dlen, HN.out.m12⟩⟩
              case measure => simp [intOf]; omega

end Go.Proofs.Ytnonidoeakhfdaa
