/- The law NetTwo, walked. -/
import Derived.Test.YthcpdeffgdaieaaC1
import Derived.Deep.DeepCutAuto
import Derived.Deep.CutBlock
namespace Go.Proofs.Ythcpdeffgdaieaa
open Go.RowKit Go.Maps
set_option linter.unusedVariables false

set_option maxRecDepth 100000 in
set_option maxHeartbeats 8000000 in
theorem nettwo_any (w : World) (g n c : Nat) (A : Option Addr) (os : List OpV) (hs : OpsAt w g A n c os) :
    Calls Try.prog 6 #[.slice A n c] w fun e w' => e = .returned (.bool true) ∧ Below w.heap.size w w' := by
  have HS := Lib.hid hs
  clear hs
  go_enter Try.func6, Try.ntmps6
  go_wp2_with fail
  refine (awake_any _).mono ?_
  rintro e w1 ⟨rfl, b⟩
  have HB := Lib.hid b
  clear b
  go_wp2_with fail
  refine (m_new (Old w.heap.size) fun k hk => Nat.lt_of_lt_of_le hk HB.out.size).mono ?_
  rintro e w2 ⟨d, rfl, h0, f0⟩
  have H0 := Lib.hid h0
  have HB1 := Lib.hid (HB.out.trans (f0.below.mono HB.out.size))
  clear HB f0 h0
  go_wp2_with fail
  refine (m_open H0.out (by decide)).mono ?_
  rintro e w3 ⟨rfl, h1, f1⟩
  rw [aw1]
  have H1 := Lib.hid (show Nt w3 (Old w.heap.size) d N1 from h1)
  have HB2 := Lib.hid (HB1.out.trans (bel_of f1 HB1.out.size))
  clear H0 HB1 h1 f1
  go_wp2_with fail
  refine (m_open H1.out (by decide)).mono ?_
  rintro e w4 ⟨rfl, h1, f1⟩
  rw [tw1]
  have H2 := Lib.hid (show Nt w4 (Old w.heap.size) d N2' from h1)
  have HB3 := Lib.hid (HB2.out.trans (bel_of f1 HB2.out.size))
  clear H1 HB2 h1 f1
  go_wp2_with fail
  have HL := Lib.hid (loopT_start (n := n) H2.out HB3.out)
  clear H2 HB3
  obtain ⟨w5, hw5⟩ : ∃ w5, (((w4.alloc (.cells #[.int .i64 1, .int .i64 2] 56)).alloc (.cells #[.string ⟨#[]⟩, .string ⟨#[]⟩] 35)).alloc (.cells #[.string ⟨#[]⟩, .string ⟨#[]⟩] 35)) = w5 := ⟨_, rfl⟩
  rw [hw5] at HL ⊢
  clear hw5
  obtain ⟨cn, bs, bg, h1, h2, h3⟩ : ∃ cn bs bg, w4.heap.size = cn ∧ w4.heap.size + 1 = bs ∧ w4.heap.size + 1 + 1 = bg := ⟨_, _, _, rfl, rfl, rfl⟩
  rw [h3, h2, h1] at HL ⊢
  clear h1 h2 h3
  go_loopw [12] (fun iv wr => LoopT w wr cn bs bg d n iv) (fun iv _ => n - (intOf iv).toNat)
  case atStart => exact HL.out
  case round =>
    obtain ⟨k, S, se, go, hk, rfl, hL, hI, hlen⟩ := hrel
    have HL := Lib.hid hL
    have HI := Lib.hid hI
    have HN := Lib.hid hlen
    clear hL hI hlen
    have w1f : (Lit.int .i64 1).wf = true := by decide
    have w2f : (Lit.int .i64 2).wf = true := by decide
    by_cases hlt : k < n
    · have hcap := HS.out.cap
      obtain ⟨off, o, rfl, hdat, hok, c0, c1, c2, c3, c4⟩ := (HS.out.below HL.out.bel).cell hlt
      obtain ⟨b, hb⟩ := and_one o.conn
      obtain ⟨sb0, sb1⟩ := sd_bd b
      have HR := Lib.hid (HL.out.start o)
      have hdl := hok.data
      have hix := fun w => idx56 w cn b
      have hix2 := fun w g => idx35 w g b
      clear hdat hok
      go_upto_block 2 with fail
      obtain ⟨wo, hwo⟩ : ∃ wo, wr.alloc (.cells #[.int .i64 o.kind, .int .i64 o.conn, .int .i64 o.side, .int .i64 o.many, .string ⟨o.data.toArray⟩] 32) = wo := ⟨_, rfl⟩
      obtain ⟨bo, hbo⟩ : ∃ bo, wr.heap.size = bo := ⟨_, rfl⟩
      have HR1 := Lib.hid (show TB w wo cn bs bg bo d o S se go by rw [← hwo, ← hbo]; exact HR.out)
      rw [hwo, hbo]
      clear hwo hbo HR c0 c1 c2 c3 c4
      have q3 : wo.cell? ⟨bo, 3, none⟩ = some (.int .i64 o.many) := HR1.out.bop.cell 3
      have q4 : wo.cell? ⟨bo, 4, none⟩ = some (.string ⟨o.data.toArray⟩) := HR1.out.cod
      have qc : wo.cell? ⟨cn, (sd b).toNat, none⟩ = some (.int .i64 (cv b)) := HR1.out.ccn b
      have qc1 : wo.cell? ⟨cn, 1, none⟩ = some (.int .i64 2) := HR1.out.ccn true
      rcases tmod4 o.kind with hk | hk | hk | hk | hk | hk | hk
      · go_upto_region 19 with fail
        go_cut [15, 16, 53] (fun mv ev tv wy => CallS w wy cn bs bg bo d o (S.send (cv b) 0 o.data) se go mv ev)
        case first =>
          go_region_with (go_at_call 12; refine (m_send HR1.out.drew.nt (cv b) 0 o.data (cv_wf b) (by omega)).mono ?_; rintro e wx ⟨rfl, h1, f1⟩; have HR2 := Lib.hid (HR1.out.drew.turn h1 f1); clear h1 f1)
          all_goals (go_simp; go_wp2_with fail)
          all_goals go_meet
          all_goals exact ⟨rfl, rfl, HR2.out⟩
        case rest =>
        obtain ⟨rfl, rfl, hR2⟩ := hcut
        obtain ⟨wx, hwx⟩ : ∃ wx, wc = wx := ⟨_, rfl⟩
        rw [hwx] at hR2 ⊢
        clear hwx
        have HR2 := Lib.hid hR2
        have hI2 := HI.out.send b o.data
        clear hR2 HR1 HI q3 q4 qc qc1
        obtain ⟨m, m1, m2, m3, m5⟩ | ⟨E, m1, m2, m3⟩ := hI2
        · rw [m3]
          have HI2 := Lib.hid m5
          have y4 := HR2.out.cod
          have yse := HR2.out.cse b
          have yfz : wx.frozen? ⟨bs, (sd b).toNat, none⟩ = false := HR2.out.bse.frozen _
          have hln := HN.out b
          have hcat : ∀ w0, (Op.stringOp .add ⟨(se b).toArray⟩ ((⟨o.data.toArray⟩ : ByteArray).extract 0 m)).run Try.prog w0 = .ok (.string ⟨(se b ++ o.data.take m).toArray⟩) w0 := fun w0 => by
            rw [extract_take, run_string_add_sum w0 _ _ (by simp [ByteArray.size]; omega), ByteArray.mk_append_mk]
          clear m3 m5
          go_wp2_with fail
          go_still_tail 10, (by kernel_rfl)
          change wpList _ _ _ _ _ (World.drew _)
          go_wp2
          refine ⟨LoopT.next hlt (HR2.out.drew.setSe b _) HI2.out (grown_len HN.out m2), by simp [intOf]; omega⟩
        · rw [m2]
          have HI2 := Lib.hid m3
          have hE : (E == 0) = false := by simpa using m1
          clear m1 m2 m3
          go_wp2
          refine ⟨LoopT.next hlt HR2.out HI2.out (kept_len HN.out), by simp [intOf]; omega⟩
      iterate 2
        · go_wp2_with fail
          go_still_tail 6, (by kernel_rfl)
          change wpList _ _ _ _ _ (World.drew _)
          go_wp2_with fail
          refine (m_move HR1.out.drew.nt (cv b) 1 o.many (cv_wf b)).mono ?_
          rintro e wx ⟨rfl, h1, f1⟩
          have HR2 := Lib.hid (HR1.out.drew.turn h1 f1)
          have HI2 := Lib.hid (HI.out.move b o.many)
          clear h1 f1 HR1 HI q3 q4 qc qc1
          go_wp2
          refine ⟨LoopT.next hlt HR2.out HI2.out (kept_len HN.out), by simp [intOf]; omega⟩
      iterate 2
        · go_upto_region 27 with fail
          go_cut [17, 18, 53] (fun mv ev tv wy => CallT w wy cn bs bg bo d o (S.take (cv b) 1 o.many) se go mv ev)
          case first =>
            go_region_with (go_at_call 14; refine (m_take HR1.out.drew.nt (cv b) 1 o.many (cv_wf b)).mono ?_; rintro e wx ⟨rfl, h1, f1⟩; have HR2 := Lib.hid (HR1.out.drew.turn h1 f1); clear h1 f1)
            all_goals (go_simp; go_wp2_with fail)
            all_goals go_meet
            all_goals exact ⟨rfl, rfl, HR2.out⟩
          case rest =>
          obtain ⟨rfl, rfl, hR2⟩ := hcut
          obtain ⟨wx, hwx⟩ : ∃ wx, wc = wx := ⟨_, rfl⟩
          rw [hwx] at hR2 ⊢
          clear hwx
          have HR2 := Lib.hid hR2
          obtain ⟨t, rest, E, m1, m2, m4⟩ := HI.out.take b o.many
          rw [m1]
          have HI2 := Lib.hid m4
          have ygo := HR2.out.cgo b
          have yfz : wx.frozen? ⟨bg, (sd b).toNat, none⟩ = false := HR2.out.bgo.frozen _
          have hln := HN.out b
          rw [m2] at hln
          simp only [List.length_append] at hln
          have hcat : ∀ w0, (Op.stringOp .add ⟨(go b).toArray⟩ ⟨t.toArray⟩).run Try.prog w0 = .ok (.string ⟨(go b ++ t).toArray⟩) w0 := fun w0 => by
            rw [run_string_add_sum w0 _ _ (by simp [ByteArray.size]; omega), ByteArray.mk_append_mk]
          have HM2 := Lib.hid m2
          clear hR2 HR1 HI q3 q4 qc qc1 m1 m2 m4
          go_upto_region 29 with fail
          obtain ⟨wy, hwy⟩ : ∃ wy, wx.setCell ⟨bg, (sd b).toNat, none⟩ (.string ⟨(go b ++ t).toArray⟩) = wy := ⟨_, rfl⟩
          have HR3 := Lib.hid (show TB w wy cn bs bg bo d o _ se (updB go b (go b ++ t)) by rw [← hwy]; exact HR2.out.setGo b _)
          rw [hwy]
          clear hwy ygo yfz hcat HR2
          obtain ⟨G, hG⟩ : ∃ G, go b ++ t = G := ⟨_, rfl⟩
          obtain ⟨X, hX⟩ : ∃ X, se b = X := ⟨_, rfl⟩
          have xgo : wy.cell? ⟨bg, (sd b).toNat, none⟩ = some (.string ⟨G.toArray⟩) := by rw [HR3.out.cgo b, updB_same, hG]
          have xse : wy.cell? ⟨bs, (sd b).toNat, none⟩ = some (.string ⟨X.toArray⟩) := by rw [HR3.out.cse b, hX]
          have hXG : X = G ++ rest := by rw [← hX, ← hG]; exact HM2.out
          have hGX : G.length ≤ X.length := by rw [hXG, List.length_append]; omega
          have hx : (⟨X.toArray⟩ : ByteArray).extract 0 G.length = ⟨G.toArray⟩ := by rw [extract_take, hXG, List.take_left' rfl]
          have hd1 : decide (X.length < G.length) = false := by simpa using hGX
          have hgx : (G.length : Int) ≤ (X.length : Int) := by omega
          have hgx0 : (0 : Int) ≤ (G.length : Int) := by omega
          clear hG hX hXG hln
          go_wp2_with fail
          go_quiet (fail)
          go_wp2
          refine ⟨LoopT.next hlt (HR3.out.keep ((Fr.refl _ _).drewN _)) HI2.out (kept_len HN.out), by simp [intOf]; omega⟩
      iterate 2
        · by_cases h5 : o.many.tmod 9 = 0
          · go_wp2_with fail
            refine (m_cut HR1.out.nt 2 w2f).mono ?_
            rintro e wx ⟨rfl, h1, f1⟩
            have HR2 := Lib.hid (HR1.out.turn h1 f1)
            have HI2 := Lib.hid HI.out.cutC
            clear h1 f1 HR1 HI q3 q4 qc qc1
            go_wp2
            refine ⟨LoopT.next hlt HR2.out HI2.out (kept_len HN.out), by simp [intOf]; omega⟩
          · have h5' : (o.many.tmod 9 == 0) = false := by simpa using h5
            clear h5
            go_wp2
            refine ⟨LoopT.next hlt HR1.out HI.out (kept_len HN.out), by simp [intOf]; omega⟩
    · obtain ⟨t, E, z1, z2⟩ := HI.out.last HL.out.nt.wf
      have hln := HN.out false
      rw [← z2] at hln
      simp only [List.length_append] at hln
      have hcap := HS.out.cap
      have HZ1 := Lib.hid z1
      have HZ2 := Lib.hid z2
      have hcat : ∀ w0, (Op.stringOp .add ⟨(go false).toArray⟩ ⟨t.toArray⟩).run Try.prog w0 = .ok (.string ⟨(se false).toArray⟩) w0 := fun w0 => by
        rw [run_string_add_sum w0 _ _ (by simp [ByteArray.size]; omega), ByteArray.mk_append_mk, HZ2.out]
      clear z1 z2
      go_wp2_with fail
      refine (m_move HL.out.nt 1 1 1048576 w1f).mono ?_
      rintro e wx ⟨rfl, h1, f1⟩
      have ke : ∀ {w1 w2 : World} {S1 S2 : NS}, TL w w1 cn bs bg d S1 se go → Nt w2 (Own2 w.heap.size cn bs bg) d S2 → Fr (Out (Own2 w.heap.size cn bs bg)) w1 w2 → TL w w2 cn bs bg d S2 se go := fun h hn hf => h.turn hn hf
      have HL1 := Lib.hid (ke HL.out h1 f1)
      clear h1 f1 HL
      go_wp2_with fail
      refine (m_take HL1.out.nt 1 1 1048576 w1f).mono ?_
      rintro e wy ⟨rfl, h1, f1⟩
      rw [HZ1.out]
      have HL2 := Lib.hid (ke HL1.out h1 f1)
      have xse : wy.cell? ⟨bs, 0, none⟩ = some (.string ⟨(se false).toArray⟩) := HL2.out.bse.cell 0
      have xgo : wy.cell? ⟨bg, 0, none⟩ = some (.string ⟨(go false).toArray⟩) := HL2.out.bgo.cell 0
      clear h1 f1 HL1 HZ1 HZ2 ke
      go_wp2
      go_ret
      exact ⟨rfl, HL2.out.bel⟩

end Go.Proofs.Ythcpdeffgdaieaa
