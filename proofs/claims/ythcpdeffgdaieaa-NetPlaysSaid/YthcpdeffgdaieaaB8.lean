/- The law NetBytes, walked. -/
import Derived.Test.YthcpdeffgdaieaaB7
import Derived.Deep.DeepCutAuto
import Derived.Deep.CutBlock
namespace Go.Proofs.Ythcpdeffgdaieaa
open Go.RowKit Go.Maps
set_option linter.unusedVariables false

set_option maxRecDepth 100000 in
set_option maxHeartbeats 8000000 in
theorem netbytes_any (w : World) (g n c : Nat) (A : Option Addr) (os : List OpV) (hs : OpsAt w g A n c os) :
    Calls Try.prog 4 #[.slice A n c] w fun e w' => e = .returned (.bool true) ∧ Below w.heap.size w w' := by
  have HS := Lib.hid hs
  clear hs
  go_enter Try.func4, Try.ntmps4
  go_wp2_with fail
  refine (awake_any _).mono ?_
  rintro e w1 ⟨rfl, b⟩
  have HB := Lib.hid b
  clear b
  go_wp2_with fail
  refine (m_new (Old w.heap.size) fun k hk => Nat.lt_of_lt_of_le hk HB.out.size).mono ?_
  rintro e w2 ⟨d, rfl, h0, f0⟩
  have H0 := Lib.hid h0
  have HB1 := Lib.hid (HB.out.trans (f0.below.mono HB.out.size))
  clear HB f0 h0
  go_wp2_with fail
  refine (m_open H0.out (by decide)).mono ?_
  rintro e w3 ⟨rfl, h1, f1⟩
  rw [aw1]
  have H1 := Lib.hid (show Nt w3 (Old w.heap.size) d N1 from h1)
  have HB2 := Lib.hid (HB1.out.trans (bel_of f1 HB1.out.size))
  clear H0 HB1 h1 f1
  go_wp2_with fail
  have HL := Lib.hid (loopB_start (n := n) H1.out HB2.out)
  clear H1 HB2
  obtain ⟨w4, hw4⟩ : ∃ w4, (((w3.alloc (.cells #[.string ⟨#[]⟩, .string ⟨#[]⟩] 35)).alloc (.cells #[.string ⟨#[]⟩, .string ⟨#[]⟩] 35)).alloc (.cells #[.bool false, .bool false] 36)) = w4 := ⟨_, rfl⟩
  rw [hw4] at HL ⊢
  clear hw4
  obtain ⟨bs, bg, bh, h1, h2, h3⟩ : ∃ bs bg bh, w3.heap.size = bs ∧ w3.heap.size + 1 = bg ∧ w3.heap.size + 1 + 1 = bh := ⟨_, _, _, rfl, rfl, rfl⟩
  rw [h3, h2, h1] at HL ⊢
  clear h1 h2 h3
  go_loopw [10] (fun iv wr => LoopB w wr bs bg bh d n iv) (fun iv _ => n - (intOf iv).toNat)
  case atStart => exact HL.out
  case round =>
    obtain ⟨k, S, se, go, sh, hk, rfl, hL, hI, hlen⟩ := hrel
    have HL := Lib.hid hL
    have HI := Lib.hid hI
    have HN := Lib.hid hlen
    clear hL hI hlen
    by_cases hlt : k < n
    · have hcap := HS.out.cap
      obtain ⟨off, o, rfl, hdat, hok, c0, c1, c2, c3, c4⟩ := (HS.out.below HL.out.bel).cell hlt
      obtain ⟨b, hb⟩ := and_one o.side
      obtain ⟨sb0, sb1⟩ := sd_bd b
      have HR := Lib.hid (HL.out.start o)
      have w1f : (Lit.int .i64 1).wf = true := by decide
      have hdl := hok.data
      clear hdat hok
      go_upto_block 2 with fail
      obtain ⟨wo, hwo⟩ : ∃ wo, wr.alloc (.cells #[.int .i64 o.kind, .int .i64 o.conn, .int .i64 o.side, .int .i64 o.many, .string ⟨o.data.toArray⟩] 32) = wo := ⟨_, rfl⟩
      obtain ⟨bo, hbo⟩ : ∃ bo, wr.heap.size = bo := ⟨_, rfl⟩
      have HR1 := Lib.hid (show RB w wo bs bg bh bo d o S se go sh by rw [← hwo, ← hbo]; exact HR.out)
      rw [hwo, hbo]
      clear hwo hbo HR c0 c1 c2 c3 c4
      have q3 : wo.cell? ⟨bo, 3, none⟩ = some (.int .i64 o.many) := HR1.out.bop.cell 3
      have q4 : wo.cell? ⟨bo, 4, none⟩ = some (.string ⟨o.data.toArray⟩) := HR1.out.cod
      go_cut [44] (fun tv wy => CutB w wy bs bg bh bo d k o)
      case first =>
        rcases tmod4 o.kind with hk | hk | hk | hk | hk | hk | hk
        · go_wp2_with fail
          refine (m_send HR1.out.nt 1 (sd b) o.data w1f (by omega)).mono ?_
          rintro e wx ⟨rfl, h1, f1⟩
          have HR2 := Lib.hid (HR1.out.turn h1 f1)
          have hI2 := HI.out.send b o.data
          clear h1 f1 HR1 HI q3 q4
          obtain ⟨m, m1, m2, m3, m4, m5⟩ | ⟨E, m1, m2, m3⟩ := hI2
          · rw [m3]
            have HI2 := Lib.hid m5
            have y4 := HR2.out.cod
            have ysh : wx.cell? ⟨bh, (sd b).toNat, none⟩ = some (.bool false) := by rw [HR2.out.csh, m4]
            have yse := HR2.out.cse b
            have yfz : wx.frozen? ⟨bs, (sd b).toNat, none⟩ = false := HR2.out.bse.frozen _
            have hln := HN.out b
            have hcat : ∀ w0, (Op.stringOp .add ⟨(se b).toArray⟩ ((⟨o.data.toArray⟩ : ByteArray).extract 0 m)).run Try.prog w0 = .ok (.string ⟨(se b ++ o.data.take m).toArray⟩) w0 := fun w0 => by
              rw [extract_take, run_string_add_sum w0 _ _ (by simp [ByteArray.size]; omega), ByteArray.mk_append_mk]
            clear m3 m4 m5
            go_wp2_with fail
            go_still_tail 10, (by kernel_rfl)
            change wpList _ _ _ _ _ (World.drew _)
            go_wp2_with fail
            go_meet
            exact CutB.mk (HR2.out.drew.setSe b _) HI2.out (grown_len HN.out m2)
          · rw [m2]
            have HI2 := Lib.hid m3
            have hE : (E == 0) = false := by simpa using m1
            clear m1 m2 m3
            go_wp2_with fail
            go_meet
            exact CutB.mk HR2.out HI2.out (kept_len HN.out)
        iterate 2
          · go_wp2_with fail
            refine (m_move HR1.out.nt 1 (sd b) o.many w1f).mono ?_
            rintro e wx ⟨rfl, h1, f1⟩
            have HR2 := Lib.hid (HR1.out.turn h1 f1)
            have HI2 := Lib.hid (HI.out.move b o.many)
            clear h1 f1 HR1 HI q3 q4
            go_wp2_with fail
            go_meet
            exact CutB.mk HR2.out HI2.out (kept_len HN.out)
        iterate 2
          · go_wp2_with fail
            refine (m_take HR1.out.nt 1 (sd b) o.many w1f).mono ?_
            rintro e wx ⟨rfl, h1, f1⟩
            have HR2 := Lib.hid (HR1.out.turn h1 f1)
            obtain ⟨t, rest, E, m1, m2, m3, m4⟩ := HI.out.take b o.many
            rw [m1]
            have HI2 := Lib.hid m4
            have ygo := HR2.out.cgo b
            have yfz : wx.frozen? ⟨bg, (sd b).toNat, none⟩ = false := HR2.out.bgo.frozen _
            have hln := HN.out (!b)
            rw [m2] at hln
            simp only [List.length_append] at hln
            have hcat : ∀ w0, (Op.stringOp .add ⟨(go b).toArray⟩ ⟨t.toArray⟩).run Try.prog w0 = .ok (.string ⟨(go b ++ t).toArray⟩) w0 := fun w0 => by
              rw [run_string_add_sum w0 _ _ (by simp [ByteArray.size]; omega), ByteArray.mk_append_mk]
            have HM2 := Lib.hid m2
            have HM3 := Lib.hid m3
            clear h1 f1 HR1 HI q3 q4 m1 m2 m3 m4
            go_upto_region 30 with fail
            obtain ⟨wy, hwy⟩ : ∃ wy, wx.setCell ⟨bg, (sd b).toNat, none⟩ (.string ⟨(go b ++ t).toArray⟩) = wy := ⟨_, rfl⟩
            have HR3 := Lib.hid (show RB w wy bs bg bh bo d o _ se (updB go b (go b ++ t)) sh by rw [← hwy]; exact HR2.out.setGo b _)
            rw [hwy]
            clear hwy ygo yfz hcat HR2
            obtain ⟨G, hG⟩ : ∃ G, go b ++ t = G := ⟨_, rfl⟩
            obtain ⟨X, hX⟩ : ∃ X, se (!b) = X := ⟨_, rfl⟩
            have xgo : wy.cell? ⟨bg, (sd b).toNat, none⟩ = some (.string ⟨G.toArray⟩) := by rw [HR3.out.cgo b, updB_same, hG]
            have xse : wy.cell? ⟨bs, (1 - sd b).toNat, none⟩ = some (.string ⟨X.toArray⟩) := by rw [HR3.out.cse' b, hX]
            have hXG : X = G ++ rest := by rw [← hX, ← hG]; exact HM2.out
            have hGX : G.length ≤ X.length := by rw [hXG, List.length_append]; omega
            have hx : (⟨X.toArray⟩ : ByteArray).extract 0 G.length = ⟨G.toArray⟩ := by rw [extract_take, hXG, List.take_left' rfl]
            have hd1 : decide (X.length < G.length) = false := by simpa using hGX
            have HX := Lib.hid hXG
            have hgx : (G.length : Int) ≤ (X.length : Int) := by omega
            have hgx0 : (0 : Int) ≤ (G.length : Int) := by omega
            clear hG hX hXG hln
            by_cases hE : E = 16
            · obtain ⟨hs1, hs2⟩ := HM3.out hE
              have xsh : wy.cell? ⟨bh, (1 - sd b).toNat, none⟩ = some (.bool true) := by rw [HR3.out.csh' b, hs1]
              have hXe : X = G := by rw [HX.out, hs2, List.append_nil]
              subst hXe
              subst hE
              clear hs1 hs2
              go_wp2_with fail
              go_quiet (fail)
              go_wp2_with fail
              go_meet
              exact CutB.mk (HR3.out.keep ((Fr.refl _ _).drewN _)) HI2.out (kept_len HN.out)
            · have hE1 : (E == 16) = false := by simpa using hE
              have hE2 : decide (E = 16) = false := by simpa using hE
              go_wp2_with fail
              go_quiet (fail)
              go_wp2_with fail
              go_meet
              exact CutB.mk (HR3.out.keep ((Fr.refl _ _).drewN _)) HI2.out (kept_len HN.out)
        iterate 2
          · by_cases h5 : o.many.tmod 5 = 0
            · go_wp2_with fail
              refine (m_shut HR1.out.nt 1 (sd b) w1f).mono ?_
              rintro e wx ⟨rfl, h1, f1⟩
              have HR2 := Lib.hid (HR1.out.turn h1 f1)
              have hI2 := HI.out.shut b
              clear h1 f1 HR1 HI q3 q4
              obtain ⟨m1, m2⟩ | ⟨E, m1, m2, m3⟩ := hI2
              · rw [m1]
                have HI2 := Lib.hid m2
                have ysh := HR2.out.csh b
                have yfz : wx.frozen? ⟨bh, (sd b).toNat, none⟩ = false := HR2.out.bsh.frozen _
                clear m1 m2
                go_wp2_with fail
                go_meet
                exact CutB.mk (HR2.out.setSh b true) HI2.out (kept_len HN.out)
              · rw [m2]
                have HI2 := Lib.hid m3
                have hE : (E == 0) = false := by simpa using m1
                clear m1 m2 m3
                go_wp2_with fail
                go_meet
                exact CutB.mk HR2.out HI2.out (kept_len HN.out)
            · have h5' : (o.many.tmod 5 == 0) = false := by simpa using h5
              clear h5
              go_wp2_with fail
              go_meet
              exact CutB.mk HR1.out HI.out (kept_len HN.out)
      case rest =>
        obtain ⟨S', se', go', sh', hR, hI', hl'⟩ := hcut
        have HR2 := Lib.hid hR
        have HI2 := Lib.hid hI'
        have HL2 := Lib.hid hl'
        clear hR hI' hl' HR1 HI q3 q4
        go_wp2_with fail
        refine (m_waits HR2.out.nt 1 (sd b) w1f).mono ?_
        rintro e wx ⟨rfl, h1, f1⟩
        have HR3 := Lib.hid (HR2.out.keep f1)
        obtain ⟨p1, p2, p3⟩ := waits_bd HR2.out.nt.wf 1 (sd b)
        obtain ⟨x, hx⟩ : ∃ x, (S'.waits 1 (sd b)).1 = x := ⟨_, rfl⟩
        obtain ⟨y, hy⟩ : ∃ y, (S'.waits 1 (sd b)).2 = y := ⟨_, rfl⟩
        rw [hx, hy] at p3
        rw [hx] at p1 ⊢
        rw [hy] at p2 ⊢
        clear hx hy h1 f1 HR2
        go_wp2
        refine ⟨LoopB.next hlt HR3.out HI2.out HL2.out, by simp [intOf]; omega⟩
    · go_wp2
      go_ret
      exact ⟨rfl, HL.out.bel⟩

end Go.Proofs.Ythcpdeffgdaieaa
