/- The law DiskFirm, walked. -/
import Derived.Test.YtlopbhamlhmpbaaE4
import Derived.Deep.DeepCutAuto
namespace Go.Proofs.Ytlopbhamlhmpbaa
open Go.RowKit Go.Maps Go.Sort
set_option linter.unusedVariables false

theorem info3 : (Try.prog.info? 3).map (fun i => (i.zero, i.size, i.bytes)) = some (some (.int .i64 0), 1, 8) := by kernel_rfl

set_option maxRecDepth 100000 in
set_option maxHeartbeats 8000000 in
theorem diskfirm_any (w : World) (g n c g1 n1 c1 g2 n2 c2 : Nat) (A A1 A2 : Option Addr) (ss : List (List UInt8)) (hs1 ps : List Int) (hs : StrsAt w g A n c ss) (hbig : ∀ s ∈ ss, s.length ≤ 140737488355328) (hcs : c ≤ 140737488355328) (hh : PicksAt w g1 A1 n1 c1 hs1) (hp : PicksAt w g2 A2 n2 c2 ps) :
    Calls Try.prog 4 #[.slice A n c, .slice A1 n1 c1, .slice A2 n2 c2] w fun e w' => e = .returned (.bool true) ∧ Below w.heap.size w w' := by
  have HS := Lib.hid hs
  have HH := Lib.hid hh
  have HP := Lib.hid hp
  clear hs hh hp
  go_enter Try.func4, Try.ntmps4
  go_wp2_with fail
  refine (awake_any _).mono ?_
  rintro e w1 ⟨rfl, b⟩
  have HB := Lib.hid b
  clear b
  go_wp2_with fail
  refine (m_new 16777216 w1 w.heap.size HB.out.size).mono ?_
  rintro e w2 ⟨d, rfl, h0, f0⟩
  have hm : Mid w d 63 (AS.new 16777216) w2 := ⟨h0.more (by omega) (by omega), HB.out.trans (f0.below.mono HB.out.size)⟩
  have HM := Lib.hid hm
  clear HB f0 hm h0
  go_wp2_with fail
  refine (m_write HM.out.dsk (by omega) [102] [] (by decide) (by decide)).mono ?_
  rintro e w3 ⟨rfl, h1, b1⟩
  obtain ⟨q1, q2, q3⟩ := firm_start _ rfl h1.inv.names
  rw [q1]
  have HM1 := Lib.hid (HM.out.turn h1 b1)
  clear HM h1 b1 q1
  go_wp2_with fail
  refine (m_settle HM1.out.dsk).mono ?_
  rintro e w4 ⟨rfl, h1, b1⟩
  rw [q2]
  have HM := Lib.hid (HM1.out.turn h1 b1)
  have HI := Lib.hid q3
  clear HM1 h1 b1 q2 q3
  obtain ⟨S, hS⟩ : ∃ S, ((AS.new 16777216).write [102] []).1.settle.1 = S := ⟨_, rfl⟩
  rw [hS] at HM HI
  clear hS
  go_wp2_with fail
  go_loopw [9, 10, 11] (fun av fv iv wr => ∃ (k : Nat) (S : AS) (all : List UInt8) (fm : Nat), k ≤ n ∧ iv = .int .i64 k ∧ av = .string ⟨all.toArray⟩ ∧ fv = .int .i64 fm ∧ Mid w d 64 S wr ∧ FirmInv S all fm) (fun _ _ iv _ => n - (intOf iv).toNat)
  case atStart => exact ⟨0, _, [], 0, Nat.zero_le _, rfl, rfl, rfl, HM.out, HI.out⟩
  case round =>
    obtain ⟨k, S, all, fm, hk, rfl, rfl, rfl, hM, hI⟩ := hrel
    have hcap := HS.out.cap
    have hcap2 : n ≤ 140737488355328 := by omega
    have HM0 := Lib.hid hM
    have HI0 := Lib.hid hI
    obtain ⟨hsz1, hsz2⟩ := hI.size hM.dsk.inv
    clear hM hI HM HI
    by_cases hkn : k < n
    · obtain ⟨ad, rfl, _, data, hdat, hcell, hdl⟩ := (HM0.out.strs HS.out).cell hkn
      have hdb := hbig data (List.mem_of_getElem? hdat)
      have t1 : IntKind.i64.wrap ((all.length : Int) + data.length) = all.length + data.length := IntWalk.i64_in _ (by omega)
      by_cases hle : (all.length : Int) + data.length ≤ 16777216
      · go_wp2_with fail
        refine (m_write HM0.out.dsk (by omega) [102] data (by decide) hdl).mono ?_
        rintro e wx ⟨rfl, h1, b1⟩
        obtain ⟨q1, q2⟩ := HI0.out.write HM0.out.dsk.inv data (by omega)
        rw [q1]
        have HM1 := Lib.hid (HM0.out.turn (h1.refit (M := 64) q2.last (by rw [q2.loose]; simp) (by omega)) b1)
        have HI1 := Lib.hid q2
        obtain ⟨S1, hS1⟩ : ∃ S1, (S.write [102] data).1 = S1 := ⟨_, rfl⟩
        rw [hS1] at HM1 HI1
        have hcat : ∀ w0, (Op.stringOp .add ⟨all.toArray⟩ ⟨data.toArray⟩).run Try.prog w0 = .ok (.string ⟨(all ++ data).toArray⟩) w0 := fun w0 => by
          rw [run_string_add_sum w0 _ _ (by simp [ByteArray.size]; omega), ByteArray.mk_append_mk]
        clear h1 b1 q1 q2 hS1 HM0 HI0 hcell
        obtain ⟨ad', e', _, data', hdat', hcell, hdl'⟩ := (HM1.out.strs HS.out).cell hkn
        cases e'
        rw [hdat] at hdat'
        cases hdat'
        go_upto_if 69 with fail
        go_cut [12] (fun kv wy => wx = wy ∧ ∃ q : Int, kv = .int .i64 q)
        case first =>
          by_cases hn1 : 0 < n1
          · obtain ⟨ah, rfl, p, _, hcellh, hp1, hp2⟩ := (HM1.out.picks HH.out).cell (Nat.mod_lt k hn1)
            have hc1 := HH.out.cap
            have hmod := Nat.mod_lt k hn1
            go_wp2_with fail
            refine (lawpick_any p 4 wx ⟨hp1, hp2⟩ (by omega)).mono ?_
            rintro e w' ⟨rfl, rfl⟩
            go_wp2_with fail
            go_meet
            exact ⟨rfl, _, rfl⟩
          · go_wp2_with fail
            go_meet
            exact ⟨rfl, _, rfl⟩
        case rest =>
        obtain ⟨rfl, q, rfl⟩ := hcut
        clear hcell hcat
        by_cases hq1 : q = 1
        · subst hq1
          go_wp2_with fail
          refine (m_sync HM1.out.dsk [102] (by decide)).mono ?_
          rintro e wy ⟨rfl, h1, b1⟩
          obtain ⟨q1, q2⟩ := HI1.out.sync
          rw [q1]
          rw [List.length_append] at q2
          have HM2 := Lib.hid (HM1.out.turn h1 b1)
          have HI2 := Lib.hid q2
          clear h1 b1 q1 q2
          go_wp2
          refine ⟨⟨k + 1, _, _, _, by omega, by go_num, rfl, rfl, HM2.out, HI2.out⟩, by simp [intOf]; omega⟩
        · by_cases hq2 : q = 2
          · subst hq2
            obtain ⟨i0, hi0, hz0, hz1, hz2⟩ := info_parts info3
            have hn2c := HP.out.cap
            go_wp2_with fail
            go_loopw [13, 14] (fun lv jv wy => ∃ (j : Nat) (A' : Option Addr) (c' : Nat) (zs : List Int), j ≤ 3 ∧ jv = .int .i64 j ∧ lv = .slice A' j c' ∧ wy.ownsRow wx.heap.size 3 1 (.slice A' j c') j (zs.map intV) ∧ Fr No wx wy ∧ ∀ p ∈ zs, -9223372036854775808 ≤ p ∧ p ≤ 9223372036854775807) (fun _ jv _ => 3 - (intOf jv).toNat)
            case atStart => exact ⟨0, none, 0, [], by omega, rfl, rfl, World.ownsRow_nil _ _ _ _, Fr.refl _ _, by simp⟩
            case round =>
              obtain ⟨j, A', c', zs, hj3, rfl, rfl, hrow, hfr, hrng⟩ := hrel
              have HFR := Lib.hid hfr
              have HROW := Lib.hid hrow
              clear hrow hfr
              by_cases hj : j < 3
              · by_cases hn2 : 0 < n2
                · obtain ⟨M, hM⟩ : ∃ M : Nat, M = k + j := ⟨_, rfl⟩
                  obtain ⟨ap, rfl, p, _, hcellp, hp1, hp2⟩ := ((HM1.out.keep HFR.out).picks HP.out).cell (Nat.mod_lt M hn2)
                  have hmod := Nat.mod_lt M hn2
                  have t2 : IntKind.i64.wrap ((k : Int) + j) = M := by rw [hM, IntWalk.i64_in _ (by omega)]; simp
                  have A1' : ∀ j' u, [Value.int .i64 p][j']? = some u → (wr.alloc (.cells #[.int .i64 p] 3)).cell? ((⟨wr.heap.size, 0, none⟩ : Addr).add j') = some u := cell_one_new _ _ _
                  have A2' : ∀ u ∈ [Value.int .i64 p], u.oneCell' = true := fun x hx => by simp at hx; subst hx; rfl
                  have A3' : j + 1 ≤ maxLen := by unfold maxLen; omega
                  have A4' : wx.heap.size ≤ (wr.alloc (.cells #[.int .i64 p] 3)).heap.size := by have := HFR.out.size; simp; omega
                  have A5' : (wr.alloc (.cells #[.int .i64 p] 3)).ownsRow wx.heap.size 3 1 (.slice A' j c') j (zs.map intV) := HROW.out.alloc _
                  have B1' := Lib.hid A1'
                  have B2' := Lib.hid A2'
                  have B3' := Lib.hid A3'
                  have B4' := Lib.hid A4'
                  have B5' := Lib.hid A5'
                  clear A1' A2' A3' A4' A5' hM
                  go_wp2_with (at_builtin; refine wpList_append_lies _ (by rfl) _ _ 28 (by rfl) wx.heap.size 3 i0 _ 1 8 Try.underlying28 hi0 hz0 hz1 hz2 rfl (by omega) (.slice A' j c') j (zs.map intV) (by rfl) B5'.out ⟨wr.heap.size, 0, none⟩ 1 1 [.int .i64 p] (by rfl) (by rfl) B1'.out B2'.out (by omega) B3'.out (by omega) B4'.out _ rfl ?_; intro g' cap' w5 ho3 hg3 hat3 hl3)
                  have hfr5 : Fr No wx w5 := (HFR.out.alloc _).grown hg3 (fun k' hk' hlt => absurd ((HROW.out.lt k' hk').1) (by omega))
                  have ho5 : w5.ownsRow wx.heap.size 3 1 (.slice (some ⟨g', 0, none⟩) (j + 1) cap') (j + 1) ((zs ++ [p]).map intV) := by rw [List.map_append]; exact ho3
                  refine ⟨⟨j + 1, _, _, zs ++ [p], by omega, by go_num, rfl, ho5, hfr5, fun q hq => ?_⟩, by simp [intOf]; omega⟩
                  rcases List.mem_append.1 hq with hq | hq
                  · exact hrng q hq
                  · rw [List.mem_singleton.1 hq]; exact ⟨hp1, hp2⟩
                · go_wp2_with fail
                  obtain ⟨gp, hpp, hgp⟩ := picks_row HROW.out hrng
                  have HM2 := Lib.hid (HM1.out.keep HFR.out)
                  refine (m_crash HM2.out.dsk gp A' j c' zs hpp (fun hn => .inr (hgp hn))).mono ?_
                  rintro e wy ⟨rfl, h1, b1⟩
                  obtain ⟨m, hm1, hm2, q2⟩ := HI1.out.crash HM2.out.dsk.inv zs
                  have HM3 := Lib.hid (HM2.out.turn h1 b1)
                  have HI2 := Lib.hid q2
                  have hal := (q2.size h1.inv).1
                  clear h1 b1 q2 HM2 hpp hgp
                  obtain ⟨B, hB⟩ : ∃ B, (all ++ data).take m = B := ⟨_, rfl⟩
                  have hBl : B.length = m := by rw [← hB, List.length_take]; omega
                  have hx : (⟨(all ++ data).toArray⟩ : ByteArray).extract 0 m = ⟨B.toArray⟩ := by
                    rw [← hB]; apply ByteArray.ext; simp
                  have hm2' : (m : Int) ≤ (all.length : Int) + data.length := by rw [List.length_append] at hm2; omega
                  have hm1' : ¬ (m : Int) < fm := by omega
                  rw [hB] at HI2
                  go_wp2_with fail
                  refine (m_read HM3.out.dsk [102] (by decide)).mono ?_
                  rintro e wz ⟨rfl, fr⟩
                  rw [HI2.out.read]
                  have HM4 := Lib.hid (HM3.out.keep fr)
                  clear fr HM3
                  go_wp2
                  refine ⟨⟨k + 1, _, B, m, by omega, by go_num, rfl, rfl, HM4.out, HI2.out⟩, by simp [intOf]; omega⟩
              · go_wp2_with fail
                obtain ⟨gp, hpp, hgp⟩ := picks_row HROW.out hrng
                have HM2 := Lib.hid (HM1.out.keep HFR.out)
                refine (m_crash HM2.out.dsk gp A' j c' zs hpp (fun hn => .inr (hgp hn))).mono ?_
                rintro e wy ⟨rfl, h1, b1⟩
                obtain ⟨m, hm1, hm2, q2⟩ := HI1.out.crash HM2.out.dsk.inv zs
                have HM3 := Lib.hid (HM2.out.turn h1 b1)
                have HI2 := Lib.hid q2
                have hal := (q2.size h1.inv).1
                clear h1 b1 q2 HM2 hpp hgp
                obtain ⟨B, hB⟩ : ∃ B, (all ++ data).take m = B := ⟨_, rfl⟩
                have hBl : B.length = m := by rw [← hB, List.length_take]; omega
                have hx : (⟨(all ++ data).toArray⟩ : ByteArray).extract 0 m = ⟨B.toArray⟩ := by
                  rw [← hB]; apply ByteArray.ext; simp
                have hm2' : (m : Int) ≤ (all.length : Int) + data.length := by rw [List.length_append] at hm2; omega
                have hm1' : ¬ (m : Int) < fm := by omega
                rw [hB] at HI2
                go_wp2_with fail
                refine (m_read HM3.out.dsk [102] (by decide)).mono ?_
                rintro e wz ⟨rfl, fr⟩
                rw [HI2.out.read]
                have HM4 := Lib.hid (HM3.out.keep fr)
                clear fr HM3
                go_wp2
                refine ⟨⟨k + 1, _, B, m, by omega, by go_num, rfl, rfl, HM4.out, HI2.out⟩, by simp [intOf]; omega⟩
          · have z1 : (q == 1) = false := by simp [hq1]
            have z2 : (q == 2) = false := by simp [hq2]
            go_wp2
            refine ⟨⟨k + 1, _, _, _, by omega, by go_num, rfl, rfl, HM1.out, HI1.out⟩, by simp [intOf]; omega⟩
      · go_wp2_with fail
        refine (m_read HM0.out.dsk [102] (by decide)).mono ?_
        rintro e wx ⟨rfl, fr⟩
        rw [HI0.out.read]
        have HM1 := Lib.hid (HM0.out.keep fr)
        clear fr
        go_wp2_with fail
        have hu := m_used HM1.out.dsk HI0.out.on
        rw [HI0.out.used HM1.out.dsk.inv.names] at hu
        refine hu.mono ?_
        clear hu
        rintro e wy ⟨rfl, fr⟩
        have HM2 := Lib.hid (HM1.out.keep fr)
        clear fr
        go_wp2
        go_ret
        exact ⟨rfl, HM2.out.bel⟩
    · go_wp2_with fail
      refine (m_read HM0.out.dsk [102] (by decide)).mono ?_
      rintro e wx ⟨rfl, fr⟩
      rw [HI0.out.read]
      have HM1 := Lib.hid (HM0.out.keep fr)
      clear fr
      go_wp2_with fail
      have hu := m_used HM1.out.dsk HI0.out.on
      rw [HI0.out.used HM1.out.dsk.inv.names] at hu
      refine hu.mono ?_
      clear hu
      rintro e wy ⟨rfl, fr⟩
      have HM2 := Lib.hid (HM1.out.keep fr)
      clear fr
      go_wp2
      go_ret
      exact ⟨rfl, HM2.out.bel⟩

end Go.Proofs.Ytlopbhamlhmpbaa
