/- The law DiskSwaps, walked. -/
import Derived.Test.YtlopbhamlhmpbaaF5
import Derived.Test.YtlopbhamlhmpbaaE5
namespace Go.Proofs.Ytlopbhamlhmpbaa
open Go.RowKit Go.Maps Go.Sort
set_option linter.unusedVariables false

theorem past_nil_good {N : Nat} {S : AS} (hi : Inv N S) : Good S.file S.names := hi.names

set_option maxRecDepth 100000 in
set_option maxHeartbeats 8000000 in
theorem diskswaps_any (w : World) (g n c g1 n1 c1 g2 n2 c2 : Nat) (A A1 A2 : Option Addr) (ss : List (List UInt8)) (hs1 ps : List Int) (hs : StrsAt w g A n c ss) (hbig : ∀ s ∈ ss, s.length ≤ 140737488355328) (hh : PicksAt w g1 A1 n1 c1 hs1) (hp : PicksAt w g2 A2 n2 c2 ps) :
    Calls Try.prog 5 #[.slice A n c, .slice A1 n1 c1, .slice A2 n2 c2] w fun e w' => e = .returned (.bool true) ∧ Below w.heap.size w w' := by
  have HS := Lib.hid hs
  have HH := Lib.hid hh
  have HP := Lib.hid hp
  clear hs hh hp
  go_enter Try.func5, Try.ntmps5
  go_wp2_with fail
  refine (awake_any _).mono ?_
  rintro e w1 ⟨rfl, b⟩
  have HB := Lib.hid b
  clear b
  go_wp2_with fail
  refine (m_new 16777216 w1 w.heap.size HB.out.size).mono ?_
  rintro e w2 ⟨d, rfl, h0, f0⟩
  have hm : Mid w d 900 X0 w2 := ⟨h0.more (by omega) (by omega), HB.out.trans (f0.below.mono HB.out.size)⟩
  have HM := Lib.hid hm
  clear HB f0 hm h0
  go_wp2_with fail
  have z := m_write HM.out.dsk (by omega) lOld lFirst (by decide) (by decide)
  rw [xw1] at z
  refine z.mono ?_
  clear z
  rintro e w3 ⟨rfl, h1, b1⟩
  have HM1 := Lib.hid (show Mid w d 901 X1 w3 from HM.out.turn h1 b1)
  clear HM h1 b1
  go_wp2_with fail
  have z := m_sync HM1.out.dsk lOld (by decide)
  rw [show (X1.sync lOld).2 = 0 from xw2] at z
  refine z.mono ?_
  clear z
  rintro e w4 ⟨rfl, h1, b1⟩
  have HM2 := Lib.hid (show Mid w d 901 X2 w4 from HM1.out.turn h1 b1)
  clear HM1 h1 b1
  go_wp2_with fail
  have z := m_settle HM2.out.dsk
  rw [show X2.settle.2 = 0 from xw3] at z
  refine z.mono ?_
  clear z
  rintro e w5 ⟨rfl, h1, b1⟩
  have hM3 : Mid w d 901 X3 w5 := HM2.out.turn h1 b1
  obtain ⟨x1, x2, x3, x4⟩ := swap_start hM3.dsk.inv.names
  have hM3' : Mid w d 1000 X3 w5 := ⟨hM3.dsk.more (by omega) (by omega), hM3.bel⟩
  have HM := Lib.hid hM3'
  have HX1 := Lib.hid x1
  have HX2 := Lib.hid x2
  have HX3 := Lib.hid x3
  have HX4 := Lib.hid x4
  clear HM2 h1 b1 hM3 hM3' x1 x2 x3 x4
  obtain ⟨S, hS⟩ : ∃ S, X3 = S := ⟨_, rfl⟩
  rw [hS] at HM HX1 HX2 HX3 HX4
  clear hS
  go_wp2_with fail
  go_loopw [9, 10] (fun wv iv wr => ∃ (k : Nat) (S : AS) (was : List UInt8), k ≤ n ∧ k ≤ 40 ∧ iv = .int .i64 k ∧ wv = .string ⟨was.toArray⟩ ∧ Mid w d 1000 S wr ∧ S.on = true ∧ S.loose = [] ∧ Safe S (fun b => b = was) ∧ was.length ≤ 100000 ∧ S.last ≤ 5 * k + 5) (fun _ iv _ => n - (intOf iv).toNat)
  case atStart => exact ⟨0, S, lFirst, Nat.zero_le _, Nat.zero_le _, rfl, rfl, HM.out, HX1.out, HX2.out, HX4.out, by decide, by rw [HX3.out]; decide⟩
  case round =>
    obtain ⟨k, S, was, hk, hk40, rfl, rfl, hM, hon, hloose, hsafe, hwas, hlast⟩ := hrel
    have hcap := HS.out.cap
    have hcap2 : n ≤ 9223372036854775807 := by have := hcap.2; unfold maxLen at this; omega
    have HM0 := Lib.hid hM
    have HON := Lib.hid hon
    have HLO := Lib.hid hloose
    have HSA := Lib.hid hsafe
    clear hM hon hloose hsafe HM HX1 HX2 HX3 HX4
    by_cases hkn : k < n
    · by_cases hk4 : k < 40
      · obtain ⟨ad, rfl, _, data, hdat, hcell, hdl⟩ := (HM0.out.strs HS.out).cell hkn
        have hdb := hbig data (List.mem_of_getElem? hdat)
        go_upto_region 10 with fail
        clear hcell
        go_upto_if 60 with fail
        go_cut [11] (fun tv wx => wr = wx ∧ ∃ t : List UInt8, t.length ≤ 100000 ∧ tv = .string ⟨t.toArray⟩)
        case first =>
          by_cases hlong : (data.length : Int) > 100000
          · have hx : (⟨data.toArray⟩ : ByteArray).extract 0 100000 = ⟨(data.take 100000).toArray⟩ := by
              apply ByteArray.ext; simp
            go_wp2_with fail
            go_meet
            exact ⟨rfl, data.take 100000, by rw [List.length_take]; omega, rfl⟩
          · go_wp2_with fail
            go_meet
            exact ⟨rfl, data, by omega, rfl⟩
        case rest =>
        obtain ⟨rfl, t, ht, rfl⟩ := hcut
        go_upto_region 12 with fail
        go_upto_if 66 with fail
        go_cut [] (fun wx => ∃ S' : AS, Mid w d 1000 S' wx ∧ S'.on = true ∧ S'.loose = [] ∧ Safe S' (fun b => b = was) ∧ S'.last = S.last)
        case first =>
          by_cases hk1 : k < n1
          · obtain ⟨ah, rfl, p, _, hcellh, hp1, hp2⟩ := (HM0.out.picks HH.out).cell hk1
            have hc1 := HH.out.cap
            go_wp2_with fail
            refine (lawpick_any p 7 wr ⟨hp1, hp2⟩ (by omega)).mono ?_
            rintro e w' ⟨rfl, rfl⟩
            go_wp2_with fail
            refine (m_arm HM0.out.dsk (pickOf p % 7) (by omega)).mono ?_
            rintro e wx ⟨rfl, h1, b1⟩
            have HM1 := Lib.hid (HM0.out.turn h1 b1)
            clear h1 b1
            go_wp2_with fail
            go_meet
            exact ⟨_, HM1.out, HON.out, HLO.out, HSA.out.arm _, rfl⟩
          · go_wp2_with fail
            go_meet
            exact ⟨S, HM0.out, HON.out, HLO.out, HSA.out, rfl⟩
        case rest =>
        obtain ⟨S1, hM1, hon1, hlo1, hsa1, hla1⟩ := hcut
        obtain ⟨r1, r2, r3⟩ := swap_remove hsa1 hM1.dsk.inv hon1
        have HM1 := Lib.hid hM1
        have HR1 := Lib.hid r1
        have HR2 := Lib.hid r2
        have HC := Lib.hid (m_remove hM1.dsk (by omega) lNew (by decide))
        obtain ⟨S2, hS2⟩ : ∃ S2, (S1.remove lNew).1 = S2 := ⟨_, rfl⟩
        rw [hS2] at HR1 HR2 HC r3
        clear hS2 hM1 hon1 hlo1 hsa1 r1 r2 HM0 HSA HLO HON
        go_wp2_with fail
        refine HC.out.mono ?_
        rintro e wx ⟨rfl, h1, b1⟩
        have HM2 := Lib.hid (HM1.out.turn h1 b1)
        clear h1 b1 HC HM1
        go_wp2_with fail
        refine (swap_any HM2.out (by omega) HR1.out hwas t ht HR2.out).mono ?_
        rintro e wy ⟨S3, E, rfl, hM3, hsw⟩
        have hla3 := hsw.last
        have hhow := hsw.how
        have HM3 := Lib.hid hM3
        clear hM3 hsw HM2 HR1 HR2
        rcases hhow with ⟨rfl, o3, l3, s3⟩ | ⟨rfl, o3, s3⟩
        · have HM4 := Lib.hid (⟨HM3.out.dsk.refit (M := 1000) (by omega) (by rw [l3]; simp) (by omega), HM3.out.bel⟩ : Mid w d 1000 S3 wy)
          obtain ⟨bb, hb1, hb2⟩ := s3.read HM4.out.dsk.inv o3
          rw [hb1] at hb2
          have HR := Lib.hid hb2
          have HO := Lib.hid o3
          have HL := Lib.hid l3
          have HS3 := Lib.hid s3
          clear hb2 hb1 o3 l3 s3 HM3
          go_wp2_with fail
          have z := m_read HM4.out.dsk lOld (by decide)
          rw [HR.out] at z
          refine z.mono ?_
          clear z
          rintro e wa ⟨rfl, fr⟩
          have HM6 := Lib.hid (HM4.out.keep fr)
          clear fr HM4
          go_wp2
          exact ⟨⟨k + 1, _, t, by omega, by omega, by go_num, rfl, HM6.out, HO.out, HL.out, HS3.out, ht, by omega⟩, by simp [intOf]; omega⟩
        · have HS3 := Lib.hid s3
          have HO := Lib.hid o3
          clear s3 o3
          go_wp2_with fail
          have z := m_on HM3.out.dsk
          rw [HO.out] at z
          refine z.mono ?_
          clear z
          rintro e w' ⟨rfl, rfl⟩
          obtain ⟨i0, hi0, hz0, hz1, hz2⟩ := info_parts info3
          have hn2c := HP.out.cap
          go_wp2_with fail
          go_loopw [15, 16] (fun lv jv wz => ∃ (j : Nat) (A' : Option Addr) (c' : Nat) (zs : List Int), j ≤ 4 ∧ jv = .int .i64 j ∧ lv = .slice A' j c' ∧ wz.ownsRow wy.heap.size 3 1 (.slice A' j c') j (zs.map intV) ∧ Fr No wy wz ∧ ∀ p ∈ zs, -9223372036854775808 ≤ p ∧ p ≤ 9223372036854775807) (fun _ jv _ => 4 - (intOf jv).toNat)
          case atStart => exact ⟨0, none, 0, [], by omega, rfl, rfl, World.ownsRow_nil _ _ _ _, Fr.refl _ _, by simp⟩
          case round =>
            obtain ⟨j, A', c', zs, hj3, rfl, rfl, hrow, hfr, hrng⟩ := hrel
            have HFR := Lib.hid hfr
            have HROW := Lib.hid hrow
            clear hrow hfr
            by_cases hj : j < 4
            · by_cases hn2 : 0 < n2
              · obtain ⟨K, hK⟩ : ∃ K : Nat, K = k * 3 := ⟨_, rfl⟩
                obtain ⟨M, hM⟩ : ∃ M : Nat, M = K + j := ⟨_, rfl⟩
                obtain ⟨ap, rfl, p, _, hcellp, hp1, hp2⟩ := ((HM3.out.keep HFR.out).picks HP.out).cell (Nat.mod_lt M hn2)
                have hmod := Nat.mod_lt M hn2
                have t1 : IntKind.i64.wrap ((k : Int) * 3) = K := by rw [hK, IntWalk.i64_in _ (by omega)]; simp
                have t2 : IntKind.i64.wrap ((K : Int) + j) = M := by rw [hM, IntWalk.i64_in _ (by omega)]; simp
                have A1' : ∀ j' u, [Value.int .i64 p][j']? = some u → (wr.alloc (.cells #[.int .i64 p] 3)).cell? ((⟨wr.heap.size, 0, none⟩ : Addr).add j') = some u := cell_one_new _ _ _
                have A2' : ∀ u ∈ [Value.int .i64 p], u.oneCell' = true := fun x hx => by simp at hx; subst hx; rfl
                have A3' : j + 1 ≤ maxLen := by unfold maxLen; omega
                have A4' : wy.heap.size ≤ (wr.alloc (.cells #[.int .i64 p] 3)).heap.size := by have := HFR.out.size; simp; omega
                have A5' : (wr.alloc (.cells #[.int .i64 p] 3)).ownsRow wy.heap.size 3 1 (.slice A' j c') j (zs.map intV) := HROW.out.alloc _
                have B1' := Lib.hid A1'
                have B2' := Lib.hid A2'
                have B3' := Lib.hid A3'
                have B4' := Lib.hid A4'
                have B5' := Lib.hid A5'
                clear A1' A2' A3' A4' A5' hM hK
                go_wp2_with (at_builtin; refine wpList_append_lies _ (by rfl) _ _ 28 (by rfl) wy.heap.size 3 i0 _ 1 8 Try.underlying28 hi0 hz0 hz1 hz2 rfl (by omega) (.slice A' j c') j (zs.map intV) (by rfl) B5'.out ⟨wr.heap.size, 0, none⟩ 1 1 [.int .i64 p] (by rfl) (by rfl) B1'.out B2'.out (by omega) B3'.out (by omega) B4'.out _ rfl ?_; intro g' cap' w5 ho3 hg3 hat3 hl3)
                have hfr5 : Fr No wy w5 := (HFR.out.alloc _).grown hg3 (fun k' hk' hlt => absurd ((HROW.out.lt k' hk').1) (by omega))
                have ho5 : w5.ownsRow wy.heap.size 3 1 (.slice (some ⟨g', 0, none⟩) (j + 1) cap') (j + 1) ((zs ++ [p]).map intV) := by rw [List.map_append]; exact ho3
                refine ⟨⟨j + 1, _, _, zs ++ [p], by omega, by go_num, rfl, ho5, hfr5, fun q hq => ?_⟩, by simp [intOf]; omega⟩
                rcases List.mem_append.1 hq with hq | hq
                · exact hrng q hq
                · rw [List.mem_singleton.1 hq]; exact ⟨hp1, hp2⟩
              · go_wp2_with fail
                obtain ⟨gp, hpp, hgp⟩ := picks_row HROW.out hrng
                have HM4 := Lib.hid (HM3.out.keep HFR.out)
                refine (m_crash HM4.out.dsk gp A' j c' zs hpp (fun hn => .inr (hgp hn))).mono ?_
                rintro e wz ⟨rfl, h1, b1⟩
                obtain ⟨q1, q2, q3, q4, q5⟩ := HS3.out.crash HM4.out.dsk.inv zs
                obtain ⟨bb, hb1, hb2⟩ := q1.read h1.inv q3
                have hq1 : Safe (S3.crashed zs) (fun b => b = bb) := by
                  obtain ⟨m, r, y1, y2, y3, y4⟩ := q1.now h1.inv
                  refine q1.exact h1.inv q2 y1 y2 ?_
                  unfold AS.read at hb2
                  rw [if_pos (check_of q3 ok_old), y1] at hb2
                  simp only [y2] at hb2
                  exact congrArg Prod.fst hb2
                have hbl : bb.length ≤ 100000 := by rcases hb1 with rfl | rfl <;> assumption
                have HM5 := Lib.hid (HM4.out.turn (h1.refit (M := 1000) (by rw [q5]; omega) (by rw [q2]; simp) (by omega)) b1)
                have HQ1 := Lib.hid hq1
                have HQ2 := Lib.hid q2
                have HQ3 := Lib.hid q3
                have HR := Lib.hid hb2
                clear h1 b1 q1 q2 q3 q4 hb2 hq1 HM4 hpp hgp
                go_wp2_with fail
                have z := m_read HM5.out.dsk lOld (by decide)
                rw [HR.out] at z
                refine z.mono ?_
                clear z
                rintro e wa ⟨rfl, fr⟩
                have HM6 := Lib.hid (HM5.out.keep fr)
                clear fr HM5
                by_cases e : bb = was
                · subst e
                  go_wp2
                  all_goals exact ⟨⟨k + 1, _, _, by omega, by omega, by go_num, rfl, HM6.out, HQ3.out, HQ2.out, HQ1.out, hbl, by rw [q5]; omega⟩, by simp [intOf]; omega⟩
                · have hbt : bb = t := hb1.resolve_left e
                  have ne : (bb == was) = false := by simp [e]
                  subst hbt
                  go_wp2
                  all_goals exact ⟨⟨k + 1, _, _, by omega, by omega, by go_num, rfl, HM6.out, HQ3.out, HQ2.out, HQ1.out, hbl, by rw [q5]; omega⟩, by simp [intOf]; omega⟩
            · go_wp2_with fail
              obtain ⟨gp, hpp, hgp⟩ := picks_row HROW.out hrng
              have HM4 := Lib.hid (HM3.out.keep HFR.out)
              refine (m_crash HM4.out.dsk gp A' j c' zs hpp (fun hn => .inr (hgp hn))).mono ?_
              rintro e wz ⟨rfl, h1, b1⟩
              obtain ⟨q1, q2, q3, q4, q5⟩ := HS3.out.crash HM4.out.dsk.inv zs
              obtain ⟨bb, hb1, hb2⟩ := q1.read h1.inv q3
              have hq1 : Safe (S3.crashed zs) (fun b => b = bb) := by
                obtain ⟨m, r, y1, y2, y3, y4⟩ := q1.now h1.inv
                refine q1.exact h1.inv q2 y1 y2 ?_
                unfold AS.read at hb2
                rw [if_pos (check_of q3 ok_old), y1] at hb2
                simp only [y2] at hb2
                exact congrArg Prod.fst hb2
              have hbl : bb.length ≤ 100000 := by rcases hb1 with rfl | rfl <;> assumption
              have HM5 := Lib.hid (HM4.out.turn (h1.refit (M := 1000) (by rw [q5]; omega) (by rw [q2]; simp) (by omega)) b1)
              have HQ1 := Lib.hid hq1
              have HQ2 := Lib.hid q2
              have HQ3 := Lib.hid q3
              have HR := Lib.hid hb2
              clear h1 b1 q1 q2 q3 q4 hb2 hq1 HM4 hpp hgp
              go_wp2_with fail
              have z := m_read HM5.out.dsk lOld (by decide)
              rw [HR.out] at z
              refine z.mono ?_
              clear z
              rintro e wa ⟨rfl, fr⟩
              have HM6 := Lib.hid (HM5.out.keep fr)
              clear fr HM5
              by_cases e : bb = was
              · subst e
                go_wp2
                all_goals exact ⟨⟨k + 1, _, _, by omega, by omega, by go_num, rfl, HM6.out, HQ3.out, HQ2.out, HQ1.out, hbl, by rw [q5]; omega⟩, by simp [intOf]; omega⟩
              · have hbt : bb = t := hb1.resolve_left e
                have ne : (bb == was) = false := by simp [e]
                subst hbt
                go_wp2
                all_goals exact ⟨⟨k + 1, _, _, by omega, by omega, by go_num, rfl, HM6.out, HQ3.out, HQ2.out, HQ1.out, hbl, by rw [q5]; omega⟩, by simp [intOf]; omega⟩
      · go_wp2_with fail
        refine (m_crash HM0.out.dsk g2 A2 n2 c2 ps (HM0.out.picks HP.out) (fun hn => .inl (HP.out.lt hn))).mono ?_
        rintro e wx ⟨rfl, h1, b1⟩
        obtain ⟨q1, q2, q3, q4, q5⟩ := HSA.out.crash HM0.out.dsk.inv ps
        obtain ⟨bb, hb1, hb2⟩ := q1.read h1.inv q3
        rw [hb1] at hb2
        have HM1 := Lib.hid (HM0.out.turn h1 b1)
        have HR := Lib.hid hb2
        clear h1 b1 q1 q2 q3 q4 q5 hb2 hb1
        go_wp2_with fail
        have z := m_read HM1.out.dsk lOld (by decide)
        rw [HR.out] at z
        refine z.mono ?_
        clear z
        rintro e wy ⟨rfl, fr⟩
        have HM2 := Lib.hid (HM1.out.keep fr)
        clear fr
        go_wp2
        go_ret
        exact ⟨rfl, HM2.out.bel⟩
    · go_wp2_with fail
      refine (m_crash HM0.out.dsk g2 A2 n2 c2 ps (HM0.out.picks HP.out) (fun hn => .inl (HP.out.lt hn))).mono ?_
      rintro e wx ⟨rfl, h1, b1⟩
      obtain ⟨q1, q2, q3, q4, q5⟩ := HSA.out.crash HM0.out.dsk.inv ps
      obtain ⟨bb, hb1, hb2⟩ := q1.read h1.inv q3
      rw [hb1] at hb2
      have HM1 := Lib.hid (HM0.out.turn h1 b1)
      have HR := Lib.hid hb2
      clear h1 b1 q1 q2 q3 q4 q5 hb2 hb1
      go_wp2_with fail
      have z := m_read HM1.out.dsk lOld (by decide)
      rw [HR.out] at z
      refine z.mono ?_
      clear z
      rintro e wy ⟨rfl, fr⟩
      have HM2 := Lib.hid (HM1.out.keep fr)
      clear fr
      go_wp2
      go_ret
      exact ⟨rfl, HM2.out.bel⟩

end Go.Proofs.Ytlopbhamlhmpbaa
