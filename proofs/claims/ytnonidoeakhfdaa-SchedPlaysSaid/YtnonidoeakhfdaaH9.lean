/- The law SchedPlays, walked. -/
import Derived.Test.YtnonidoeakhfdaaH8
import Derived.Test.YtnonidoeakhfdaaE6
namespace Go.Proofs.Ytnonidoeakhfdaa
open Go.RowKit Go.Maps Go.Sort
set_option linter.unusedVariables false

set_option maxRecDepth 100000 in
set_option maxHeartbeats 8000000 in
theorem schedplays_any (w : World) (v : Value) (n : Nat) (hA : OpsAt w v n) :
    Calls Try.prog 3 #[v] w fun e w' => e = .returned (.bool true) ∧ Below w.heap.size w w' := by
  have HA := Lib.hid hA
  have hcap : (n : Int) ≤ 9223372036854775807 := by have := hA.cap; unfold maxLen at this; omega
  have hlenA := hA.len
  clear hA
  go_enter Try.func3, Try.ntmps3
  go_wp2_with fail
  refine (awake_any _).mono ?_
  rintro e w1 ⟨rfl, b⟩
  have F0 := Lib.hid (frO_bel b)
  have hw1 := b.size
  clear b
  go_wp2_with fail
  refine (m_new (Old w.heap.size) fun k hk => Nat.lt_of_lt_of_le hk hw1).mono ?_
  rintro e w2 ⟨d, rfl, h0, f0⟩
  have hF : Fr (Out (Old w.heap.size)) w w2 := frO F0.out f0.any
  have HF := Lib.hid hF
  have HN := Lib.hid (plays_start h0)
  clear h0 f0 F0 hw1 hF
  go_wp2_with fail
  obtain ⟨w4, hw4⟩ : ∃ w4, w2.alloc (.cells #[.int .i64 0, .slice none 0 0, .slice none 0 0, .slice none 0 0, .slice none 0 0] 31) = w4 := ⟨_, rfl⟩
  have HF4 := Lib.hid (show Fr (Out (Old w.heap.size)) w w4 by rw [← hw4]; exact HF.out.alloc _)
  obtain ⟨r, hr⟩ : ∃ r, w2.heap.size = r := ⟨_, rfl⟩
  rw [hw4, hr] at HN
  rw [hw4, hr]
  clear hw4 hr HF
  go_loopw [6] (fun iv wr => ∃ (i : Nat) (S : SS), i ≤ n ∧ i ≤ 300 ∧ iv = .int .i64 i ∧ S.used ≤ i ∧ NN wr (Old w.heap.size) d r S S ∧ Fr (Out (Old w.heap.size)) w wr) (fun iv _ => 300 - (intOf iv).toNat)
  case atStart => exact ⟨0, SS.zero, Nat.zero_le _, Nat.zero_le _, rfl, Nat.le_refl _, HN.out, HF4.out⟩
  case round =>
    obtain ⟨i, S, hi, hi3, rfl, hu, hN, hF⟩ := hrel
    have HN1 := Lib.hid hN
    have HF1 := Lib.hid hF
    have HU := Lib.hid hu
    clear hN hF hu HN HF4
    go_upto_region 7 with fail
    go_cut [24] (fun bv wx => wr = wx ∧ bv = .bool (decide (i < n ∧ i < 300)))
    case first =>
      by_cases h1 : i < n
      · go_wp2_with fail
        go_meet
        exact ⟨rfl, by congr 1; simp [h1] <;> omega⟩
      · go_wp2_with fail
        go_meet
        exact ⟨rfl, by congr 1; simp [h1] <;> omega⟩
    case rest =>
    obtain ⟨rfl, rfl⟩ := hcut
    by_cases hlt : i < n ∧ i < 300
    · have hd : decide (i < n ∧ i < 300) = true := by simpa using hlt
      obtain ⟨hlt1, hlt2⟩ := hlt
      rw [hd]
      clear hd
      obtain ⟨g, o, op, hg, hix, c0, c1, c2, hok⟩ := HA.out.at_ i hlt1
      have d0 := HF1.out.old_cell hg c0
      have d1 := HF1.out.old_cell hg c1
      have d2 := HF1.out.old_cell hg c2
      have C1 := Lib.hid c1
      have C2 := Lib.hid c2
      have HOk := Lib.hid hok
      have HD := Lib.hid (does_any wr (Old w.heap.size) d r S op HN1.out (by have := HU.out; omega) hok)
      clear c0 c1 c2 hok
      go_wp2_with fail
      refine (show Calls Try.prog 11 _ _ _ from HD.out).mono ?_
      rintro e w3 ⟨rfl, S', h1, hu1, f1⟩
      have HN3 := Lib.hid h1
      have HF3 := Lib.hid (frO HF1.out f1)
      have HU1 := Lib.hid (show S'.used ≤ i + 1 by have := HU.out; omega)
      clear h1 hu1 f1 HD HN1 HF1 HU d0 d1 d2
      go_wp2_with fail
      refine HN3.out.lready.mono ?_
      rintro e w4 ⟨ga, ca, rfl, hoa, fa⟩
      have HOA := Lib.hid hoa
      have FA4 := Lib.hid fa
      clear hoa fa
      go_wp2_with fail
      refine (HN3.out.keep FA4.out).rready.mono ?_
      rintro e w5 ⟨vb, rfl, hob, fb⟩
      have HP := Lib.hid (PL.start HN3.out HF3.out HOA.out FA4.out hob fb)
      have hlb := fun ty W => own_len hob ty W
      clear hob fb HOA FA4 HN3 HF3
      have hmx : (S'.ready.length : Int) ≤ 64 := by
        have h1 := those_len S' rdy
        have h2 := HP.out.pair.wfl.n64
        unfold SS.ready
        omega
      go_upto_region 12 with fail
      go_cut [87] (fun bv wx => bv = .bool false ∧ Fr No w5 wx)
      case first =>
        have e1 : ∀ dd os, (grow (redrawn w5 dd) os).cell? ⟨g, o + 1, none⟩ = some (.int .i64 op.task) := fun dd os => cell_regrown (HP.out.fr.old_cell hg C1.out) dd os
        have e2 : ∀ dd os, (grow (redrawn w5 dd) os).cell? ⟨g, o + 2, none⟩ = some (.int .i64 op.num) := fun dd os => cell_regrown (HP.out.fr.old_cell hg C2.out) dd os
        have K1 := Lib.hid (fun dd os => Calls.regrown_of (HP.out.pair.regrown dd os).lstuck)
        have K2 := Lib.hid (fun dd os => Calls.regrown_of (HP.out.pair.regrown dd os).rstuck)
        have K3 := Lib.hid (fun dd os => Calls.regrown_of ((HP.out.pair.regrown dd os).lholder op.num (wf64 HOk.out.num.1 HOk.out.num.2)))
        have K4 := Lib.hid (fun dd os => Calls.regrown_of ((HP.out.pair.regrown dd os).rholder op.num))
        have K5 := Lib.hid (fun dd os => Calls.regrown_of ((HP.out.pair.regrown dd os).lpicks op.task (wf64 HOk.out.task.1 HOk.out.task.2)))
        have K6 := Lib.hid (fun dd os => Calls.regrown_of ((HP.out.pair.regrown dd os).rpicks op.task))
        refine wp_region_quiet_below mixed (by kernel_rfl) ?_
        repeat (first | go_big_quiet_step (first | exact K1.out _ _ | exact K2.out _ _ | exact K3.out _ _ | exact K4.out _ _ | exact K5.out _ _ | exact K6.out _ _) | quiet_step (first | exact K1.out _ _ | exact K2.out _ _ | exact K3.out _ _ | exact K4.out _ _ | exact K5.out _ _ | exact K6.out _ _))
        refine wpQuiet_nil ?_
        intro wx hp
        have hb : Fr No w5 wx := by obtain ⟨p, rfl⟩ := hp; exact Fr.of_below (below_regrown _ _ _)
        go_wp2_with fail
        go_meet
        exact ⟨rfl, hb⟩
      case rest =>
      obtain ⟨rfl, hfr⟩ := hcut
      have HP := Lib.hid (HP.out.keep hfr)
      clear hfr
      go_wp2
      go_loopw [10] (fun jv wr => ∃ j : Nat, j ≤ S'.ready.length ∧ jv = .int .i64 j ∧ PL w d r S' (.slice (some ⟨ga, 0, none⟩) S'.ready.length ca) vb j wr) (fun jv _ => S'.ready.length - (intOf jv).toNat)
      case atStart => exact ⟨0, Nat.zero_le _, rfl, HP.out⟩
      case round =>
        obtain ⟨j, hj, rfl, hP⟩ := hrel
        have HP2 := Lib.hid hP
        clear hP HP
        by_cases hjl : j < S'.ready.length
        · have hPd := HP2.out.keep ((Fr.refl No wr).drew)
          obtain ⟨g1, g2, x, hix1, z1, zf, hix2, z2, hP3⟩ := hPd.at_ hjl
          have HP3 := Lib.hid hP3
          have y1 : wr.cell? ⟨g1, j, none⟩ = some (.int .i64 x) := z1
          have y2 : wr.cell? ⟨g2, j, none⟩ = some (.int .i64 x) := z2
          have yf : wr.frozen? ⟨g1, j, none⟩ = false := zf
          clear z1 z2 zf hPd hP3
          go_upto_region 17 with fail
          go_region
          all_goals (go_simp; go_wp2_with fail)
          all_goals go_roundw
          all_goals first
            | exact ⟨j + 1, by omega, by go_num, HP3.out⟩
            | (simp [intOf]; omega)
        · go_wp2
          go_roundw
          case rel => exact ⟨i + 1, S', by omega, by omega, by go_num, HU1.out, HP2.out.pair, HP2.out.fr⟩
          case measure => simp [intOf]; omega
    · have hd : decide (i < n ∧ i < 300) = false := by simpa using hlt
      rw [hd]
      clear hd
      go_wp2
      go_ret
      exact ⟨rfl, bel_of HF1.out (Nat.le_refl _)⟩

end Go.Proofs.Ytnonidoeakhfdaa
