/- spoilt: the error of a thing that may not be. -/
import Derived.Test.YtcncnponhhcjhaaK2
import Derived.Test.YtcncnponhhcjhaaJ2
namespace Go.Proofs.Ytcncnponhhcjhaa
open Go.RowKit Go.Maps Go.Sort
set_option linter.unusedVariables false

def spo : Nat → List CellP → Int
  | _, [] => 1
  | m, c :: cl => if m > 65536 then 23 else if c.may = true then spo (m + (bCell c).length) cl else 1
def spoilt (m : Nat) (t : ThingP) : Int := if t.kind = 6 then spo (m + 4) t.cells else 1
set_option maxRecDepth 100000 in
set_option maxHeartbeats 4000000 in
theorem spoilt_6 (n : Int) (s : List UInt8) (l : List (List UInt8)) (cl : List CellP) (fl : List FactP) (ml : List (List UInt8)) (A1 A2 A3 A4 : Option Addr) (n1 k1 n2 k2 n3 k3 n4 k4 m : Nat) (w : World) (ht : ThingAt (fun k => k < w.heap.size) w ⟨6, n, s, l, cl, fl, ml⟩ (.slice A1 n1 k1) (.slice A2 n2 k2) (.slice A3 n3 k3) (.slice A4 n4 k4)) (hcap : n2 ≤ k2) (hb : (bRow bCell cl).length ≤ 1152921504606846976) (hm : m ≤ 65536) :
    Calls Try.prog 21 #[.int .i64 (m : Int), .agg #[.int .i64 6, .int .i64 n, sv s, .slice A1 n1 k1, .slice A2 n2 k2, .slice A3 n3 k3, .slice A4 n4 k4]] w fun e w' => e = .returned (.int .i64 (spo (m + 4) cl)) ∧ Below w.heap.size w w' := by
  obtain ⟨wa, hwa⟩ : ∃ wa, w.alloc (.cells #[.int .i64 6, .int .i64 n, sv s, .slice A1 n1 k1, .slice A2 n2 k2, .slice A3 n3 k3, .slice A4 n4 k4] 58) = wa := ⟨_, rfl⟩
  obtain ⟨gb, hgb⟩ : ∃ gb, w.heap.size = gb := ⟨_, rfl⟩
  have hbx : Blk wa gb 58 #[.int .i64 6, .int .i64 n, sv s, .slice A1 n1 k1, .slice A2 n2 k2, .slice A3 n3 k3, .slice A4 n4 k4] := by rw [← hwa, ← hgb]; exact Blk.new w 58 _
  have hba : Below w.heap.size w wa := by rw [← hwa]; exact (Below.refl _ _).alloc (Nat.le_refl _) _
  have hta := (ht.of fun k hk => hba.block k hk).mono fun k hk => Nat.lt_of_lt_of_le hk hba.size
  obtain ⟨n0, hn0, hm0⟩ : ∃ n0, cl.length = n0 ∧ n0 ≤ 9223372036854775807 := ⟨_, rfl, by have := hta.c.len_; obtain ⟨_, _, _, h⟩ := this; unfold maxLen at h; exact h⟩
  obtain rfl : n2 = n0 := by
    obtain ⟨A', c', e, _⟩ := hta.c.len_
    injection e with e1 e2 e3
    rw [e2]; exact hn0
  have HX := Lib.hid hbx
  have HBA := Lib.hid hba
  have HT := Lib.hid hta
  have HWA := Lib.hid hwa
  have HGB := Lib.hid hgb
  have HN := Lib.hid hn0
  have HFL := Lib.hid (row_bound bCell cl)
  have HBD := Lib.hid hb
  obtain ⟨R, hR⟩ : ∃ R, spo (m + 4) cl = R := ⟨_, rfl⟩
  have HR := Lib.hid hR
  rw [hR]
  clear hwa hgb hbx hba hta ht hb hn0 hR
  go_enter Try.func21, Try.ntmps21
  go_upto_region 5 with fail
  rw [HWA.out, HGB.out]
  go_loopw [0, 5] (fun x i wr => ∃ j q : Nat, j ≤ n2 ∧ i = .int .i64 j ∧ x = .int .i64 q ∧ q = m + 4 + ((cl.take j).flatMap bCell).length ∧ R = spo q (cl.drop j) ∧ Below wa.heap.size wa wr) (fun _ i _ => n2 - (intOf i).toNat)
  case atStart => exact ⟨0, m + 4, by omega, rfl, by simp, by simp, by rw [HR.out.symm]; simp, Below.refl _ _⟩
  case round =>
    obtain ⟨j, q, hj, rfl, rfl, hq, hR, hbw⟩ := hrel
    have HQ := Lib.hid hq
    have HRR := Lib.hid hR
    have HBW := Lib.hid hbw
    have hblk := HX.out.of (hbw.block gb HX.out.lt)
    have d4 : wr.cell? ⟨gb, 4, none⟩ = some (.slice A2 n2 k2) := hblk.cell 4
    clear hq hR hbw hblk
    by_cases hlt : j < n2
    · have hjl : j < cl.length := by rw [HN.out]; exact hlt
      obtain ⟨g, off, cs, rfl, hg, ⟨rfl, hok⟩, _, hc⟩ := RowE.at_ HN.out HT.out.c j hjl
      have hstep : R = if q > 65536 then 23 else if cl[j].may = true then spo (q + (bCell cl[j]).length) (cl.drop (j + 1)) else 1 := by
        rw [HRR.out, List.drop_eq_getElem_cons hjl]; rfl
      have hi0 : (0 : Int) ≤ (j : Int) := by omega
      have hi1 : (j : Int) < (n2 : Int) := by omega
      by_cases hbig : q > 65536
      · rw [if_pos hbig] at hstep
        have HS := Lib.hid hstep
        have hqb : q ≤ 1152921504606912516 := by
          have h1 := flat_pre bCell cl j
          have h3 := HFL.out
          have h4 := HBD.out
          have h5 := HQ.out
          omega
        clear hstep hc hok
        go_wp2
        go_ret
        exact ⟨congrArg (fun x => Ending.returned (.int .i64 x)) HS.out.symm, HBA.out.trans (HBW.out.mono HBA.out.size)⟩
      · rw [if_neg hbig] at hstep
        have hqs : q ≤ 65536 := by omega
        have hsl : ∀ w0, (Instr.slice 55 (.slice (some ⟨g, off, none⟩) n2 k2) (some (.int .i64 (j : Int))) (some (.int .i64 ((j : Int) + 1))) none).run Try.prog w0 = .ok (.slice (some ⟨g, off + j * 3, none⟩) 1 (k2 - j)) w0 := fun w0 => by
          obtain ⟨i0, hi, hz0, hz1, hz2⟩ := info_parts info93
          have hel : Try.prog.underlying 55 = some (.slice (Try.prog.elem 55)) := by kernel_rfl
          have hsz : (sizeOf (Try.prog.elem 55)).run Try.prog w0 = .ok 3 w0 := by
            have e : Try.prog.elem 55 = 93 := by kernel_rfl
            rw [e]
            simp [sizeOf, typeInfo, hi, hz1]
          have hr := run_slice_lh (P := Try.prog) w0 55 (some ⟨g, off, none⟩) n2 k2 hel .i64 .i64 (j : Int) ((j : Int) + 1) (by omega) (by omega) (by omega)
          rw [hsz] at hr
          have e1 : ((j : Int) + 1).toNat = j + 1 := by omega
          have e2 : ((j : Int)).toNat = j := by omega
          rw [e1, e2] at hr
          rw [hr]
          have hne : ¬ k2 = j := by omega
          simp [sliced, hne, Addr.add_lit]
        have h1 := flat_one bCell cl j hjl
        have h3 := HFL.out
        have h4 := HBD.out
        have hzl : (bCell cl[j]).length ≤ 1152921504606846976 := by omega
        obtain ⟨wz, hwz⟩ : ∃ wz, wr.alloc (.cells #[.int .i64 5, .int .i64 0, .string ⟨#[]⟩, .slice none 0 0, .slice (some ⟨g, off + j * 3, none⟩) 1 (k2 - j), .slice none 0 0, .slice none 0 0] 58) = wz := ⟨_, rfl⟩
        obtain ⟨gz, hgz⟩ : ∃ gz, wr.heap.size = gz := ⟨_, rfl⟩
        have kz : Blk wz gz 58 #[.int .i64 5, .int .i64 0, .string ⟨#[]⟩, .slice none 0 0, .slice (some ⟨g, off + j * 3, none⟩) 1 (k2 - j), .slice none 0 0, .slice none 0 0] := by rw [← hwz, ← hgz]; exact Blk.new wr 58 _
        have hbz : Below wa.heap.size wa wz := by rw [← hwz]; exact HBW.out.alloc HBW.out.size _
        have htz : ThingAt (fun k => k < wz.heap.size) wz ⟨5, 0, [], [], [cl[j]], [], []⟩ (.slice none 0 0) (.slice (some ⟨g, off + j * 3, none⟩) 1 (k2 - j)) (.slice none 0 0) (.slice none 0 0) :=
          ⟨i64_small 5 (by omega), i64_small 0 (by omega), by simp, RowE.nil _ _ _ _ _, ⟨some ⟨g, off + j * 3, none⟩, k2 - j, rfl, by unfold maxLen; simp, fun _ => ⟨g, off + j * 3, rfl, Nat.lt_of_lt_of_le hg hbz.size, fun i hi => by
            obtain rfl : i = 0 := by simpa using hi
            refine ⟨_, rfl, fun x hx => ?_, ⟨rfl, hok⟩⟩
            have := hc wz (hbz.block g hg) x hx
            simpa using this⟩⟩, RowE.nil _ _ _ _ _, RowE.nil _ _ _ _ _⟩
        have HD := dbytes_5 0 [] [] [cl[j]] [] [] none (some ⟨g, off + j * 3, none⟩) none none 0 0 1 (k2 - j) 0 0 0 0 wz htz hzl
        have x0 : wz.cell? ⟨gz, 0, none⟩ = some (.int .i64 5) := kz.cell 0
        have x1 : wz.cell? ⟨gz, 1, none⟩ = some (.int .i64 0) := kz.cell 1
        have x2 : wz.cell? ⟨gz, 2, none⟩ = some (.string ⟨#[]⟩) := kz.cell 2
        have x3 : wz.cell? ⟨gz, 3, none⟩ = some (.slice none 0 0) := kz.cell 3
        have x4 : wz.cell? ⟨gz, 4, none⟩ = some (.slice (some ⟨g, off + j * 3, none⟩) 1 (k2 - j)) := kz.cell 4
        have x5 : wz.cell? ⟨gz, 5, none⟩ = some (.slice none 0 0) := kz.cell 5
        have x6 : wz.cell? ⟨gz, 6, none⟩ = some (.slice none 0 0) := kz.cell 6
        have HWZ := Lib.hid hwz
        have HGZ := Lib.hid hgz
        have BZ := Lib.hid hbz
        unfold Told2 at HD
        rw [show one [cl[j]] = cl[j] from rfl] at HD
        have HQ2 : Hid (q + (bCell cl[j]).length = m + 4 + ((cl.take (j + 1)).flatMap bCell).length) := Lib.hid (by rw [flat_snoc bCell cl j hjl, List.length_append, HQ.out]; omega)
        clear hwz hgz hbz htz kz hc hok h1 h3 h4
        cases hm : cl[j].may with
        | false =>
          rw [hm] at HD hstep
          have HS : Hid (R = 1) := Lib.hid hstep
          have HD := Lib.hid HD
          clear hm hstep HQ2
          generalize ok2 false (bCell cl[j]) = Z at *
          go_upto_region 10 with fail
          rw [HWZ.out, HGZ.out]
          go_wp2_with fail
          refine HD.out.mono ?_
          rintro e w4 ⟨rfl, hb4⟩
          have B4 := Lib.hid (HBA.out.trans ((BZ.out.trans (hb4.mono BZ.out.size)).mono HBA.out.size))
          clear hb4 x0 x1 x2 x3 x4 x5 x6
          go_wp2
          go_ret
          exact ⟨congrArg (fun x => Ending.returned (.int .i64 x)) HS.out.symm, B4.out⟩
        | true =>
          rw [hm] at HD hstep
          have HS : Hid (R = spo (q + (bCell cl[j]).length) (cl.drop (j + 1))) := Lib.hid hstep
          simp only [ok2, if_true] at HD
          have HD := Lib.hid HD
          clear hm hstep
          generalize bCell cl[j] = Z at *
          go_upto_region 10 with fail
          rw [HWZ.out, HGZ.out]
          go_wp2_with fail
          refine HD.out.mono ?_
          rintro e w4 ⟨rfl, hb4⟩
          have B4 := Lib.hid (BZ.out.trans (hb4.mono BZ.out.size))
          clear hb4 x0 x1 x2 x3 x4 x5 x6
          go_wp2
          go_roundw
          case rel => exact ⟨j + 1, q + Z.length, by omega, by go_num, by go_num, HQ2.out, HS.out, B4.out⟩
          case measure => simp [intOf]; omega
    · obtain rfl : j = n2 := by omega
      have HS : Hid (R = 1) := Lib.hid (by rw [HRR.out, ← HN.out, List.drop_length]; rfl)
      go_wp2
      go_ret
      exact ⟨congrArg (fun x => Ending.returned (.int .i64 x)) HS.out.symm, HBA.out.trans (HBW.out.mono HBA.out.size)⟩
set_option maxRecDepth 100000 in
set_option maxHeartbeats 4000000 in
theorem spoilt_any (t : ThingP) (lv cv fv mv : Value) (m : Nat) (w : World) (ht : ThingAt (fun k => k < w.heap.size) w t lv cv fv mv) (hcap : ∀ A n c, cv = .slice A n c → n ≤ c) (hb : (bThing t).length ≤ 1152921504606846976) (hm : m ≤ 65536) :
    Calls Try.prog 21 #[.int .i64 (m : Int), .agg (tcells t lv cv fv mv).toArray] w fun e w' => e = .returned (.int .i64 (spoilt m t)) ∧ Below w.heap.size w w' := by
  obtain ⟨A1, n1, k1, rfl⟩ := ht.l.slice
  obtain ⟨A2, n2, k2, rfl⟩ := ht.c.slice
  obtain ⟨A3, n3, k3, rfl⟩ := ht.f.slice
  obtain ⟨A4, n4, k4, rfl⟩ := ht.m.slice
  have hc := hcap _ _ _ rfl
  obtain ⟨k, n, s, l, cl, fl, ml⟩ := t
  by_cases h6 : k = 6
  · subst h6
    exact spoilt_6 n s l cl fl ml A1 A2 A3 A4 n1 k1 n2 k2 n3 k3 n4 k4 m w ht hc hb hm
  · have e : spoilt m ⟨k, n, s, l, cl, fl, ml⟩ = 1 := by unfold spoilt; rw [if_neg h6]
    rw [e]
    have e6 : (k == 6) = false := by simpa using h6
    have e7 : (k != 6) = true := by simpa using h6
    have HB : Hid (Below w.heap.size w (w.alloc (.cells #[.int .i64 k, .int .i64 n, sv s, .slice A1 n1 k1, .slice A2 n2 k2, .slice A3 n3 k3, .slice A4 n4 k4] 58))) := Lib.hid ((Below.refl _ _).alloc (Nat.le_refl _) _)
    clear ht hb h6 e hcap hc
    rw [tcells_arr]
    go_enter Try.func21, Try.ntmps21
    go_wp2
    go_ret
    exact ⟨rfl, HB.out⟩
end Go.Proofs.Ytcncnponhhcjhaa
