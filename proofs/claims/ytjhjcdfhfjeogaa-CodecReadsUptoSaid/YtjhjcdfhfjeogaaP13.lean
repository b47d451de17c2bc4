/- CodecReads, walked. -/
import Derived.Test.YtjhjcdfhfjeogaaP12
import Derived.Test.YtjhjcdfhfjeogaaE1
import Derived.Deep.RegionHeld3
namespace Go.Proofs.Ytjhjcdfhfjeogaa
open Go.RowKit Go.Maps
set_option linter.unusedVariables false

theorem tcells_arr_ (k n : Int) (s : List UInt8) (l : List (List UInt8)) (cl : List CellP) (fl : List FactP) (ml : List (List UInt8)) (lv cv fv mv : Value) : (tcells ⟨k, n, s, l, cl, fl, ml⟩ lv cv fv mv).toArray = #[.int .i64 k, .int .i64 n, sv s, lv, cv, fv, mv] := rfl
theorem fail_zero (S : RS) : S.fail 0 = S := by unfold RS.fail; rw [if_neg (by simp)]
set_option maxRecDepth 100000 in
set_option maxHeartbeats 8000000 in
theorem codecreads_any (D : List UInt8) (A : Option Addr) (n c : Nat) (ts : List ThingP) (fail : Int) (w : World) (hD : D.length ≤ 1073741824) (hn : ts.length = n) (hm : n ≤ maxLen) (h : RowE (fun k => k < w.heap.size) w 7 (thingE (fun k => k < w.heap.size) w) (.slice A n c) ts) :
    Calls Try.prog 8 #[sv D, .slice A n c, .int .i64 fail] w fun e w' => e = .returned (.bool true) ∧ Below w.heap.size w w' := by
  unfold maxLen at hm
  have HN := Lib.hid hn
  have HT := Lib.hid h
  have HD := Lib.hid hD
  clear hn h hD
  go_enter Try.func8, Try.ntmps8
  go_wp2_with fail
  refine (awake_any w).mono ?_
  rintro e w1 ⟨rfl, hb1⟩
  obtain ⟨w2, hw2⟩ : ∃ w2, w1.alloc (.cells #[sv D, .int .i64 0] 78) = w2 := ⟨_, rfl⟩
  obtain ⟨r, hr⟩ : ∃ r, w1.heap.size = r := ⟨_, rfl⟩
  obtain ⟨w3, hw3⟩ : ∃ w3, w2.alloc (.cells #[sv D, .int .i64 0] 73) = w3 := ⟨_, rfl⟩
  obtain ⟨q, hq⟩ : ∃ q, w2.heap.size = q := ⟨_, rfl⟩
  have hra : RAt w2 (some r) ⟨D, 0⟩ := by rw [← hw2, ← hr]; exact RAt.new w1 D HD.out
  have f23 : Fr No w2 w3 := by rw [← hw3]; exact (Fr.refl _ w2).alloc _
  have hda : DAt w3 q ⟨D, 0⟩ := by rw [← hw3, ← hq]; exact DAt.new w2 D HD.out
  have hb2 : Below w.heap.size w w2 := by rw [← hw2]; exact hb1.alloc hb1.size _
  have hrq : r < w2.heap.size := hra.lt r rfl
  have htwo : Two w r q w3.heap.size ⟨D, 0⟩ ⟨D, 0⟩ w3 := ⟨hra.keep f23, hda, hb2.trans (f23.below.mono hb2.size), Nat.le_refl _, by rw [← hr]; exact hb1.size, by have := f23.size; omega, by rw [← hq]; exact hb2.size, hda.lt, by omega⟩
  have H3 := Lib.hid htwo
  have HW2 := Lib.hid hw2
  have HW3 := Lib.hid hw3
  have HR := Lib.hid hr
  have HQ := Lib.hid hq
  obtain ⟨N, hN⟩ : ∃ N, w3.heap.size = N := ⟨_, rfl⟩
  rw [hN] at H3
  clear hb1 hra f23 hda hb2 hrq htwo hw2 hw3 hr hq hN
  go_wp2_with fail
  refine (read_any D w1).mono ?_
  rintro e w' ⟨rfl, hw'⟩
  rw [HW2.out] at hw'
  subst hw'
  rw [HR.out]
  go_wp2
  rw [HW3.out, HQ.out]
  go_loopw [10] (fun i wr => ∃ j : Nat, ∃ S, j ≤ n ∧ i = .int .i64 j ∧ Two w r q N S S wr) (fun i _ => n - (intOf i).toNat)
  case atStart => exact ⟨0, _, by omega, rfl, H3.out⟩
  case round =>
    obtain ⟨j, S, hj, rfl, htw⟩ := hrel
    have HT0 := Lib.hid htw
    clear htw
    by_cases hlt : j < n
    · go_upto_if 28 with fail
      go_cut [10] (fun iv wx => ∃ S', iv = .int .i64 j ∧ Two w r q N S' S' wx)
      case first =>
        by_cases hf : (j : Int) = fail
        · have hfb : ((j : Int) == fail) = true := by simpa using hf
          clear hf
          have C1 := Lib.hid (rfail_any (some r) S 26 wr HT0.out.ra)
          rw [wpt_some] at C1
          go_wp2_with fail
          refine C1.out.mono ?_
          rintro e w4 ⟨rfl, h4, f4⟩
          have T4 := Lib.hid (HT0.out.land h4 f4)
          clear h4 f4 C1
          have C2 := Lib.hid (dfail_any q S 26 w4 T4.out.da)
          unfold dpt at C2
          go_wp2_with fail
          refine C2.out.mono ?_
          rintro e w5 ⟨rfl, h5, f5⟩
          have T5 := Lib.hid (T4.out.docs h5 f5)
          clear h5 f5 C2
          go_wp2
          go_meet
          exact ⟨_, rfl, T5.out⟩
        · have hfb : ((j : Int) == fail) = false := by simpa using hf
          clear hf
          go_wp2
          go_meet
          exact ⟨_, rfl, HT0.out⟩
      case rest =>
      obtain ⟨S', rfl, htw⟩ := hcut
      have HT1 := Lib.hid htw
      clear htw HT0
      have hjl : j < ts.length := by rw [HN.out]; exact hlt
      obtain ⟨gt, off, lv, cv, fv, mv, rfl, hg, hall⟩ := thing_row HN.out HT.out j hjl
      have ht := (hall w fun _ _ => rfl).1
      obtain ⟨A1, n1, k1, rfl⟩ := ht.l.slice
      obtain ⟨A2, n2, k2, rfl⟩ := ht.c.slice
      obtain ⟨A3, n3, k3, rfl⟩ := ht.f.slice
      obtain ⟨A4, n4, k4, rfl⟩ := ht.m.slice
      clear ht hg
      obtain ⟨t0, ht0⟩ : ∃ t0, ts[j] = t0 := ⟨_, rfl⟩
      rw [ht0] at hall
      clear ht0
      obtain ⟨tk, tn, tx, tl, tc, tf, tm⟩ := t0
      have HALL : Hid (∀ W S T, Two w r q N S T W → ThingAt (fun k => k < w.heap.size) W ⟨tk, tn, tx, tl, tc, tf, tm⟩ (.slice A1 n1 k1) (.slice A2 n2 k2) (.slice A3 n3 k3) (.slice A4 n4 k4) ∧
          W.cell? ⟨gt, off + j * 7, none⟩ = some (.int .i64 tk) ∧ W.cell? ⟨gt, off + j * 7 + 1, none⟩ = some (.int .i64 tn) ∧ W.cell? ⟨gt, off + j * 7 + 2, none⟩ = some (sv tx) ∧
          W.cell? ⟨gt, off + j * 7 + 3, none⟩ = some (.slice A1 n1 k1) ∧ W.cell? ⟨gt, off + j * 7 + 4, none⟩ = some (.slice A2 n2 k2) ∧ W.cell? ⟨gt, off + j * 7 + 5, none⟩ = some (.slice A3 n3 k3) ∧ W.cell? ⟨gt, off + j * 7 + 6, none⟩ = some (.slice A4 n4 k4)) :=
        Lib.hid fun W S T h => hall W fun k hk => h.bel.block k hk
      obtain ⟨t1, Sx, hx⟩ : ∃ a b, S'.thing ⟨tk, tn, tx, tl, tc, tf, tm⟩ = (a, b) := ⟨_, _, rfl⟩
      have hfb := thing_facts S' ⟨tk, tn, tx, tl, tc, tf, tm⟩ HT1.out.da.len
      rw [hx] at hfb
      have HL : Hid (∀ W T, Two w r q N S' T W → Calls Try.prog 25 #[.pointer (some ⟨r, 0, none⟩), .agg #[.int .i64 tk, .int .i64 tn, sv tx, .slice A1 n1 k1, .slice A2 n2 k2, .slice A3 n3 k3, .slice A4 n4 k4]] W (TookL w r q N T Sx t1 W)) :=
        Lib.hid fun W T h => by
          have hc := took_land h ⟨tk, tn, tx, tl, tc, tf, tm⟩ _ _ _ _ (HALL.out W S' T h).1
          rw [tcells_arr_, wpt_some, hx] at hc
          exact hc
      have HDc : Hid (∀ W S, Two w r q N S S' W → Calls Try.prog 31 #[.pointer (some ⟨q, 0, none⟩), .agg #[.int .i64 tk, .int .i64 tn, sv tx, .slice A1 n1 k1, .slice A2 n2 k2, .slice A3 n3 k3, .slice A4 n4 k4]] W (TookD w r q N S Sx t1 W)) :=
        Lib.hid fun W S h => by
          have hc := took_docs h ⟨tk, tn, tx, tl, tc, tf, tm⟩ _ _ _ _ (HALL.out W S S' h).1
          rw [tcells_arr_, hx] at hc
          exact hc
      obtain ⟨yk, yn, yx, yl, yc, yf, ym⟩ := t1
      have HS : Hid (∀ W B1 m1 d1 B2 m2 d2 B3 m3 d3 B4 m4 d4 C1 i1 e1 C2 i2 e2 C3 i3 e3 C4 i4 e4, Two w r q N Sx Sx W → NewT N W ⟨yk, yn, yx, yl, yc, yf, ym⟩ (.slice B1 m1 d1) (.slice B2 m2 d2) (.slice B3 m3 d3) (.slice B4 m4 d4) → NewT N W ⟨yk, yn, yx, yl, yc, yf, ym⟩ (.slice C1 i1 e1) (.slice C2 i2 e2) (.slice C3 i3 e3) (.slice C4 i4 e4) →
          Calls Try.prog 26 #[.agg #[.int .i64 yk, .int .i64 yn, sv yx, .slice B1 m1 d1, .slice B2 m2 d2, .slice B3 m3 d3, .slice B4 m4 d4], .agg #[.int .i64 yk, .int .i64 yn, sv yx, .slice C1 i1 e1, .slice C2 i2 e2, .slice C3 i3 e3, .slice C4 i4 e4]] W fun e W' => e = .returned (.bool true) ∧ Two w r q N Sx Sx W') :=
        Lib.hid fun W B1 m1 d1 B2 m2 d2 B3 m3 d3 B4 m4 d4 C1 i1 e1 C2 i2 e2 C3 i3 e3 C4 i4 e4 h h1 h2 => by
          have hc := same_two h ⟨yk, yn, yx, yl, yc, yf, ym⟩ _ _ _ _ _ _ _ _ h1 h2 hfb
          rw [tcells_arr_, tcells_arr_] at hc
          exact hc
      have HT2 := Lib.hid (HT1.out.keep ((Fr.refl No _).drew))
      obtain ⟨_, c0, c1, c2, c3, c4, c5, c6⟩ := HALL.out _ _ _ HT1.out
      have hlt' : (j : Int) < (n : Int) := by omega
      clear hall hx hfb hjl
      go_upto_region 12 with fail
      go_cut [10, 11] (fun iv sv wx => iv = .int .i64 j ∧ sv = .bool true ∧ Two w r q N Sx Sx wx)
      case first =>
        go_region_held3 (fun w' => w'.cell? ⟨gt, off + j * 7, none⟩ = some (.int .i64 tk) ∧ w'.cell? ⟨gt, off + j * 7 + 1, none⟩ = some (.int .i64 tn) ∧ w'.cell? ⟨gt, off + j * 7 + 2, none⟩ = some (sv tx) ∧
          w'.cell? ⟨gt, off + j * 7 + 3, none⟩ = some (.slice A1 n1 k1) ∧ w'.cell? ⟨gt, off + j * 7 + 4, none⟩ = some (.slice A2 n2 k2) ∧ w'.cell? ⟨gt, off + j * 7 + 5, none⟩ = some (.slice A3 n3 k3) ∧ w'.cell? ⟨gt, off + j * 7 + 6, none⟩ = some (.slice A4 n4 k4))
          (first | exact (HALL.out _ _ _ HTS.out).2 | exact (HALL.out _ _ _ HTD.out).2 | exact (HALL.out _ _ _ HTL.out).2 | exact (HALL.out _ _ _ HT2.out).2 | go_keep)
          (first
          | (go_at_call 25; refine (HL.out _ _ (by first | exact HTD.out | exact HT2.out)).mono ?_; rintro e W1 ⟨B1, m1, d1, B2, m2, d2, B3, m3, d3, B4, m4, d4, rfl, htw, hnew, hkeep⟩; have HTL := Lib.hid htw; have HNL := Lib.hid hnew; (try (have HND2 := Lib.hid (hkeep _ _ _ _ _ HND.out))); clear htw hnew hkeep)
          | (go_at_call 31; refine (HDc.out _ _ (by first | exact HTL.out | exact HT2.out)).mono ?_; rintro e W2 ⟨C1, i1, e1, C2, i2, e2, C3, i3, e3, C4, i4, e4, rfl, htw, hnew, hkeep⟩; have HTD := Lib.hid htw; have HND := Lib.hid hnew; (try (have HNL2 := Lib.hid (hkeep _ _ _ _ _ HNL.out))); clear htw hnew hkeep)
          | (go_at_call 26; (first | refine (HS.out _ _ _ _ _ _ _ _ _ _ _ _ _ _ _ _ _ _ _ _ _ _ _ _ _ HTD.out HNL2.out HND.out).mono ?_ | refine (HS.out _ _ _ _ _ _ _ _ _ _ _ _ _ _ _ _ _ _ _ _ _ _ _ _ _ HTL.out HNL.out HND2.out).mono ?_); rintro e W3 ⟨rfl, htw⟩; have HTS := Lib.hid htw; clear htw))
        all_goals (go_simp; go_wp2_with fail)
        all_goals go_meet
        all_goals exact ⟨rfl, rfl, HTS.out⟩
      case rest =>
      obtain ⟨rfl, rfl, htw⟩ := hcut
      have HT3 := Lib.hid htw
      clear htw HT1 HT2 HALL HL HDc HS c0 c1 c2 c3 c4 c5 c6 hlt'
      have HLf := fun n => Lib.hid (Calls.quiet_of_same (P := Try.prog) ((rleft_any (some r) Sx _ (HT3.out.keep ((Fr.refl No _).drewN n)).ra).mono fun e w'' ⟨h1, h2⟩ => ⟨h1, h2.symm⟩))
      rw [wpt_some] at HLf
      have e0 := HT3.out.da.blk.cell 0
      have e0' : _ = some (sv Sx.rest) := e0
      clear e0
      go_upto_region 13 with fail
      go_quiet ((go_at_call 27; exact (HLf _).out))
      all_goals go_wp2
      all_goals go_roundw
      all_goals first
        | (case rel => exact ⟨j + 1, Sx, by omega, by go_num, HT3.out.keep ((Fr.refl No _).drewN _)⟩)
        | skip
      all_goals first
        | (case measure => simp [intOf]; omega)
        | skip
    · obtain rfl : j = n := by omega
      have C1 := Lib.hid (rfail_any (some r) S 0 wr HT0.out.ra)
      rw [wpt_some, fail_zero] at C1
      go_wp2_with fail
      refine C1.out.mono ?_
      rintro e w4 ⟨rfl, h4, f4⟩
      have T4 := Lib.hid (HT0.out.land h4 f4)
      clear h4 f4 C1
      have C2 := Lib.hid (rdone_any (some r) S w4 T4.out.ra)
      rw [wpt_some] at C2
      have C3 := Lib.hid (ddone_any q S w4 T4.out.da)
      unfold dpt at C3
      obtain ⟨dn, hdn⟩ : ∃ dn, S.done = dn := ⟨_, rfl⟩
      rw [hdn] at C2 C3
      clear hdn
      go_wp2_with (first | (go_at_call 28; refine C2.out.mono ?_; rintro e w' ⟨rfl, rfl⟩) | (go_at_call 32; refine C3.out.mono ?_; rintro e w' ⟨rfl, rfl⟩))
      go_ret
      exact ⟨rfl, T4.out.bel⟩
end Go.Proofs.Ytjhjcdfhfjeogaa
