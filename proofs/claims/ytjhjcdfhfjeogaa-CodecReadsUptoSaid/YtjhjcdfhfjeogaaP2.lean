/- The document's reader: Byte, Int, Count, many, Text. -/
import Derived.Test.YtjhjcdfhfjeogaaP1
namespace Go.Proofs.Ytjhjcdfhfjeogaa
open Go.RowKit Go.Maps
set_option linter.unusedVariables false

theorem of_l (l : List UInt8) (hl : l.length ≤ 8) (w : World) : Calls Try.prog 42 #[sv l] w fun e w' => e = .returned (.int .u64 (num l : Nat)) ∧ w = w' := of_any ⟨l.toArray⟩ w (by rw [sz]; exact hl)
set_option maxHeartbeats 400000 in
theorem dbyte_any (g : Nat) (S : RS) (w : World) (h : DAt w g S) : Calls Try.prog 68 #[dpt g] w (DP g w (.int .u8 (S.byte.1 : Nat)) S.byte.2) := by
  have HT : Hid (Calls Try.prog 96 #[dpt g, .int .i64 1] w (DP g w (sv (S.take 1).1) (S.take 1).2)) := Lib.hid (dtake_any g S 1 w h)
  have hl := take_len S 1
  have hn : num (S.take 1).1 < 256 := num_le _ 1 hl
  have HN : Hid (∀ w, Calls Try.prog 42 #[sv (S.take 1).1] w fun e w' => e = .returned (.int .u64 (num (S.take 1).1 : Nat)) ∧ w = w') := Lib.hid fun w => of_l _ (by omega) w
  have HV : Hid (S.byte = (num (S.take 1).1, (S.take 1).2)) := Lib.hid rfl
  clear h hl
  generalize (S.take 1).1 = B at *
  generalize (S.take 1).2 = S1 at *
  generalize num B = n at *
  generalize dpt g = P at *
  go_enter Try.func68, Try.ntmps68
  go_wp2_with fail
  refine HT.out.mono ?_
  rintro e w1 ⟨rfl, h1, f1⟩
  have H1 := Lib.hid h1
  have F1 := Lib.hid f1
  clear h1 f1
  go_wp2_with (go_at_call 42; refine (HN.out _).mono ?_; rintro e w' ⟨rfl, rfl⟩)
  go_ret
  exact ⟨by rw [HV.out]; rfl, by rw [HV.out]; exact H1.out, F1.out⟩
set_option maxHeartbeats 400000 in
theorem dint_any (g : Nat) (S : RS) (w : World) (h : DAt w g S) : Calls Try.prog 69 #[dpt g] w (DP g w (.int .i64 S.int.1) S.int.2) := by
  have HT : Hid (Calls Try.prog 96 #[dpt g, .int .i64 8] w (DP g w (sv (S.take 8).1) (S.take 8).2)) := Lib.hid (dtake_any g S 8 w h)
  have hl := take_len S 8
  have HN : Hid (∀ w, Calls Try.prog 42 #[sv (S.take 8).1] w fun e w' => e = .returned (.int .u64 (num (S.take 8).1 : Nat)) ∧ w = w') := Lib.hid fun w => of_l _ (by omega) w
  have HV : Hid (S.int = (IntKind.i64.wrap (num (S.take 8).1 : Nat), (S.take 8).2)) := Lib.hid rfl
  clear h hl
  generalize (S.take 8).1 = B at *
  generalize (S.take 8).2 = S1 at *
  generalize num B = n at *
  obtain ⟨m, hm⟩ : ∃ m, IntKind.i64.wrap (n : Int) = m := ⟨_, rfl⟩
  rw [hm] at HV
  generalize dpt g = P at *
  go_enter Try.func69, Try.ntmps69
  go_wp2_with fail
  refine HT.out.mono ?_
  rintro e w1 ⟨rfl, h1, f1⟩
  have H1 := Lib.hid h1
  have F1 := Lib.hid f1
  clear h1 f1
  go_wp2_with (go_at_call 42; refine (HN.out _).mono ?_; rintro e w' ⟨rfl, rfl⟩)
  go_ret
  exact ⟨by rw [HV.out]; rfl, by rw [HV.out]; exact H1.out, F1.out⟩
theorem Fr.thenD {g : Nat} {a b c : World} (h : Fr (DFt g) a b) (k : Fr (DFt g) b c) : Fr (DFt g) a c := h.then k
/-- A count that is told: what is too great fails, what is stopped tells 0. -/
theorem take_num_stop (S : RS) (n : Nat) (h : (S.take n).2.fault ≠ 0) : num (S.take n).1 = 0 := by
  unfold RS.take at h ⊢
  split at h
  · split at h
    · rename_i h0 h1; simp only [h0, if_true, h1]; rfl
    · exact absurd rfl h
  · rename_i h0; simp only [h0, if_false]; rfl
set_option maxHeartbeats 1000000 in
theorem dcnt_any (g : Nat) (S : RS) (most : Int) (w : World) (h : DAt w g S) : Calls Try.prog 70 #[dpt g, .int .i64 most] w (DP g w (.int .i64 ((S.count most).1 : Nat)) (S.count most).2) := by
  have HT : Hid (Calls Try.prog 96 #[dpt g, .int .i64 4] w (DP g w (sv (S.take 4).1) (S.take 4).2)) := Lib.hid (dtake_any g S 4 w h)
  have hl := take_len S 4
  have hn : num (S.take 4).1 < 4294967296 := num_le _ 4 hl
  have hz := take_num_stop S 4
  have HN : Hid (∀ w, Calls Try.prog 42 #[sv (S.take 4).1] w fun e w' => e = .returned (.int .u64 (num (S.take 4).1 : Nat)) ∧ w = w') := Lib.hid fun w => of_l _ (by omega) w
  have HV : Hid (S.count most = if ((num (S.take 4).1 : Nat) : Int) > most then (0, (S.take 4).2.fail 23) else (if (S.take 4).2.fault = 0 then num (S.take 4).1 else 0, (S.take 4).2)) := Lib.hid rfl
  clear h hl
  generalize (S.take 4).1 = B at *
  generalize (S.take 4).2 = S1 at *
  generalize num B = n at *
  by_cases h0 : S1.fault = 0
  · by_cases hgt : (n : Int) > most
    · have HV2 : Hid (S.count most = (0, ⟨[], 23⟩)) := Lib.hid (by rw [HV.out, if_pos hgt]; unfold RS.fail; rw [if_pos ⟨by decide, h0⟩])
      have HE : Hid (S1.fail 23 = ⟨[], 23⟩) := Lib.hid (by unfold RS.fail; rw [if_pos ⟨by decide, h0⟩])
      have hd : decide (most < (n : Int)) = true := by simpa using hgt
      have H0 := Lib.hid h0
      clear HV hgt hz h0
      unfold dpt at HT ⊢
      go_enter Try.func70, Try.ntmps70
      go_wp2_with fail
      refine HT.out.mono ?_
      rintro e w1 ⟨rfl, h1, f1⟩
      have c1 : w1.cell? ⟨g, 1, none⟩ = some (.int .i64 0) := by have := h1.blk.cell 1; rw [H0.out] at this; exact this
      have HF := Lib.hid (dfail_any g S1 23 w1 h1)
      have F1 := Lib.hid f1
      unfold dpt at HF
      clear h1 f1
      go_wp2_with fail
      refine (HN.out _).mono ?_
      rintro e w2 ⟨rfl, rfl⟩
      go_wp2_with fail
      refine HF.out.mono ?_
      rintro e w3 ⟨rfl, h3, f3⟩
      rw [HE.out] at h3
      have c3 : w3.cell? ⟨g, 1, none⟩ = some (.int .i64 23) := h3.blk.cell 1
      have H3 := Lib.hid h3
      have F3 := Lib.hid f3
      clear h3 f3 c1
      go_wp2
      go_ret
      exact ⟨by rw [HV2.out]; rfl, by rw [HV2.out]; exact H3.out, F1.out.thenD F3.out⟩
    · have HV2 : Hid (S.count most = (n, S1)) := Lib.hid (by rw [HV.out, if_neg hgt, if_pos h0])
      have hd : decide (most < (n : Int)) = false := by simpa using hgt
      have H0 := Lib.hid h0
      clear HV hgt hz h0
      unfold dpt at HT ⊢
      go_enter Try.func70, Try.ntmps70
      go_wp2_with fail
      refine HT.out.mono ?_
      rintro e w1 ⟨rfl, h1, f1⟩
      have c1 : w1.cell? ⟨g, 1, none⟩ = some (.int .i64 0) := by have := h1.blk.cell 1; rw [H0.out] at this; exact this
      have H1 := Lib.hid h1
      have F1 := Lib.hid f1
      clear h1 f1
      go_wp2_with fail
      refine (HN.out _).mono ?_
      rintro e w2 ⟨rfl, rfl⟩
      go_wp2
      go_ret
      exact ⟨by rw [HV2.out]; rfl, by rw [HV2.out]; exact H1.out, F1.out⟩
  · have HV2 : Hid (S.count most = (0, S1)) := Lib.hid (by
      rw [HV.out]
      split
      · unfold RS.fail; rw [if_neg (by simp [h0])]
      · first | rfl | rw [if_neg h0])
    have hd : (S1.fault == 0) = false := by simpa using h0
    have hd2 : (S1.fault != 0) = true := by simpa using h0
    obtain rfl := hz h0
    clear HV h0 hz
    unfold dpt at HT ⊢
    go_enter Try.func70, Try.ntmps70
    go_wp2_with fail
    refine HT.out.mono ?_
    rintro e w1 ⟨rfl, h1, f1⟩
    have c1 : w1.cell? ⟨g, 1, none⟩ = some (.int .i64 S1.fault) := h1.blk.cell 1
    have H1 := Lib.hid h1
    have F1 := Lib.hid f1
    clear h1 f1
    go_wp2_with fail
    refine (HN.out _).mono ?_
    rintro e w2 ⟨rfl, rfl⟩
    go_wp2
    go_ret
    exact ⟨by rw [HV2.out]; rfl, by rw [HV2.out]; exact H1.out, F1.out⟩
set_option maxHeartbeats 1000000 in
theorem dmany_any (g : Nat) (S : RS) (k : Nat) (hk : 0 < k) (hk8 : k ≤ 8) (w : World) (h : DAt w g S) : Calls Try.prog 97 #[dpt g, .int .i64 k] w (DP g w (.int .i64 ((S.many k).1 : Nat)) (S.many k).2) := by
  have HT : Hid (Calls Try.prog 96 #[dpt g, .int .i64 4] w (DP g w (sv (S.take 4).1) (S.take 4).2)) := Lib.hid (dtake_any g S 4 w h)
  have hl := take_len S 4
  have hn : num (S.take 4).1 < 4294967296 := num_le _ 4 hl
  have hz := take_num_stop S 4
  have hr : (S.take 4).2.rest.length ≤ 1073741824 := Nat.le_trans (take_rest S 4) h.len
  have HN : Hid (∀ w, Calls Try.prog 42 #[sv (S.take 4).1] w fun e w' => e = .returned (.int .u64 (num (S.take 4).1 : Nat)) ∧ w = w') := Lib.hid fun w => of_l _ (by omega) w
  have HV : Hid (S.many k = if num (S.take 4).1 > (S.take 4).2.rest.length / k then (0, (S.take 4).2.fail 20) else (num (S.take 4).1, (S.take 4).2)) := Lib.hid rfl
  clear h hl
  generalize (S.take 4).1 = B at *
  generalize (S.take 4).2 = S1 at *
  obtain ⟨q, hq⟩ : ∃ q, S1.rest.length / k = q := ⟨_, rfl⟩
  have hqq : ((S1.rest.length : Nat) : Int) / (k : Int) = (q : Int) := by rw [← hq]; omega
  have hqr : q ≤ 1073741824 := by rw [← hq]; exact Nat.le_trans (Nat.div_le_self _ _) hr
  rw [hq] at HV
  clear hq
  generalize num B = n at *
  have hk0 : ((k : Int) == 0) = false := by rw [beq_eq_false_iff_ne]; omega
  by_cases h0 : S1.fault = 0
  · have H0 := Lib.hid h0
    by_cases hgt : q < n
    · have HV2 : Hid (S.many k = (0, ⟨[], 20⟩)) := Lib.hid (by rw [HV.out, if_pos hgt]; unfold RS.fail; rw [if_pos ⟨by decide, h0⟩])
      have HE : Hid (S1.fail 20 = ⟨[], 20⟩) := Lib.hid (by unfold RS.fail; rw [if_pos ⟨by decide, h0⟩])
      clear HV hz h0
      unfold dpt at HT ⊢
      go_enter Try.func97, Try.ntmps97
      go_wp2_with fail
      refine HT.out.mono ?_
      rintro e w1 ⟨rfl, h1, f1⟩
      have c0 : w1.cell? ⟨g, 0, none⟩ = some (sv S1.rest) := h1.blk.cell 0
      have c1 : w1.cell? ⟨g, 1, none⟩ = some (.int .i64 0) := by have := h1.blk.cell 1; rw [H0.out] at this; exact this
      have HF := Lib.hid (dfail_any g S1 20 w1 h1)
      have F1 := Lib.hid f1
      unfold dpt at HF
      clear h1 f1
      go_wp2_with fail
      refine (HN.out _).mono ?_
      rintro e w2 ⟨rfl, rfl⟩
      go_wp2_with fail
      refine HF.out.mono ?_
      rintro e w3 ⟨rfl, h3, f3⟩
      rw [HE.out] at h3
      have c3 : w3.cell? ⟨g, 1, none⟩ = some (.int .i64 20) := h3.blk.cell 1
      have H3 := Lib.hid h3
      have F3 := Lib.hid f3
      clear h3 f3 c1 c0
      go_wp2
      go_ret
      exact ⟨by rw [HV2.out]; rfl, by rw [HV2.out]; exact H3.out, F1.out.thenD F3.out⟩
    · have HV2 : Hid (S.many k = (n, S1)) := Lib.hid (by rw [HV.out, if_neg hgt])
      have hle : n ≤ q := by omega
      clear HV hz h0 hgt
      unfold dpt at HT ⊢
      go_enter Try.func97, Try.ntmps97
      go_wp2_with fail
      refine HT.out.mono ?_
      rintro e w1 ⟨rfl, h1, f1⟩
      have c0 : w1.cell? ⟨g, 0, none⟩ = some (sv S1.rest) := h1.blk.cell 0
      have c1 : w1.cell? ⟨g, 1, none⟩ = some (.int .i64 0) := by have := h1.blk.cell 1; rw [H0.out] at this; exact this
      have H1 := Lib.hid h1
      have F1 := Lib.hid f1
      clear h1 f1
      go_wp2_with fail
      refine (HN.out _).mono ?_
      rintro e w2 ⟨rfl, rfl⟩
      go_wp2
      go_ret
      exact ⟨by rw [HV2.out]; rfl, by rw [HV2.out]; exact H1.out, F1.out⟩
  · obtain rfl := hz h0
    have HV2 : Hid (S.many k = (0, S1)) := Lib.hid (by rw [HV.out, if_neg (by omega)])
    have hd : (S1.fault == 0) = false := by simpa using h0
    have hd2 : (S1.fault != 0) = true := by simpa using h0
    clear HV h0 hz
    unfold dpt at HT ⊢
    go_enter Try.func97, Try.ntmps97
    go_wp2_with fail
    refine HT.out.mono ?_
    rintro e w1 ⟨rfl, h1, f1⟩
    have c1 : w1.cell? ⟨g, 1, none⟩ = some (.int .i64 S1.fault) := h1.blk.cell 1
    have H1 := Lib.hid h1
    have F1 := Lib.hid f1
    clear h1 f1
    go_wp2_with fail
    refine (HN.out _).mono ?_
    rintro e w2 ⟨rfl, rfl⟩
    go_wp2
    go_ret
    exact ⟨by rw [HV2.out]; rfl, by rw [HV2.out]; exact H1.out, F1.out⟩
set_option maxHeartbeats 400000 in
theorem dtext_r (g : Nat) (S : RS) (w : World) (h : DAt w g S) : Calls Try.prog 71 #[dpt g] w (DP g w (sv S.text.1) S.text.2) := by
  have HM : Hid (Calls Try.prog 97 #[dpt g, .int .i64 1] w (DP g w (.int .i64 ((S.many 1).1 : Nat)) (S.many 1).2)) := Lib.hid (dmany_any g S 1 (by omega) (by omega) w h)
  have HV : Hid (S.text = (S.many 1).2.take (S.many 1).1) := Lib.hid rfl
  clear h
  generalize (S.many 1).1 = n at *
  generalize (S.many 1).2 = S1 at *
  generalize hP : dpt g = P at *
  have HP := Lib.hid hP
  clear hP
  go_enter Try.func71, Try.ntmps71
  go_wp2_with fail
  refine HM.out.mono ?_
  rintro e w1 ⟨rfl, h1, f1⟩
  have F1 := Lib.hid f1
  have H2 := Lib.hid (dtake_any g S1 n w1 h1)
  rw [HP.out] at H2
  clear h1 f1
  go_wp2_with (go_at_call 96; refine H2.out.mono ?_; rintro e w2 ⟨rfl, h2, f2⟩)
  go_ret
  exact ⟨by rw [HV.out]; rfl, by rw [HV.out]; exact h2, F1.out.thenD f2⟩
end Go.Proofs.Ytjhjcdfhfjeogaa
