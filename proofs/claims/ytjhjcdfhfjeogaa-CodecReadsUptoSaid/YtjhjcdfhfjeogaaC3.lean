/- A reader takes up bytes, numbers, counts, texts. -/
import Derived.Test.YtjhjcdfhfjeogaaC2
namespace Go.Proofs.Ytjhjcdfhfjeogaa
open Go.RowKit Go.Maps
set_option linter.unusedVariables false

def RS.byte (S : RS) : Nat × RS := (num (S.take 1).1, (S.take 1).2)
def RS.int (S : RS) : Int × RS := (IntKind.i64.wrap (num (S.take 8).1 : Nat), (S.take 8).2)
def RS.count (S : RS) (most : Int) : Nat × RS := if ((num (S.take 4).1 : Nat) : Int) > most then (0, (S.take 4).2.fail 23) else (if (S.take 4).2.fault = 0 then num (S.take 4).1 else 0, (S.take 4).2)
def RS.text (S : RS) : List UInt8 × RS := (S.many 1).2.take (S.many 1).1
theorem num_le (l : List UInt8) (k : Nat) (h : l.length ≤ k) : num l < 256 ^ k := Nat.lt_of_lt_of_le (num_lt l) (Nat.pow_le_pow_right (by decide) h)
theorem Fr.then {F : Nat → Prop} {a b c : World} (h : Fr F a b) (k : Fr F b c) : Fr F a c := h.trans k fun _ _ h => h

set_option maxHeartbeats 400000 in
theorem rbyte_any (p : Option Nat) (S : RS) (w : World) (h : RAt w p S) : Calls Try.prog 33 #[wpt p] w (RP p w (.int .u8 (S.byte.1 : Nat)) S.byte.2) := by
  have HT : Hid (Calls Try.prog 77 #[wpt p, .int .i64 1] w (RP p w (sv (S.take 1).1) (S.take 1).2)) := Lib.hid (rtake_any p S 1 w h)
  have hl := take_len S 1
  have hn : num (S.take 1).1 < 256 := num_le _ 1 hl
  have HN : Hid (∀ w, Calls Try.prog 41 #[sv (S.take 1).1] w fun e w' => e = .returned (.int .u64 (num (S.take 1).1 : Nat)) ∧ w = w') := Lib.hid fun w => number_l _ (by omega) w
  have HV : Hid (S.byte = (num (S.take 1).1, (S.take 1).2)) := Lib.hid rfl
  clear h hl
  generalize (S.take 1).1 = B at *
  generalize (S.take 1).2 = S1 at *
  generalize num B = n at *
  generalize wpt p = P at *
  go_enter Try.func33, Try.ntmps33
  go_wp2_with fail
  refine HT.out.mono ?_
  rintro e w1 ⟨rfl, h1, f1⟩
  have H1 := Lib.hid h1
  have F1 := Lib.hid f1
  clear h1 f1
  go_wp2_with (go_at_call 41; refine (HN.out _).mono ?_; rintro e w' ⟨rfl, rfl⟩)
  go_ret
  exact ⟨by rw [HV.out]; rfl, by rw [HV.out]; exact H1.out, F1.out⟩
set_option maxHeartbeats 400000 in
theorem rint_any (p : Option Nat) (S : RS) (w : World) (h : RAt w p S) : Calls Try.prog 58 #[wpt p] w (RP p w (.int .i64 S.int.1) S.int.2) := by
  have HT : Hid (Calls Try.prog 77 #[wpt p, .int .i64 8] w (RP p w (sv (S.take 8).1) (S.take 8).2)) := Lib.hid (rtake_any p S 8 w h)
  have hl := take_len S 8
  have HN : Hid (∀ w, Calls Try.prog 41 #[sv (S.take 8).1] w fun e w' => e = .returned (.int .u64 (num (S.take 8).1 : Nat)) ∧ w = w') := Lib.hid fun w => number_l _ (by omega) w
  have HV : Hid (S.int = (IntKind.i64.wrap (num (S.take 8).1 : Nat), (S.take 8).2)) := Lib.hid rfl
  clear h hl
  generalize (S.take 8).1 = B at *
  generalize (S.take 8).2 = S1 at *
  generalize num B = n at *
  obtain ⟨m, hm⟩ : ∃ m, IntKind.i64.wrap (n : Int) = m := ⟨_, rfl⟩
  rw [hm] at HV
  generalize wpt p = P at *
  go_enter Try.func58, Try.ntmps58
  go_wp2_with fail
  refine HT.out.mono ?_
  rintro e w1 ⟨rfl, h1, f1⟩
  have H1 := Lib.hid h1
  have F1 := Lib.hid f1
  clear h1 f1
  go_wp2_with (go_at_call 41; refine (HN.out _).mono ?_; rintro e w' ⟨rfl, rfl⟩)
  go_ret
  exact ⟨by rw [HV.out]; rfl, by rw [HV.out]; exact H1.out, F1.out⟩
set_option maxHeartbeats 1000000 in
theorem rcount_any (p : Option Nat) (S : RS) (most : Int) (w : World) (h : RAt w p S) : Calls Try.prog 59 #[wpt p, .int .i64 most] w (RP p w (.int .i64 ((S.count most).1 : Nat)) (S.count most).2) := by
  have HT : Hid (Calls Try.prog 77 #[wpt p, .int .i64 4] w (RP p w (sv (S.take 4).1) (S.take 4).2)) := Lib.hid (rtake_any p S 4 w h)
  have hl := take_len S 4
  have hn : num (S.take 4).1 < 4294967296 := num_le _ 4 hl
  have HN : Hid (∀ w, Calls Try.prog 41 #[sv (S.take 4).1] w fun e w' => e = .returned (.int .u64 (num (S.take 4).1 : Nat)) ∧ w = w') := Lib.hid fun w => number_l _ (by omega) w
  have HV : Hid (S.count most = if ((num (S.take 4).1 : Nat) : Int) > most then (0, (S.take 4).2.fail 23) else (if (S.take 4).2.fault = 0 then num (S.take 4).1 else 0, (S.take 4).2)) := Lib.hid rfl
  clear h hl
  generalize (S.take 4).1 = B at *
  generalize (S.take 4).2 = S1 at *
  generalize num B = n at *
  generalize hP : wpt p = P at *
  have HP := Lib.hid hP
  clear hP
  by_cases hgt : (n : Int) > most
  · have HV2 : Hid (S.count most = (0, S1.fail 23)) := Lib.hid (by rw [HV.out, if_pos hgt])
    have hd : decide (most < (n : Int)) = true := by simpa using hgt
    clear HV hgt
    go_enter Try.func59, Try.ntmps59
    go_wp2_with fail
    refine HT.out.mono ?_
    rintro e w1 ⟨rfl, h1, f1⟩
    have H1 := Lib.hid h1
    have F1 := Lib.hid f1
    clear h1 f1
    go_wp2_with (first
      | (go_at_call 41; refine (HN.out _).mono ?_; rintro e w' ⟨rfl, rfl⟩)
      | (go_at_call 29; rw [← HP.out]; refine (rfail_any p S1 23 _ H1.out).mono ?_; rintro e w2 ⟨rfl, h2, f2⟩))
    go_ret
    exact ⟨by rw [HV2.out]; rfl, by rw [HV2.out]; exact h2, F1.out.then f2⟩
  · have HV2 : Hid (S.count most = (if S1.fault = 0 then n else 0, S1)) := Lib.hid (by rw [HV.out, if_neg hgt])
    have hd : decide (most < (n : Int)) = false := by simpa using hgt
    have HI : Hid ((if S1.fault = 0 then (.int .i64 (n : Int) : Value) else .int .i64 0) = .int .i64 ((if S1.fault = 0 then n else 0 : Nat) : Int)) := Lib.hid (by split <;> rfl)
    clear HV hgt
    generalize (if S1.fault = 0 then n else 0) = m at *
    go_enter Try.func59, Try.ntmps59
    go_wp2_with fail
    refine HT.out.mono ?_
    rintro e w1 ⟨rfl, h1, f1⟩
    have H1 := Lib.hid h1
    have F1 := Lib.hid f1
    have HTO : Hid (Calls Try.prog 88 #[P, .int .i64 (n : Int)] w1 fun e w' => e = .returned (.int .i64 (m : Int)) ∧ w1 = w') := Lib.hid (by rw [← HP.out, ← HI.out]; exact told88 p S1 _ w1 h1)
    clear h1 f1
    go_wp2_with (first
      | (go_at_call 41; refine (HN.out _).mono ?_; rintro e w' ⟨rfl, rfl⟩)
      | (go_at_call 88; refine HTO.out.mono ?_; rintro e w2 ⟨rfl, rfl⟩))
    go_ret
    exact ⟨by rw [HV2.out]; rfl, by rw [HV2.out]; exact H1.out, F1.out⟩
set_option maxHeartbeats 400000 in
theorem rtext_any (p : Option Nat) (S : RS) (w : World) (h : RAt w p S) : Calls Try.prog 36 #[wpt p] w (RP p w (sv S.text.1) S.text.2) := by
  have HM : Hid (Calls Try.prog 79 #[wpt p, .int .i64 1] w (RP p w (.int .i64 ((S.many 1).1 : Nat)) (S.many 1).2)) := Lib.hid (rmany_any p S 1 (by omega) (by omega) w h)
  have HV : Hid (S.text = (S.many 1).2.take (S.many 1).1) := Lib.hid rfl
  clear h
  generalize (S.many 1).1 = n at *
  generalize (S.many 1).2 = S1 at *
  generalize hP : wpt p = P at *
  have HP := Lib.hid hP
  clear hP
  go_enter Try.func36, Try.ntmps36
  go_wp2_with fail
  refine HM.out.mono ?_
  rintro e w1 ⟨rfl, h1, f1⟩
  have F1 := Lib.hid f1
  have H2 := Lib.hid (rtake_any p S1 n w1 h1)
  rw [HP.out] at H2
  clear h1 f1
  go_wp2_with (go_at_call 77; refine H2.out.mono ?_; rintro e w2 ⟨rfl, h2, f2⟩)
  go_ret
  exact ⟨by rw [HV.out]; rfl, by rw [HV.out]; exact h2, F1.out.then f2⟩
end Go.Proofs.Ytjhjcdfhfjeogaa
