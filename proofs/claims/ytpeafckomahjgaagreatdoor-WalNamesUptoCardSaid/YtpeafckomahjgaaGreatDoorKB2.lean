/- A writer lays down bytes, numbers, counts, texts, cells. -/
import Derived.Test.YtpeafckomahjgaaGreatDoorKB1
namespace Go.Proofs.YtpeafckomahjgaaGreatDoor
open Go.RowKit Go.Maps
set_option linter.unusedVariables false

/-- an int64's eight bytes -/
def enc8 (n : Int) : List UInt8 := low (n % 18446744073709551616).toNat 8
def WS.int (S : WS) (n : Int) : WS := S.lay (enc8 n)
def WS.byte (S : WS) (b : Nat) : WS := S.lay (low b 1)
def WS.count (S : WS) (n : Int) : WS := if n < 0 ∨ n > 4294967295 then S.fail 1 else S.lay (low n.toNat 4)
def WS.text (S : WS) (m : List UInt8) : WS := (S.count m.length).lay m

theorem WP.then {p : Option Nat} {v v1 : Value} {w w1 : World} {S' : WS} {e : Ending} {w' : World} (h : WL p v w v1 w1) (k : WP p v1 w1 S' e w') : WP p v w S' e w' := by
  obtain ⟨he, v', h1, h2⟩ := k
  exact ⟨he, v', h1, h.trans h2⟩
theorem low_max (n k : Nat) (hk : k ≤ 8) : (low n k).length ≤ maxLen := by rw [low_len]; unfold maxLen; omega

set_option maxHeartbeats 400000 in
theorem wint_any (p : Option Nat) (v : Value) (S : WS) (n : Int) (w : World) (h : WAt w p v S) : Calls Tryz.prog 69 #[wpt p, .int .i64 n] w (WP p v w (S.int n)) := by
  have hk : IntKind.u64.wrap n = (((n % 18446744073709551616).toNat : Nat) : Int) := by rw [IntKind.wrap_u64]; omega
  have HL := Lib.hid (low_any (n % 18446744073709551616).toNat 8 w (by omega) (by omega))
  have H := Lib.hid h
  have HV : Hid (S.int n = S.lay (low (n % 18446744073709551616).toNat 8)) := Lib.hid rfl
  clear h
  generalize (n % 18446744073709551616).toNat = k at *
  generalize hP : wpt p = P at *
  have HP := Lib.hid hP
  clear hP
  go_enter Tryz.func69, Tryz.ntmps69
  go_wp2_with (first
    | (go_at_call 107; refine HL.out.mono ?_; rintro e w1 ⟨rfl, hb1⟩; have B1 := Lib.hid hb1; clear hb1)
    | (go_at_call 106; rw [← HP.out]; refine (wlay_any p v S (low k 8) _ (H.out.below B1.out) (low_max _ _ (by omega))).mono ?_; rintro e w2 ⟨rfl, v', h1, h2⟩))
  go_end0
  exact ⟨rfl, v', by rw [HV.out]; exact h1, (WL.below B1.out).trans h2⟩
set_option maxHeartbeats 400000 in
theorem wcount_ok (p : Option Nat) (v : Value) (S : WS) (n : Int) (w : World) (h : WAt w p v S) (h0 : 0 ≤ n) (h1 : n ≤ 4294967295) : Calls Tryz.prog 108 #[wpt p, .int .i64 n] w (WP p v w (S.count n)) := by
  obtain ⟨k, rfl⟩ := Int.eq_ofNat_of_zero_le h0
  have hk : k ≤ 4294967295 := by omega
  have HL := Lib.hid (low_any k 4 w (by omega) (by omega))
  have H := Lib.hid h
  have HV : Hid (S.count (k : Int) = S.lay (low k 4)) := Lib.hid (by unfold WS.count; rw [if_neg (by omega)]; rfl)
  have hd : decide ((k : Int) < 0) = false := by simp
  clear h h0 h1
  generalize hP : wpt p = P at *
  have HP := Lib.hid hP
  clear hP
  go_enter Tryz.func108, Tryz.ntmps108
  go_wp2_with (first
    | (go_at_call 107; refine HL.out.mono ?_; rintro e w1 ⟨rfl, hb1⟩; have B1 := Lib.hid hb1; clear hb1)
    | (go_at_call 106; rw [← HP.out]; refine (wlay_any p v S (low k 4) _ (H.out.below B1.out) (low_max _ _ (by omega))).mono ?_; rintro e w2 ⟨rfl, v', h1, h2⟩))
  go_end0
  exact ⟨rfl, v', by rw [HV.out]; exact h1, (WL.below B1.out).trans h2⟩
set_option maxHeartbeats 400000 in
theorem wcount_no (p : Option Nat) (v : Value) (S : WS) (n : Int) (w : World) (h : WAt w p v S) (hn : n < 0 ∨ n > 4294967295) : Calls Tryz.prog 108 #[wpt p, .int .i64 n] w (WP p v w (S.count n)) := by
  have HF := Lib.hid (wfail_any p v S 1 w h)
  have HV : Hid (S.count n = S.fail 1) := Lib.hid (by unfold WS.count; rw [if_pos hn])
  clear h
  generalize wpt p = P at *
  rcases hn with hn | hn
  · have hd : decide (n < 0) = true := by simpa using hn
    clear hn
    go_enter Tryz.func108, Tryz.ntmps108
    go_wp2_with (go_at_call 138; refine HF.out.mono ?_; rintro e w' ⟨rfl, v', h1, h2⟩)
    go_end0
    exact ⟨rfl, v', by rw [HV.out]; exact h1, h2⟩
  · have hd : decide (n < 0) = false := by simp; omega
    have hd2 : decide (4294967295 < n) = true := by simpa using hn
    clear hn
    go_enter Tryz.func108, Tryz.ntmps108
    go_wp2_with (go_at_call 138; refine HF.out.mono ?_; rintro e w' ⟨rfl, v', h1, h2⟩)
    go_end0
    exact ⟨rfl, v', by rw [HV.out]; exact h1, h2⟩
theorem wcount_any (p : Option Nat) (v : Value) (S : WS) (n : Int) (w : World) (h : WAt w p v S) : Calls Tryz.prog 108 #[wpt p, .int .i64 n] w (WP p v w (S.count n)) := by
  by_cases hn : n < 0 ∨ n > 4294967295
  · exact wcount_no p v S n w h hn
  · exact wcount_ok p v S n w h (by omega) (by omega)
set_option maxHeartbeats 400000 in
theorem wtext_any (p : Option Nat) (v : Value) (S : WS) (m : List UInt8) (w : World) (h : WAt w p v S) (hm : m.length ≤ maxLen) : Calls Tryz.prog 70 #[wpt p, sv m] w (WP p v w (S.text m)) := by
  have HC := Lib.hid (wcount_any p v S (m.length : Int) w h)
  have HM := Lib.hid hm
  clear h hm
  generalize hP : wpt p = P at *
  have HP := Lib.hid hP
  clear hP
  go_enter Tryz.func70, Tryz.ntmps70
  go_wp2_with (first
    | (go_at_call 108; refine HC.out.mono ?_; rintro e w1 ⟨rfl, v1, h1, h2⟩; have H1 := Lib.hid h1; have H2 := Lib.hid h2; clear h1 h2)
    | (go_at_call 106; rw [← HP.out]; refine (wlay_any p v1 (S.count m.length) m _ H1.out HM.out).mono ?_; rintro e w2 ⟨rfl, v', h1, h2⟩))
  go_end0
  exact ⟨rfl, v', h1, H2.out.trans h2⟩
end Go.Proofs.YtpeafckomahjgaaGreatDoor
