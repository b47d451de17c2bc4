/- A reader takes up bytes, numbers, counts, texts. -/
import Derived.Test.YtpeafckomahjgaaGreatDoorKC2
namespace Go.Proofs.YtpeafckomahjgaaGreatDoor
open Go.RowKit Go.Maps
set_option linter.unusedVariables false

def RS.byte (S : RS) : Nat × RS := (num (S.take 1).1, (S.take 1).2)
def RS.int (S : RS) : Int × RS := (IntKind.i64.wrap (num (S.take 8).1 : Nat), (S.take 8).2)
def RS.count (S : RS) (most : Int) : Nat × RS := if ((num (S.take 4).1 : Nat) : Int) > most then (0, (S.take 4).2.fail 23) else (if (S.take 4).2.fault = 0 then num (S.take 4).1 else 0, (S.take 4).2)
def RS.text (S : RS) : List UInt8 × RS := (S.many 1).2.take (S.many 1).1
theorem num_le (l : List UInt8) (k : Nat) (h : l.length ≤ k) : num l < 256 ^ k := Nat.lt_of_lt_of_le (num_lt l) (Nat.pow_le_pow_right (by decide) h)
theorem Fr.then {F : Nat → Prop} {a b c : World} (h : Fr F a b) (k : Fr F b c) : Fr F a c := h.trans k fun _ _ h => h

set_option maxHeartbeats 400000 in
theorem rint_any (p : Option Nat) (S : RS) (w : World) (h : RAt w p S) : Calls Tryz.prog 156 #[wpt p] w (RP p w (.int .i64 S.int.1) S.int.2) := by
  have HT : Hid (Calls Tryz.prog 177 #[wpt p, .int .i64 8] w (RP p w (sv (S.take 8).1) (S.take 8).2)) := Lib.hid (rtake_any p S 8 w h)
  have hl := take_len S 8
  have HN : Hid (∀ w, Calls Tryz.prog 154 #[sv (S.take 8).1] w fun e w' => e = .returned (.int .u64 (num (S.take 8).1 : Nat)) ∧ w = w') := Lib.hid fun w => number_l _ (by omega) w
  have HV : Hid (S.int = (IntKind.i64.wrap (num (S.take 8).1 : Nat), (S.take 8).2)) := Lib.hid rfl
  clear h hl
  generalize (S.take 8).1 = B at *
  generalize (S.take 8).2 = S1 at *
  generalize num B = n at *
  obtain ⟨m, hm⟩ : ∃ m, IntKind.i64.wrap (n : Int) = m := ⟨_, rfl⟩
  rw [hm] at HV
  generalize wpt p = P at *
  go_enter Tryz.func156, Tryz.ntmps156
  go_wp2_with fail
  refine HT.out.mono ?_
  rintro e w1 ⟨rfl, h1, f1⟩
  have H1 := Lib.hid h1
  have F1 := Lib.hid f1
  clear h1 f1
  go_wp2_with (go_at_call 154; refine (HN.out _).mono ?_; rintro e w' ⟨rfl, rfl⟩)
  go_ret
  exact ⟨by rw [HV.out]; rfl, by rw [HV.out]; exact H1.out, F1.out⟩
set_option maxHeartbeats 400000 in
theorem rtext_any (p : Option Nat) (S : RS) (w : World) (h : RAt w p S) : Calls Tryz.prog 157 #[wpt p] w (RP p w (sv S.text.1) S.text.2) := by
  have HM : Hid (Calls Tryz.prog 178 #[wpt p, .int .i64 1] w (RP p w (.int .i64 ((S.many 1).1 : Nat)) (S.many 1).2)) := Lib.hid (rmany_any p S 1 (by omega) (by omega) w h)
  have HV : Hid (S.text = (S.many 1).2.take (S.many 1).1) := Lib.hid rfl
  clear h
  generalize (S.many 1).1 = n at *
  generalize (S.many 1).2 = S1 at *
  generalize hP : wpt p = P at *
  have HP := Lib.hid hP
  clear hP
  go_enter Tryz.func157, Tryz.ntmps157
  go_wp2_with fail
  refine HM.out.mono ?_
  rintro e w1 ⟨rfl, h1, f1⟩
  have F1 := Lib.hid f1
  have H2 := Lib.hid (rtake_any p S1 n w1 h1)
  rw [HP.out] at H2
  clear h1 f1
  go_wp2_with (go_at_call 177; refine H2.out.mono ?_; rintro e w2 ⟨rfl, h2, f2⟩)
  go_ret
  exact ⟨by rw [HV.out]; rfl, by rw [HV.out]; exact h2, F1.out.then f2⟩
end Go.Proofs.YtpeafckomahjgaaGreatDoor
