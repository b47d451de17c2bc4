/- Frames made, both ways. -/
import Derived.Test.YtpeafckomahjgaaGreatDoorKA7
namespace Go.Proofs.YtpeafckomahjgaaGreatDoor
open Go.RowKit Go.Maps
set_option linter.unusedVariables false

/-- A text of bytes. -/
abbrev sv (l : List UInt8) : Value := .string ⟨l.toArray⟩
theorem run_cat (l m : List UInt8) (h : l.length + m.length ≤ 9223372036854775807) (w : World) : (Op.stringOp .add ⟨l.toArray⟩ ⟨m.toArray⟩).run Tryz.prog w = .ok (.string ⟨(l ++ m).toArray⟩) w := by
  rw [run_string_add_sum w _ _ (by simpa [ByteArray.size] using h), ByteArray.mk_append_mk]
theorem sz (l : List UInt8) : (ByteArray.mk l.toArray).size = l.length := by simp [ByteArray.size]

def frameR (l : List UInt8) : List UInt8 := low l.length 4 ++ low (crc l) 4 ++ l
def frameV (l : List UInt8) : Value := if l.length > 65536 then .tuple #[.string ByteArray.empty, .int .i64 23] else .tuple #[sv (frameR l), .int .i64 0]
def Framed (l : List UInt8) (w : World) (e : Ending) (w' : World) : Prop := e = .returned (frameV l) ∧ Below w.heap.size w w'
theorem frameV_ok {l : List UInt8} (h : l.length ≤ 65536) : frameV l = .tuple #[sv (frameR l), .int .i64 0] := by unfold frameV; rw [if_neg (by omega)]
theorem frameV_no {l : List UInt8} (h : ¬ l.length ≤ 65536) : frameV l = .tuple #[.string ByteArray.empty, .int .i64 23] := by unfold frameV; rw [if_pos (by omega)]

set_option maxRecDepth 100000 in
set_option maxHeartbeats 1000000 in
theorem frame_ok (l : List UInt8) (w : World) (hs : l.length ≤ 65536) : Calls Tryz.prog 72 #[sv l] w (Framed l w) := by
  have hc := crc_lt l
  have HS : Hid (∀ w, Calls Tryz.prog 109 #[sv l] w (SumB l w)) := Lib.hid fun w => sum_any ⟨l.toArray⟩ w (by rw [sz]; unfold maxLen; omega)
  have HL : Hid (∀ w, Calls Tryz.prog 107 #[.int .u64 (l.length : Int), .int .i64 4] w (Low l.length 4 w)) := Lib.hid fun w => low_any l.length 4 w (by omega) (by omega)
  have HC : Hid (∀ w, Calls Tryz.prog 107 #[.int .u64 (crc l : Nat), .int .i64 4] w (Low (crc l) 4 w)) := Lib.hid fun w => low_any _ 4 w (by omega) (by omega)
  have HV := Lib.hid (frameV_ok hs)
  obtain ⟨A, hA⟩ : ∃ A, low l.length 4 = A := ⟨_, rfl⟩
  obtain ⟨B, hB⟩ : ∃ B, low (crc l) 4 = B := ⟨_, rfl⟩
  obtain ⟨X, hX⟩ : ∃ X, A ++ B = X := ⟨_, rfl⟩
  obtain ⟨Y, hY⟩ : ∃ Y, X ++ l = Y := ⟨_, rfl⟩
  have hla : A.length = 4 := by rw [← hA, low_len]
  have hlb : B.length = 4 := by rw [← hB, low_len]
  have hcat1 : ∀ w0, (Op.stringOp .add ⟨A.toArray⟩ ⟨B.toArray⟩).run Tryz.prog w0 = .ok (.string ⟨X.toArray⟩) w0 := fun w0 => by rw [run_cat _ _ (by omega), hX]
  have hcat2 : ∀ w0, (Op.stringOp .add ⟨X.toArray⟩ ⟨l.toArray⟩).run Tryz.prog w0 = .ok (.string ⟨Y.toArray⟩) w0 := fun w0 => by rw [run_cat _ _ (by rw [← hX]; simp; omega), hY]
  have HF : Hid (frameR l = Y) := Lib.hid (by unfold frameR; rw [hA, hB, hX, hY])
  unfold Low at HL HC
  unfold SumB at HS
  rw [hA] at HL
  rw [hB] at HC
  clear hA hB hX hY hla hlb
  generalize crc l = c at *
  go_enter Tryz.func72, Tryz.ntmps72
  go_wp2_with (first | (go_at_call 107; first | ((with_reducible refine (HL.out _).mono ?_); rintro e w1 ⟨rfl, hb1⟩; have B1 := Lib.hid hb1; clear hb1) | ((with_reducible refine (HC.out _).mono ?_); rintro e w3 ⟨rfl, hb3⟩; have B3 := Lib.hid hb3; clear hb3)) | (go_at_call 109; refine (HS.out _).mono ?_; rintro e w2 ⟨rfl, hb2⟩; have B2 := Lib.hid hb2; clear hb2))
  go_ret2
  exact ⟨by rw [HV.out, HF.out]; rfl, B1.out.trans (B2.out.mono B1.out.size) |>.trans (B3.out.mono (Nat.le_trans B1.out.size B2.out.size))⟩
set_option maxRecDepth 100000 in
theorem frame_no (l : List UInt8) (w : World) (hm : l.length ≤ maxLen) (hs : ¬ l.length ≤ 65536) : Calls Tryz.prog 72 #[sv l] w (Framed l w) := by
  have HV := Lib.hid (frameV_no hs)
  unfold maxLen at hm
  have hg : 65536 < l.length := by omega
  clear hs
  go_enter Tryz.func72, Tryz.ntmps72
  go_wp2
  go_ret2
  exact ⟨by rw [HV.out]; rfl, Below.refl _ _⟩
theorem frame_any (l : List UInt8) (w : World) (hm : l.length ≤ maxLen) : Calls Tryz.prog 72 #[sv l] w (Framed l w) := by
  by_cases hs : l.length ≤ 65536
  · exact frame_ok l w hs
  · exact frame_no l w hm hs
end Go.Proofs.YtpeafckomahjgaaGreatDoor
