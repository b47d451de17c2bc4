/- CodecTurned: what a cut and a turned byte come to; walked. -/
import Derived.Test.YtjhjcdfhfjeogaaE2
import Derived.Deep.RegionWith
import Derived.StillTailTactics
import Derived.Deep.RegionLaw
namespace Go.Proofs.Ytjhjcdfhfjeogaa
open Go.RowKit Go.Maps
set_option linter.unusedVariables false

theorem frame_take4 (l : List UInt8) (m : Nat) (hm : 4 ≤ m) : ((frameR l).take m).take 4 = low l.length 4 := by
  rw [List.take_take, Nat.min_eq_left hm]
  unfold frameR
  rw [List.append_assoc]
  exact List.take_left' (low_len 4 _)
/-- A frame that is cut short is short. -/
theorem unf_cutF (l : List UInt8) (hl : l.length ≤ 65536) (m : Nat) (hm : m < (frameR l).length) : (unfR ((frameR l).take m)).2.2 = 20 := by
  have hF := frameR_len l
  have hlen : ((frameR l).take m).length = m := by rw [List.length_take]; omega
  unfold unfR
  by_cases h8 : m < 8
  · rw [if_pos (by omega)]
  · rw [if_neg (by omega), frame_take4 l m (by omega), num_low_of (by omega), if_neg (by omega), if_pos (by omega)]
/-- One byte of the body turned: the check tells. -/
theorem unf_turned (l : List UInt8) (hl : l.length ≤ 65536) (q : Nat) (hq : q < l.length) (c : UInt8) (hc : c ≠ l[q]) :
    (unfR ((frameR l).take (8 + q) ++ [c] ++ (frameR l).drop (8 + q + 1))).2.2 = 21 := by
  have hh : (low l.length 4 ++ low (crc l) 4).length = 8 := by simp [low_len]
  have e1 : (frameR l).take (8 + q) = low l.length 4 ++ low (crc l) 4 ++ l.take q := by
    unfold frameR
    rw [List.take_append, hh, List.take_of_length_le (by omega), Nat.add_sub_cancel_left]
  have e2 : (frameR l).drop (8 + q + 1) = l.drop (q + 1) := by
    unfold frameR
    rw [List.drop_append, hh, List.drop_of_length_le (by omega), List.nil_append]
    congr 1; omega
  have e3 : (frameR l).take (8 + q) ++ [c] ++ (frameR l).drop (8 + q + 1) = low l.length 4 ++ (low (crc l) 4 ++ (l.take q ++ c :: l.drop (q + 1))) := by
    rw [e1, e2]; simp
  have hbl : (l.take q ++ c :: l.drop (q + 1)).length = l.length := by simp; omega
  have hne : crc (l.take q ++ c :: l.drop (q + 1)) ≠ crc l := by
    have hl' : l = l.take q ++ l[q] :: l.drop (q + 1) := by rw [← List.drop_eq_getElem_cons hq, List.take_append_drop]
    intro h
    exact crc_turned (l.take q) (l.drop (q + 1)) c l[q] hc (by rw [h]; rw [← hl'])
  rw [e3]
  clear e1 e2 e3 hh hc hq
  generalize l.take q ++ c :: l.drop (q + 1) = B at *
  have h4 : (low l.length 4 ++ (low (crc l) 4 ++ B)).take 4 = low l.length 4 := List.take_left' (low_len 4 _)
  have d4 : (low l.length 4 ++ (low (crc l) 4 ++ B)).drop 4 = low (crc l) 4 ++ B := List.drop_left' (low_len 4 _)
  have d8 : (low l.length 4 ++ (low (crc l) 4 ++ B)).drop 8 = B := by
    have : ∀ X : List UInt8, X.drop 8 = (X.drop 4).drop 4 := fun X => by rw [List.drop_drop]
    rw [this, d4]; exact List.drop_left' (low_len 4 _)
  have t4 : (low (crc l) 4 ++ B).take 4 = low (crc l) 4 := List.take_left' (low_len 4 _)
  have hlen : (low l.length 4 ++ (low (crc l) 4 ++ B)).length = 8 + l.length := by simp [low_len]; omega
  have hb : B.take l.length = B := List.take_of_length_le (by omega)
  unfold unfR
  rw [h4, num_low_of (by omega), d8, hb, d4, t4, num_low_of (by have := crc_lt l; omega), hlen]
  rw [if_neg (by omega), if_neg (by omega), if_neg (by omega), if_pos hne]
theorem unf_err (s : List UInt8) (hs : s.length ≤ maxLen) (er : Int) (h : (unfR s).2.2 = er) : ∃ (b : List UInt8) (n : Nat), Hid (∀ w, Calls Try.prog 17 #[sv s] w fun e w' => e = .returned (.tuple #[sv b, .int .i64 (n : Int), .int .i64 er]) ∧ Below w.heap.size w w') :=
  by
  subst h
  exact ⟨_, _, Lib.hid fun w => unf_any s w hs⟩

/-- the byte turned, as a text -/
theorem conv1 (g : Nat) (y : UInt8) (w : World) (h : w.cell? ⟨g, 0, none⟩ = some (byteV y)) : (convert 47 9 (.slice (some ⟨g, 0, none⟩) 1 1)).run Try.prog w = .ok (sv [y]) w := by
  have h2 := run_convert_bytes_arg w 47 5 Try.underlying47 Try.underlying5 g 0 1 1 [(y.toNat : Int)] rfl (fun i hi => by
    obtain rfl : i = 0 := by omega
    exact h) 9 Try.underlying9
  refine h2.trans ?_
  simp [strOfNums, sv]
/-- What the walk needs of at. -/
theorem at_abs (at_ : Int) (h : i64 at_) : ∃ k : Nat, (k : Int) ≤ 9223372036854775807 ∧ ((at_ < 0 ∧ -(at_ + 1) = (k : Int)) ∨ (0 ≤ at_ ∧ at_ = (k : Int))) := by
  by_cases h0 : at_ < 0
  · exact ⟨(-(at_ + 1)).toNat, by unfold i64 at h; omega, .inl ⟨h0, by omega⟩⟩
  · exact ⟨at_.toNat, by unfold i64 at h; omega, .inr ⟨by omega, by omega⟩⟩
set_option maxRecDepth 100000 in
set_option maxHeartbeats 2000000 in
theorem turned_neg0 (l F X1 b1 : List UInt8) (at_ : Int) (by_ k n1 : Nat) (w : World) (hneg : at_ < 0) (hav : -(at_ + 1) = (k : Int)) (hk : (k : Int) ≤ 9223372036854775807)
    (HFR : Hid (∀ w, Calls Try.prog 15 #[sv l] w fun e w' => e = .returned (.tuple #[sv F, .int .i64 0]) ∧ Below w.heap.size w w'))
    (HU1 : Hid (∀ w, Calls Try.prog 17 #[sv X1] w fun e w' => e = .returned (.tuple #[sv b1, .int .i64 (n1 : Int), .int .i64 20]) ∧ Below w.heap.size w w'))
    (h0 : l.length = 0) (hF8 : F.length = 8) (hx1 : (ByteArray.mk F.toArray).extract 0 (k % 8) = ⟨X1.toArray⟩) :
    Calls Try.prog 5 #[sv l, .int .i64 at_, .int .u8 (by_ : Int)] w fun e w' => e = .returned (.bool true) ∧ Below w.heap.size w w' := by
  have hl0 : ((l.length : Nat) : Int) = 0 := by omega
  have e8 : ((F.length : Nat) : Int) = 8 := by omega
  go_enter Try.func5, Try.ntmps5
  go_wp2_with fail
  refine (awake_any _).mono ?_
  rintro e w1 ⟨rfl, hb1⟩
  have B1 := Lib.hid hb1
  clear hb1
  go_wp2_with fail
  refine (HFR.out _).mono ?_
  rintro e w2 ⟨rfl, hb2⟩
  have B2 := Lib.hid (B1.out.trans (hb2.mono B1.out.size))
  clear hb2 B1
  go_wp2_with fail
  refine (HU1.out _).mono ?_
  rintro e w3 ⟨rfl, hb3⟩
  have B3 := Lib.hid (B2.out.trans (hb3.mono B2.out.size))
  clear hb3 B2
  go_wp2
  go_ret
  exact ⟨rfl, B3.out⟩
set_option maxRecDepth 100000 in
set_option maxHeartbeats 2000000 in
theorem turned_pos0 (l F X1 b1 : List UInt8) (at_ : Int) (by_ k n1 : Nat) (w : World) (hpos : 0 ≤ at_) (hav : at_ = (k : Int)) (hk : (k : Int) ≤ 9223372036854775807)
    (HFR : Hid (∀ w, Calls Try.prog 15 #[sv l] w fun e w' => e = .returned (.tuple #[sv F, .int .i64 0]) ∧ Below w.heap.size w w'))
    (HU1 : Hid (∀ w, Calls Try.prog 17 #[sv X1] w fun e w' => e = .returned (.tuple #[sv b1, .int .i64 (n1 : Int), .int .i64 20]) ∧ Below w.heap.size w w'))
    (h0 : l.length = 0) (hF8 : F.length = 8) (hx1 : (ByteArray.mk F.toArray).extract 0 (k % 8) = ⟨X1.toArray⟩) :
    Calls Try.prog 5 #[sv l, .int .i64 at_, .int .u8 (by_ : Int)] w fun e w' => e = .returned (.bool true) ∧ Below w.heap.size w w' := by
  have hl0 : ((l.length : Nat) : Int) = 0 := by omega
  have e8 : ((F.length : Nat) : Int) = 8 := by omega
  subst hav
  go_enter Try.func5, Try.ntmps5
  go_wp2_with fail
  refine (awake_any _).mono ?_
  rintro e w1 ⟨rfl, hb1⟩
  have B1 := Lib.hid hb1
  clear hb1
  go_wp2_with fail
  refine (HFR.out _).mono ?_
  rintro e w2 ⟨rfl, hb2⟩
  have B2 := Lib.hid (B1.out.trans (hb2.mono B1.out.size))
  clear hb2 B1
  go_wp2_with fail
  refine (HU1.out _).mono ?_
  rintro e w3 ⟨rfl, hb3⟩
  have B3 := Lib.hid (B2.out.trans (hb3.mono B2.out.size))
  clear hb3 B2
  go_wp2
  go_ret
  exact ⟨rfl, B3.out⟩
set_option maxRecDepth 100000 in
set_option maxHeartbeats 2000000 in
theorem turned_neg (l F X1 b1 P Q R X2 b2 : List UInt8) (c y : UInt8) (at_ : Int) (by_ x k j n1 n2 : Nat) (w : World) (hneg : at_ < 0) (hav : -(at_ + 1) = (k : Int)) (hk : (k : Int) ≤ 9223372036854775807)
    (HFR : Hid (∀ w, Calls Try.prog 15 #[sv l] w fun e w' => e = .returned (.tuple #[sv F, .int .i64 0]) ∧ Below w.heap.size w w'))
    (HU1 : Hid (∀ w, Calls Try.prog 17 #[sv X1] w fun e w' => e = .returned (.tuple #[sv b1, .int .i64 (n1 : Int), .int .i64 20]) ∧ Below w.heap.size w w'))
    (h0 : 0 < l.length) (hl : l.length ≤ 65536) (hF8 : F.length = l.length + 8) (hx1 : (ByteArray.mk F.toArray).extract 0 (k % F.length) = ⟨X1.toArray⟩) (hj : 8 + (k : Int) % (l.length : Int) = (j : Int)) (hjF : j < F.length)
    (hby : (by_ = 0 ∧ x = 1) ∨ (by_ ≠ 0 ∧ x = by_)) (hP : (ByteArray.mk F.toArray).extract 0 j = ⟨P.toArray⟩) (hR : (ByteArray.mk F.toArray).extract (j + 1) F.length = ⟨R.toArray⟩) (hc : F[j] = c) (hy : bits .xor .u8 (c.toNat : Int) (x : Int) = (y.toNat : Int))
    (hcat1 : ∀ w0, (Op.stringOp .add ⟨P.toArray⟩ ⟨#[y]⟩).run Try.prog w0 = .ok (.string ⟨Q.toArray⟩) w0) (hcat2 : ∀ w0, (Op.stringOp .add ⟨Q.toArray⟩ ⟨R.toArray⟩).run Try.prog w0 = .ok (.string ⟨X2.toArray⟩) w0)
    (HU2 : Hid (∀ w, Calls Try.prog 17 #[sv X2] w fun e w' => e = .returned (.tuple #[sv b2, .int .i64 (n2 : Int), .int .i64 21]) ∧ Below w.heap.size w w')) :
    Calls Try.prog 5 #[sv l, .int .i64 at_, .int .u8 (by_ : Int)] w fun e w' => e = .returned (.bool true) ∧ Below w.heap.size w w' := by
  have e8 : (((F.length : Nat) : Int) != (l.length : Int) + 8) = false := by simp; omega
  have e9 : ((l.length : Int) == 0) = false := by rw [beq_eq_false_iff_ne]; omega
  have hF0 : 0 < F.length := by omega
  have hF1 : F.length ≤ 65544 := by omega
  have hm1 : (0 : Int) ≤ (k : Int) % (F.length : Int) := by omega
  have hm2 : (k : Int) % (F.length : Int) ≤ (F.length : Int) := by
    have := Int.emod_lt_of_pos (k : Int) (show (0 : Int) < (F.length : Int) by omega)
    omega
  have HF8 := Lib.hid hF8
  have hidx : ∀ w0 : World, (Instr.index 9 (.string ⟨F.toArray⟩) (.int .i64 (j : Int))).run Try.prog w0 = .ok (.int .u8 (c.toNat : Int)) w0 := fun w0 => by
    rw [run_index_string w0 9 ⟨F.toArray⟩ .i64 (j : Int) Try.underlying9, dif_pos ⟨by omega, by rw [sz]; omega⟩]
    have e : (ByteArray.mk F.toArray)[(j : Int).toNat]'(by rw [sz]; omega) = c := by rw [← hc]; rfl
    rw [e]
  clear hF8
  rcases hby with ⟨rfl, rfl⟩ | ⟨hb0, rfl⟩
  · go_enter Try.func5, Try.ntmps5
    go_wp2_with fail
    refine (awake_any _).mono ?_
    rintro e w1 ⟨rfl, hb1⟩
    have B1 := Lib.hid hb1
    clear hb1
    go_wp2_with fail
    refine (HFR.out _).mono ?_
    rintro e w2 ⟨rfl, hb2⟩
    have B2 := Lib.hid (B1.out.trans (hb2.mono B1.out.size))
    clear hb2 B1
    go_wp2_with fail
    refine (HU1.out _).mono ?_
    rintro e w3 ⟨rfl, hb3⟩
    have B3 := Lib.hid (B2.out.trans (hb3.mono B2.out.size))
    clear hb3 B2
    go_wp2_with fail
    have hcv : (convert 47 9 (.slice (some ⟨w3.heap.size, 0, none⟩) 1 1)).run Try.prog (w3.alloc (.cells #[.int .u8 (y.toNat : Int)] 5)).drew = .ok (.string ⟨#[y]⟩) (w3.alloc (.cells #[.int .u8 (y.toNat : Int)] 5)).drew := conv1 w3.heap.size y _ (by simp [byteV])
    rw [show ((1 : Nat) : Int) = 1 from rfl] at hy
    have hjI : (j : Int) + 1 ≤ (F.length : Int) := by omega
    have hj1 : IntKind.i64.wrap ((j : Int) + 1) = (j : Int) + 1 := IntWalk.i64_in _ (by omega)
    have hj2 : (0 : Int) ≤ (j : Int) + 1 := by omega
    have hj3 : ((j : Int) + 1).toNat = j + 1 := by omega
    have hj4 : (j : Int) ≤ (F.length : Int) := by omega
    clear hm1 hm2 hx1 hF0 e8 e9 h0 hl hF1 hjF hc hj hk hav hneg
    go_region_with ((go_at_call 17; refine (HU2.out _).mono ?_; rintro e w4 ⟨rfl, hb4⟩))
    have hB4 : Below w.heap.size w w4 := B3.out.trans ((Fr.below (((Fr.refl No w3).alloc (.cells #[.int .u8 (y.toNat : Int)] 5)).drew.trans (Fr.of_below hb4) fun _ _ h => h)).mono B3.out.size)
    have B4 := Lib.hid hB4
    clear hb4 hB4 hcv hcat1 hcat2 hidx hP hR
    go_wp2
    go_ret
    exact ⟨rfl, B4.out⟩
  · have hbb : ((x : Int) == 0) = false := by rw [beq_eq_false_iff_ne]; omega
    clear hb0
    go_enter Try.func5, Try.ntmps5
    go_wp2_with fail
    refine (awake_any _).mono ?_
    rintro e w1 ⟨rfl, hb1⟩
    have B1 := Lib.hid hb1
    clear hb1
    go_wp2_with fail
    refine (HFR.out _).mono ?_
    rintro e w2 ⟨rfl, hb2⟩
    have B2 := Lib.hid (B1.out.trans (hb2.mono B1.out.size))
    clear hb2 B1
    go_wp2_with fail
    refine (HU1.out _).mono ?_
    rintro e w3 ⟨rfl, hb3⟩
    have B3 := Lib.hid (B2.out.trans (hb3.mono B2.out.size))
    clear hb3 B2
    go_wp2_with fail
    have hcv : (convert 47 9 (.slice (some ⟨w3.heap.size, 0, none⟩) 1 1)).run Try.prog (w3.alloc (.cells #[.int .u8 (y.toNat : Int)] 5)).drew = .ok (.string ⟨#[y]⟩) (w3.alloc (.cells #[.int .u8 (y.toNat : Int)] 5)).drew := conv1 w3.heap.size y _ (by simp [byteV])
    have hjI : (j : Int) + 1 ≤ (F.length : Int) := by omega
    have hj1 : IntKind.i64.wrap ((j : Int) + 1) = (j : Int) + 1 := IntWalk.i64_in _ (by omega)
    have hj2 : (0 : Int) ≤ (j : Int) + 1 := by omega
    have hj3 : ((j : Int) + 1).toNat = j + 1 := by omega
    have hj4 : (j : Int) ≤ (F.length : Int) := by omega
    clear hm1 hm2 hx1 hF0 e8 e9 h0 hl hF1 hjF hc hj hk hav hneg
    go_region_with ((go_at_call 17; refine (HU2.out _).mono ?_; rintro e w4 ⟨rfl, hb4⟩))
    have hB4 : Below w.heap.size w w4 := B3.out.trans ((Fr.below (((Fr.refl No w3).alloc (.cells #[.int .u8 (y.toNat : Int)] 5)).drew.trans (Fr.of_below hb4) fun _ _ h => h)).mono B3.out.size)
    have B4 := Lib.hid hB4
    clear hb4 hB4 hcv hcat1 hcat2 hidx hP hR
    go_wp2
    go_ret
    exact ⟨rfl, B4.out⟩
set_option maxRecDepth 100000 in
set_option maxHeartbeats 2000000 in
theorem turned_pos (l F X1 b1 P Q R X2 b2 : List UInt8) (c y : UInt8) (at_ : Int) (by_ x k j n1 n2 : Nat) (w : World) (hpos : 0 ≤ at_) (hav : at_ = (k : Int)) (hk : (k : Int) ≤ 9223372036854775807)
    (HFR : Hid (∀ w, Calls Try.prog 15 #[sv l] w fun e w' => e = .returned (.tuple #[sv F, .int .i64 0]) ∧ Below w.heap.size w w'))
    (HU1 : Hid (∀ w, Calls Try.prog 17 #[sv X1] w fun e w' => e = .returned (.tuple #[sv b1, .int .i64 (n1 : Int), .int .i64 20]) ∧ Below w.heap.size w w'))
    (h0 : 0 < l.length) (hl : l.length ≤ 65536) (hF8 : F.length = l.length + 8) (hx1 : (ByteArray.mk F.toArray).extract 0 (k % F.length) = ⟨X1.toArray⟩) (hj : 8 + (k : Int) % (l.length : Int) = (j : Int)) (hjF : j < F.length)
    (hby : (by_ = 0 ∧ x = 1) ∨ (by_ ≠ 0 ∧ x = by_)) (hP : (ByteArray.mk F.toArray).extract 0 j = ⟨P.toArray⟩) (hR : (ByteArray.mk F.toArray).extract (j + 1) F.length = ⟨R.toArray⟩) (hc : F[j] = c) (hy : bits .xor .u8 (c.toNat : Int) (x : Int) = (y.toNat : Int))
    (hcat1 : ∀ w0, (Op.stringOp .add ⟨P.toArray⟩ ⟨#[y]⟩).run Try.prog w0 = .ok (.string ⟨Q.toArray⟩) w0) (hcat2 : ∀ w0, (Op.stringOp .add ⟨Q.toArray⟩ ⟨R.toArray⟩).run Try.prog w0 = .ok (.string ⟨X2.toArray⟩) w0)
    (HU2 : Hid (∀ w, Calls Try.prog 17 #[sv X2] w fun e w' => e = .returned (.tuple #[sv b2, .int .i64 (n2 : Int), .int .i64 21]) ∧ Below w.heap.size w w')) :
    Calls Try.prog 5 #[sv l, .int .i64 at_, .int .u8 (by_ : Int)] w fun e w' => e = .returned (.bool true) ∧ Below w.heap.size w w' := by
  have e8 : (((F.length : Nat) : Int) != (l.length : Int) + 8) = false := by simp; omega
  have e9 : ((l.length : Int) == 0) = false := by rw [beq_eq_false_iff_ne]; omega
  have hF0 : 0 < F.length := by omega
  have hF1 : F.length ≤ 65544 := by omega
  have hm1 : (0 : Int) ≤ (k : Int) % (F.length : Int) := by omega
  have hm2 : (k : Int) % (F.length : Int) ≤ (F.length : Int) := by
    have := Int.emod_lt_of_pos (k : Int) (show (0 : Int) < (F.length : Int) by omega)
    omega
  have HF8 := Lib.hid hF8
  have hidx : ∀ w0 : World, (Instr.index 9 (.string ⟨F.toArray⟩) (.int .i64 (j : Int))).run Try.prog w0 = .ok (.int .u8 (c.toNat : Int)) w0 := fun w0 => by
    rw [run_index_string w0 9 ⟨F.toArray⟩ .i64 (j : Int) Try.underlying9, dif_pos ⟨by omega, by rw [sz]; omega⟩]
    have e : (ByteArray.mk F.toArray)[(j : Int).toNat]'(by rw [sz]; omega) = c := by rw [← hc]; rfl
    rw [e]
  clear hF8
  subst hav
  rcases hby with ⟨rfl, rfl⟩ | ⟨hb0, rfl⟩
  · go_enter Try.func5, Try.ntmps5
    go_wp2_with fail
    refine (awake_any _).mono ?_
    rintro e w1 ⟨rfl, hb1⟩
    have B1 := Lib.hid hb1
    clear hb1
    go_wp2_with fail
    refine (HFR.out _).mono ?_
    rintro e w2 ⟨rfl, hb2⟩
    have B2 := Lib.hid (B1.out.trans (hb2.mono B1.out.size))
    clear hb2 B1
    go_wp2_with fail
    refine (HU1.out _).mono ?_
    rintro e w3 ⟨rfl, hb3⟩
    have B3 := Lib.hid (B2.out.trans (hb3.mono B2.out.size))
    clear hb3 B2
    go_wp2_with fail
    have hcv : (convert 47 9 (.slice (some ⟨w3.heap.size, 0, none⟩) 1 1)).run Try.prog (w3.alloc (.cells #[.int .u8 (y.toNat : Int)] 5)).drew = .ok (.string ⟨#[y]⟩) (w3.alloc (.cells #[.int .u8 (y.toNat : Int)] 5)).drew := conv1 w3.heap.size y _ (by simp [byteV])
    rw [show ((1 : Nat) : Int) = 1 from rfl] at hy
    have hjI : (j : Int) + 1 ≤ (F.length : Int) := by omega
    have hj1 : IntKind.i64.wrap ((j : Int) + 1) = (j : Int) + 1 := IntWalk.i64_in _ (by omega)
    have hj2 : (0 : Int) ≤ (j : Int) + 1 := by omega
    have hj3 : ((j : Int) + 1).toNat = j + 1 := by omega
    have hj4 : (j : Int) ≤ (F.length : Int) := by omega
    clear hm1 hm2 hx1 hF0 e8 e9 h0 hl hF1 hjF hc hj hk
    go_region_with ((go_at_call 17; refine (HU2.out _).mono ?_; rintro e w4 ⟨rfl, hb4⟩))
    have hB4 : Below w.heap.size w w4 := B3.out.trans ((Fr.below (((Fr.refl No w3).alloc (.cells #[.int .u8 (y.toNat : Int)] 5)).drew.trans (Fr.of_below hb4) fun _ _ h => h)).mono B3.out.size)
    have B4 := Lib.hid hB4
    clear hb4 hB4 hcv hcat1 hcat2 hidx hP hR
    go_wp2
    go_ret
    exact ⟨rfl, B4.out⟩
  · have hbb : ((x : Int) == 0) = false := by rw [beq_eq_false_iff_ne]; omega
    clear hb0
    go_enter Try.func5, Try.ntmps5
    go_wp2_with fail
    refine (awake_any _).mono ?_
    rintro e w1 ⟨rfl, hb1⟩
    have B1 := Lib.hid hb1
    clear hb1
    go_wp2_with fail
    refine (HFR.out _).mono ?_
    rintro e w2 ⟨rfl, hb2⟩
    have B2 := Lib.hid (B1.out.trans (hb2.mono B1.out.size))
    clear hb2 B1
    go_wp2_with fail
    refine (HU1.out _).mono ?_
    rintro e w3 ⟨rfl, hb3⟩
    have B3 := Lib.hid (B2.out.trans (hb3.mono B2.out.size))
    clear hb3 B2
    go_wp2_with fail
    have hcv : (convert 47 9 (.slice (some ⟨w3.heap.size, 0, none⟩) 1 1)).run Try.prog (w3.alloc (.cells #[.int .u8 (y.toNat : Int)] 5)).drew = .ok (.string ⟨#[y]⟩) (w3.alloc (.cells #[.int .u8 (y.toNat : Int)] 5)).drew := conv1 w3.heap.size y _ (by simp [byteV])
    have hjI : (j : Int) + 1 ≤ (F.length : Int) := by omega
    have hj1 : IntKind.i64.wrap ((j : Int) + 1) = (j : Int) + 1 := IntWalk.i64_in _ (by omega)
    have hj2 : (0 : Int) ≤ (j : Int) + 1 := by omega
    have hj3 : ((j : Int) + 1).toNat = j + 1 := by omega
    have hj4 : (j : Int) ≤ (F.length : Int) := by omega
    clear hm1 hm2 hx1 hF0 e8 e9 h0 hl hF1 hjF hc hj hk
    go_region_with ((go_at_call 17; refine (HU2.out _).mono ?_; rintro e w4 ⟨rfl, hb4⟩))
    have hB4 : Below w.heap.size w w4 := B3.out.trans ((Fr.below (((Fr.refl No w3).alloc (.cells #[.int .u8 (y.toNat : Int)] 5)).drew.trans (Fr.of_below hb4) fun _ _ h => h)).mono B3.out.size)
    have B4 := Lib.hid hB4
    clear hb4 hB4 hcv hcat1 hcat2 hidx hP hR
    go_wp2
    go_ret
    exact ⟨rfl, B4.out⟩
end Go.Proofs.Ytjhjcdfhfjeogaa
