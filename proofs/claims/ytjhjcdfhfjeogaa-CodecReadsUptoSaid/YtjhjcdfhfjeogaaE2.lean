/- CodecSums, CodecFrames, walked. -/
import Derived.Test.YtjhjcdfhfjeogaaE1
namespace Go.Proofs.Ytjhjcdfhfjeogaa
open Go.RowKit Go.Maps
set_option linter.unusedVariables false

theorem sum_b (l : List UInt8) (hl : l.length ≤ maxLen) (w : World) : Calls Try.prog 13 #[sv l] w (SumB l w) := sum_any ⟨l.toArray⟩ w (by rw [sz]; exact hl)
theorem rsum_b (l : List UInt8) (hl : l.length ≤ maxLen) (w : World) : Calls Try.prog 12 #[sv l] w fun e w' => e = .returned (.int .u32 (crc l : Nat)) ∧ w = w' := rsum_any ⟨l.toArray⟩ w (by rw [sz]; exact hl)
theorem tsum_b (g : Nat) (l : List UInt8) (hl : l.length ≤ maxLen) (w : World) (h : TabAt w g) : Calls Try.prog 14 #[.pointer (some ⟨g, 0, none⟩), sv l] w (Summed g l w) := tsum_any g ⟨l.toArray⟩ w (by rw [sz]; exact hl) h
theorem tsum_n (l : List UInt8) (w : World) : Calls Try.prog 14 #[.pointer none, sv l] w fun e w' => e = .returned (.int .u32 0) ∧ w = w' := tsum_nil ⟨l.toArray⟩ w

set_option maxRecDepth 100000 in
set_option maxHeartbeats 2000000 in
theorem codecsums_any (l : List UInt8) (hl : l.length ≤ maxLen) (w : World) : Calls Try.prog 3 #[sv l] w fun e w' => e = .returned (.bool true) ∧ Below w.heap.size w w' := by
  have HL := Lib.hid hl
  clear hl
  go_enter Try.func3, Try.ntmps3
  go_wp2_with fail
  refine (awake_any _).mono ?_
  rintro e w1 ⟨rfl, hb1⟩
  have B1 := Lib.hid hb1
  clear hb1
  go_wp2_with fail
  refine (rsum_b l HL.out _).mono ?_
  rintro e w2 ⟨rfl, hw2⟩
  have T2 : Hid (TabAt (w1.alloc (.cells fresh 38)) w1.heap.size) := Lib.hid (fresh_alloc w1)
  have B2 : Hid (Below w.heap.size w (w1.alloc (.cells fresh 38))) := Lib.hid (B1.out.alloc B1.out.size _)
  obtain ⟨g, hg⟩ : ∃ g, w1.heap.size = g := ⟨_, rfl⟩
  have C : Hid (w.heap.size ≤ g) := Lib.hid (hg ▸ B1.out.size)
  have e2 : w1.alloc (.cells fresh 38) = w2 := hw2
  rw [e2] at T2 B2
  rw [hg] at T2
  clear hw2 e2 B1
  rw [hg]
  clear hg
  go_wp2_with fail
  refine (sum_b l HL.out _).mono ?_
  rintro e w3 ⟨rfl, hb3⟩
  have T3 : Hid (TabAt w3 g) := Lib.hid (by
    rcases T2.out with h | h
    · exact .inl (h.of (hb3.block g h.lt))
    · exact .inr (h.of (hb3.block g h.lt)))
  have B3 := Lib.hid (B2.out.trans (hb3.mono B2.out.size))
  clear hb3 T2 B2
  go_wp2_with fail
  refine (tsum_b g l HL.out _ T3.out).mono ?_
  rintro e w4 ⟨rfl, ht4, hf4⟩
  have T4 : Hid (TabAt w4 g) := Lib.hid (.inr ht4)
  have B4 : Hid (Below w.heap.size w w4) := Lib.hid (B3.out.trans (hf4.below_of B3.out.size fun k hk => by rw [show k = g from hk]; exact C.out))
  clear ht4 hf4 T3 B3
  go_wp2_with fail
  refine (tsum_b g l HL.out _ T4.out).mono ?_
  rintro e w5 ⟨rfl, ht5, hf5⟩
  have B5 : Hid (Below w.heap.size w w5) := Lib.hid (B4.out.trans (hf5.below_of B4.out.size fun k hk => by rw [show k = g from hk]; exact C.out))
  clear ht5 hf5 T4 B4
  go_wp2_with fail
  refine (tsum_n l _).mono ?_
  rintro e w6 ⟨rfl, rfl⟩
  go_wp2
  go_ret
  exact ⟨rfl, B5.out⟩

/-! ### CodecFrames -/
theorem frameR_len (l : List UInt8) : (frameR l).length = l.length + 8 := by unfold frameR; simp [low_len]; omega
theorem unf_frame (l s : List UInt8) (hl : l.length ≤ 65536) : unfR (frameR l ++ s) = (l, l.length + 8, 0) := by
  have hlow : num (low l.length 4) = l.length := num_low_of (by omega)
  have hcrc : num (low (crc l) 4) = crc l := num_low_of (by have := crc_lt l; omega)
  have e1 : (frameR l ++ s).take 4 = low l.length 4 := by
    unfold frameR
    rw [List.append_assoc, List.append_assoc]
    exact List.take_left' (low_len 4 _)
  have e2 : (frameR l ++ s).drop 4 = low (crc l) 4 ++ (l ++ s) := by
    unfold frameR
    rw [List.append_assoc, List.append_assoc]
    exact List.drop_left' (low_len 4 _)
  have e3 : (frameR l ++ s).drop 8 = l ++ s := by
    have : (frameR l ++ s).drop 8 = ((frameR l ++ s).drop 4).drop 4 := by rw [List.drop_drop]
    rw [this, e2]
    exact List.drop_left' (low_len 4 _)
  have e4 : ((frameR l ++ s).drop 4).take 4 = low (crc l) 4 := by rw [e2]; exact List.take_left' (low_len 4 _)
  have e5 : (l ++ s).take l.length = l := List.take_left' rfl
  have hlen : (frameR l ++ s).length = l.length + 8 + s.length := by rw [List.length_append, frameR_len]
  unfold unfR
  rw [e1, hlow, e3, e4, hcrc, e5, if_neg (by omega), if_neg (by omega), if_neg (by omega), if_neg (by simp), Nat.add_comm]

theorem both_unf (s : List UInt8) (hs : s.length ≤ maxLen) : ∃ (b : List UInt8) (n : Nat) (er : Int), Hid (∀ w, Calls Try.prog 17 #[sv s] w fun e w' => e = .returned (.tuple #[sv b, .int .i64 (n : Int), .int .i64 er]) ∧ Below w.heap.size w w') ∧ Hid (∀ w, Calls Try.prog 18 #[sv s] w fun e w' => e = .returned (.tuple #[sv b, .int .i64 (n : Int), .int .i64 er]) ∧ Below w.heap.size w w') :=
  ⟨_, _, _, Lib.hid fun w => unf_any s w hs, Lib.hid fun w => runf_any s w hs⟩

set_option maxRecDepth 100000 in
set_option maxHeartbeats 2000000 in
theorem codecframes_any (l s : List UInt8) (hl : l.length ≤ 140737488355328) (hs : s.length ≤ 140737488355328) (w : World) : Calls Try.prog 4 #[sv l, sv s] w fun e w' => e = .returned (.bool true) ∧ Below w.heap.size w w' := by
  have HL : Hid (l.length ≤ maxLen) := Lib.hid (by unfold maxLen; omega)
  have HS : Hid (s.length ≤ maxLen) := Lib.hid (by unfold maxLen; omega)
  obtain ⟨b, n, er, HU1, HU2⟩ := both_unf s HS.out
  by_cases hf : l.length ≤ 65536
  · have HF : Hid (frameV l = .tuple #[sv (frameR l), .int .i64 0]) := Lib.hid (frameV_ok hf)
    have HU := Lib.hid (unf_frame l s hf)
    have hlen := frameR_len l
    have HC : Hid ((frameR l ++ s).length ≤ maxLen) := Lib.hid (by unfold maxLen; rw [List.length_append]; omega)
    obtain ⟨F, hF⟩ : ∃ F, frameR l = F := ⟨_, rfl⟩
    obtain ⟨X, hX⟩ : ∃ X, F ++ s = X := ⟨_, rfl⟩
    have hcat : ∀ w0, (Op.stringOp .add ⟨F.toArray⟩ ⟨s.toArray⟩).run Try.prog w0 = .ok (.string ⟨X.toArray⟩) w0 := fun w0 => by rw [run_cat _ _ (by rw [← hF]; omega), hX]
    rw [hF] at HF HU HC hlen
    rw [hX] at HU HC
    have hFl : F.length = l.length + 8 := hlen
    have e8 : ((F.length : Nat) : Int) = (l.length : Int) + 8 := by omega
    have HE := Lib.hid e8
    clear hF hX hlen hFl e8 hl hs
    go_enter Try.func4, Try.ntmps4
    go_wp2_with fail
    refine (awake_any _).mono ?_
    rintro e w1 ⟨rfl, hb1⟩
    have B1 := Lib.hid hb1
    clear hb1
    go_wp2_with fail
    refine (frame_any l _ HL.out).mono ?_
    rw [show Framed l w1 = fun e w' => e = .returned (frameV l) ∧ Below w1.heap.size w1 w' from rfl, HF.out]
    rintro e w2 ⟨rfl, hb2⟩
    have B2 := Lib.hid (B1.out.trans (hb2.mono B1.out.size))
    clear hb2 B1
    go_wp2_with fail
    refine (rframe_any l _ HL.out).mono ?_
    rw [show Framed l w2 = fun e w' => e = .returned (frameV l) ∧ Below w2.heap.size w2 w' from rfl, HF.out]
    rintro e w3 ⟨rfl, hb3⟩
    have B3 := Lib.hid (B2.out.trans (hb3.mono B2.out.size))
    clear hb3 B2
    go_wp2_with fail
    refine (HU1.out _).mono ?_
    rintro e w4 ⟨rfl, hb4⟩
    have B4 := Lib.hid (B3.out.trans (hb4.mono B3.out.size))
    clear hb4 B3
    go_wp2_with fail
    refine (HU2.out _).mono ?_
    rintro e w5 ⟨rfl, hb5⟩
    have B5 := Lib.hid (B4.out.trans (hb5.mono B4.out.size))
    clear hb5 B4
    go_wp2_with fail
    refine (unf_any X _ HC.out).mono ?_
    unfold Unf
    rw [HU.out]
    rintro e w6 ⟨rfl, hb6⟩
    have B6 := Lib.hid (B5.out.trans (hb6.mono B5.out.size))
    clear hb6 B5
    have hee := HE.out
    go_wp2
    go_ret
    exact ⟨rfl, B6.out⟩
  · have HF : Hid (frameV l = .tuple #[.string ByteArray.empty, .int .i64 23]) := Lib.hid (frameV_no hf)
    clear hl hs hf
    go_enter Try.func4, Try.ntmps4
    go_wp2_with fail
    refine (awake_any _).mono ?_
    rintro e w1 ⟨rfl, hb1⟩
    have B1 := Lib.hid hb1
    clear hb1
    go_wp2_with fail
    refine (frame_any l _ HL.out).mono ?_
    rw [show Framed l w1 = fun e w' => e = .returned (frameV l) ∧ Below w1.heap.size w1 w' from rfl, HF.out]
    rintro e w2 ⟨rfl, hb2⟩
    have B2 := Lib.hid (B1.out.trans (hb2.mono B1.out.size))
    clear hb2 B1
    go_wp2_with fail
    refine (rframe_any l _ HL.out).mono ?_
    rw [show Framed l w2 = fun e w' => e = .returned (frameV l) ∧ Below w2.heap.size w2 w' from rfl, HF.out]
    rintro e w3 ⟨rfl, hb3⟩
    have B3 := Lib.hid (B2.out.trans (hb3.mono B2.out.size))
    clear hb3 B2
    go_wp2_with fail
    refine (HU1.out _).mono ?_
    rintro e w4 ⟨rfl, hb4⟩
    have B4 := Lib.hid (B3.out.trans (hb4.mono B3.out.size))
    clear hb4 B3
    go_wp2_with fail
    refine (HU2.out _).mono ?_
    rintro e w5 ⟨rfl, hb5⟩
    have B5 := Lib.hid (B4.out.trans (hb5.mono B4.out.size))
    clear hb5 B4
    go_wp2
    go_ret
    exact ⟨rfl, B5.out⟩
end Go.Proofs.Ytjhjcdfhfjeogaa
