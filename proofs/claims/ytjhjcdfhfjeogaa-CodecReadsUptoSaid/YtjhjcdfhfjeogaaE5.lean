/- CodecTurned, whole. -/
import Derived.Test.YtjhjcdfhfjeogaaE4
namespace Go.Proofs.Ytjhjcdfhfjeogaa
open Go.RowKit Go.Maps
set_option linter.unusedVariables false

theorem frame_at (l : List UInt8) (q : Nat) (hq : q < l.length) (h : 8 + q < (frameR l).length) : (frameR l)[8 + q] = l[q] := by
  have hh : (low l.length 4 ++ low (crc l) 4).length = 8 := by simp [low_len]
  have e : frameR l = low l.length 4 ++ low (crc l) 4 ++ l := rfl
  rw [List.getElem_of_eq e, List.getElem_append_right (by omega)]
  congr 1; omega
theorem xor_byte (c : UInt8) (x : Nat) (hx : x < 256) (h0 : x ≠ 0) : ∃ y : UInt8, bits .xor .u8 (c.toNat : Int) (x : Int) = (y.toNat : Int) ∧ y ≠ c := by
  have hc : c.toNat < 256 := c.toNat_lt
  have hlt : c.toNat ^^^ x < 256 := Nat.xor_lt_two_pow (n := 8) hc hx
  have ht : (UInt8.ofNat (c.toNat ^^^ x)).toNat = c.toNat ^^^ x := by rw [UInt8.toNat_ofNat']; exact Nat.mod_eq_of_lt hlt
  refine ⟨UInt8.ofNat (c.toNat ^^^ x), ?_, fun h => h0 ?_⟩
  · rw [u8_xor_nat _ _ hc hx, ht]
  · have e : c.toNat ^^^ x = c.toNat := by
      have := congrArg UInt8.toNat h
      rwa [ht] at this
    have : c.toNat ^^^ x = c.toNat ^^^ 0 := by rw [e, Nat.xor_zero]
    exact xor_left_inj this

set_option maxRecDepth 100000 in
set_option maxHeartbeats 2000000 in
theorem turned_no (l : List UInt8) (a b : Value) (hl : l.length ≤ maxLen) (hf : ¬ l.length ≤ 65536) (w : World) : Calls Try.prog 5 #[sv l, a, b] w fun e w' => e = .returned (.bool true) ∧ Below w.heap.size w w' := by
  have HL := Lib.hid hl
  have HF : Hid (frameV l = .tuple #[.string ByteArray.empty, .int .i64 23]) := Lib.hid (frameV_no hf)
  clear hl hf
  go_enter Try.func5, Try.ntmps5
  go_wp2_with fail
  refine (awake_any _).mono ?_
  rintro e w1 ⟨rfl, hb1⟩
  have B1 := Lib.hid hb1
  clear hb1
  go_wp2_with fail
  refine (frame_any l _ HL.out).mono ?_
  rw [show Framed l w1 = fun e w' => e = .returned (frameV l) ∧ Below w1.heap.size w1 w' from rfl, HF.out]
  rintro e w2 ⟨rfl, hb2⟩
  have B2 := Lib.hid (B1.out.trans (hb2.mono B1.out.size))
  clear hb2 B1
  go_wp2
  go_ret
  exact ⟨rfl, B2.out⟩

theorem codecturned_any (l : List UInt8) (at_ : Int) (by_ : Nat) (hl : l.length ≤ 140737488355328) (ha : i64 at_) (hby : by_ < 256) (w : World) : Calls Try.prog 5 #[sv l, .int .i64 at_, .int .u8 (by_ : Int)] w fun e w' => e = .returned (.bool true) ∧ Below w.heap.size w w' := by
  have HL : l.length ≤ maxLen := by unfold maxLen; omega
  by_cases hf : l.length ≤ 65536
  · have HF : Hid (∀ w, Calls Try.prog 15 #[sv l] w fun e w' => e = .returned (.tuple #[sv (frameR l), .int .i64 0]) ∧ Below w.heap.size w w') := Lib.hid fun w => by
      have := frame_any l w HL
      unfold Framed at this
      rwa [frameV_ok hf] at this
    have hlen := frameR_len l
    obtain ⟨k, hk, hat⟩ := at_abs at_ ha
    have hml : k % (frameR l).length < (frameR l).length := Nat.mod_lt _ (by omega)
    obtain ⟨b1, n1, HU1⟩ := unf_err ((frameR l).take (k % (frameR l).length)) (by rw [List.length_take]; unfold maxLen; omega) 20 (unf_cutF l hf _ hml)
    have hx1 : (ByteArray.mk (frameR l).toArray).extract 0 (k % (frameR l).length) = ⟨((frameR l).take (k % (frameR l).length)).toArray⟩ := by rw [ext_list, List.drop_zero]
    by_cases h0 : l.length = 0
    · have h8 : (frameR l).length = 8 := by omega
      have hx8 := hx1
      rw [h8] at hx8 HU1
      rcases hat with ⟨hneg, hav⟩ | ⟨hpos, hav⟩
      · exact turned_neg0 l _ _ b1 at_ by_ k n1 w hneg hav hk HF HU1 h0 h8 hx8
      · exact turned_pos0 l _ _ b1 at_ by_ k n1 w hpos hav hk HF HU1 h0 h8 hx8
    · have hq : k % l.length < l.length := Nat.mod_lt _ (by omega)
      have hjF : 8 + k % l.length < (frameR l).length := by omega
      have hj : 8 + (k : Int) % (l.length : Int) = ((8 + k % l.length : Nat) : Int) := by omega
      obtain ⟨x, hxb⟩ : ∃ x, (by_ = 0 ∧ x = 1) ∨ (by_ ≠ 0 ∧ x = by_) := by
        by_cases h : by_ = 0
        · exact ⟨1, .inl ⟨h, rfl⟩⟩
        · exact ⟨by_, .inr ⟨h, rfl⟩⟩
      have hx : x < 256 ∧ x ≠ 0 := by omega
      obtain ⟨y, hy, hne⟩ := xor_byte (frameR l)[8 + k % l.length] x hx.1 hx.2
      rw [frame_at l _ hq] at hne
      have hP : (ByteArray.mk (frameR l).toArray).extract 0 (8 + k % l.length) = ⟨((frameR l).take (8 + k % l.length)).toArray⟩ := by rw [ext_list, List.drop_zero]
      have hR : (ByteArray.mk (frameR l).toArray).extract (8 + k % l.length + 1) (frameR l).length = ⟨((frameR l).drop (8 + k % l.length + 1)).toArray⟩ := by rw [ext_list, List.take_length]
      have hpl : ((frameR l).take (8 + k % l.length)).length ≤ 65544 := by rw [List.length_take]; omega
      have hrl : ((frameR l).drop (8 + k % l.length + 1)).length ≤ 65544 := by rw [List.length_drop]; omega
      obtain ⟨b2, n2, HU2⟩ := unf_err ((frameR l).take (8 + k % l.length) ++ [y] ++ (frameR l).drop (8 + k % l.length + 1)) (by unfold maxLen; simp only [List.length_append, List.length_singleton]; omega) 21 (unf_turned l hf _ hq y hne)
      have hcat1 : ∀ w0, (Op.stringOp .add ⟨((frameR l).take (8 + k % l.length)).toArray⟩ ⟨#[y]⟩).run Try.prog w0 = .ok (.string ⟨((frameR l).take (8 + k % l.length) ++ [y]).toArray⟩) w0 := fun w0 => run_cat _ [y] (by simp only [List.length_singleton]; omega) w0
      have hcat2 : ∀ w0, (Op.stringOp .add ⟨((frameR l).take (8 + k % l.length) ++ [y]).toArray⟩ ⟨((frameR l).drop (8 + k % l.length + 1)).toArray⟩).run Try.prog w0 = .ok (.string ⟨((frameR l).take (8 + k % l.length) ++ [y] ++ (frameR l).drop (8 + k % l.length + 1)).toArray⟩) w0 := fun w0 => run_cat _ _ (by simp only [List.length_append, List.length_singleton]; omega) w0
      rcases hat with ⟨hneg, hav⟩ | ⟨hpos, hav⟩
      · exact turned_neg l _ _ b1 _ _ _ _ b2 _ y at_ by_ x k _ n1 n2 w hneg hav hk HF HU1 (by omega) hf hlen hx1 hj hjF hxb hP hR rfl hy hcat1 hcat2 HU2
      · exact turned_pos l _ _ b1 _ _ _ _ b2 _ y at_ by_ x k _ n1 n2 w hpos hav hk HF HU1 (by omega) hf hlen hx1 hj hjF hxb hP hR rfl hy hcat1 hcat2 HU2
  · exact turned_no l _ _ HL hf w
end Go.Proofs.Ytjhjcdfhfjeogaa
