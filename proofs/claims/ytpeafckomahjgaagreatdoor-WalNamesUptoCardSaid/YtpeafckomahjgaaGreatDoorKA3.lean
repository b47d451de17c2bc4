/- The document's own check, walked. -/
import Derived.Test.YtpeafckomahjgaaGreatDoorKA2
import Derived.Test.YtpeafckomahjgaaGreatDoorKM1
import Derived.Laws.BitsAllLaws
import Derived.IntWalk
import Derived.Deep.LoopGhost
namespace Go.Proofs.YtpeafckomahjgaaGreatDoor
open Go.RowKit Go.Maps
set_option linter.unusedVariables false

def u32V (n : Nat) : Value := .int .u32 (n : Int)
theorem ret_u32 {a b : Int} (h : a = b) : Ending.returned (.int .u32 a) = Ending.returned (.int .u32 b) := by rw [h]

/-- What a walk needs of one step: its own spellings, all numbers opaque. -/
theorem step_facts (x : Nat) (hx : x < 2 ^ 32) : ∃ y z : Nat, ((x : Int) / 2 = (y : Int)) ∧ bits .xor .u32 (y : Int) 3988292384 = (z : Int) ∧ ((bits .and .u32 (x : Int) 1 = 0 ∧ stp x = y) ∨ (bits .and .u32 (x : Int) 1 = 1 ∧ stp x = z)) := by
  refine ⟨x / 2, (x / 2) ^^^ 3988292384, by omega, u32_xor_nat (x / 2) 3988292384 (by omega) (by decide), ?_⟩
  have ha : bits .and .u32 (x : Int) 1 = ((x &&& 1 : Nat) : Int) := u32_and_nat x 1 (by omega) (by omega)
  rw [Nat.and_one_is_mod] at ha
  have hm : x % 2 = 0 ∨ x % 2 = 1 := by omega
  rcases hm with hm | hm
  · exact .inl ⟨by rw [ha, hm]; rfl, by unfold stp; rw [hm]; simp⟩
  · exact .inr ⟨by rw [ha, hm]; rfl, by unfold stp; rw [hm, Nat.one_mul]; rfl⟩
theorem xor_fact (a b : Nat) (ha : a < 2 ^ 32) (hb : b < 2 ^ 32) : ∃ z : Nat, z = a ^^^ b ∧ bits .xor .u32 (a : Int) (b : Int) = (z : Int) := ⟨_, rfl, u32_xor_nat _ _ (by omega) (by omega)⟩

theorem xor_ones (a : Nat) (ha : a < 2 ^ 32) : ∃ z : Nat, z = a ^^^ 4294967295 ∧ bits .xor .u32 (a : Int) 4294967295 = (z : Int) := ⟨_, rfl, u32_xor_nat a 4294967295 (by omega) (by decide)⟩

set_option maxHeartbeats 1000000 in
/-- The document's Sum. -/
theorem rsum_any (s : ByteArray) (w : World) (hs : s.size ≤ maxLen) :
    Calls Tryz.prog 124 #[.string s] w fun e w' => e = .returned (.int .u32 (crc s.data.toList : Nat)) ∧ w = w' := by
  unfold maxLen at hs
  go_enter Tryz.func124, Tryz.ntmps124
  go_wp2
  go_loop [3, 4] (fun c i => ∃ k : Nat, k ≤ s.size ∧ i = .int .i64 k ∧ c = .int .u32 (runc 4294967295 (s.data.toList.take k) : Nat)) (fun _ i => s.size - (intOf i).toNat)
  case atStart => exact ⟨0, Nat.zero_le _, rfl, rfl⟩
  case round =>
    obtain ⟨k, hk, rfl, rfl⟩ := hrel
    have hc := runc_lt (s.data.toList.take k) (c := 4294967295) (by decide)
    by_cases hlt : k < s.size
    · have hts : s.data.toList.take (k + 1) = s.data.toList.take k ++ [s[k]] := by rw [List.take_succ_eq_append_getElem (by simpa using hlt)]; rfl
      have hb : s[k].toNat < 256 := s[k].toNat_lt
      have hv : runc 4294967295 (s.data.toList.take (k + 1)) = stn 8 (runc 4294967295 (s.data.toList.take k) ^^^ s[k].toNat) := by rw [hts, runc_snoc]; rfl
      have HV := Lib.hid hv
      clear hv hts
      generalize runc 4294967295 (s.data.toList.take k) = c at *
      obtain ⟨x, hx, hxx⟩ := xor_fact c s[k].toNat hc (by omega)
      have hxl : x < 2 ^ 32 := by rw [hx]; exact Nat.xor_lt_two_pow hc (by omega)
      have HX := Lib.hid hx
      clear hx
      go_wp2
      go_loop [3, 5] (fun c i => ∃ j : Nat, j ≤ 8 ∧ i = .int .i64 j ∧ c = .int .u32 (stn j x : Nat)) (fun _ i => 8 - (intOf i).toNat)
      case atStart => exact ⟨0, Nat.zero_le _, rfl, rfl⟩
      case round =>
        obtain ⟨j, hj, rfl, rfl⟩ := hrel
        by_cases hl : j < 8
        · have hst := stn_last j x
          have HS := Lib.hid hst
          have hcl : stn j x < 2 ^ 32 := stn_lt hxl
          clear hst
          generalize stn j x = q at *
          obtain ⟨y, z, h1, h2, h3⟩ := step_facts q hcl
          rcases h3 with ⟨h3, h4⟩ | ⟨h3, h4⟩
          · have H4 := Lib.hid h4
            clear h4
            go_wp2
            go_round
            case rel => exact ⟨j + 1, by omega, by go_num, by rw [HS.out, H4.out]⟩
            case measure => simp [intOf]; omega
          · have H4 := Lib.hid h4
            clear h4
            go_wp2
            go_round
            case rel => exact ⟨j + 1, by omega, by go_num, by rw [HS.out, H4.out]⟩
            case measure => simp [intOf]; omega
        · obtain rfl : j = 8 := by omega
          go_wp2
          go_round
          case rel => exact ⟨k + 1, by omega, by go_num, by rw [HV.out, HX.out]⟩
          case measure => simp [intOf]; omega
    · obtain ⟨z, hz, hzz⟩ := xor_ones _ hc
      have hz' : z = crc s.data.toList := by rw [hz]; unfold crc; rw [List.take_of_length_le (by simp; omega)]
      have HZ := Lib.hid hz'
      clear hz' hz
      generalize runc 4294967295 (s.data.toList.take k) = c at *
      go_wp2
      go_ret
      exact ⟨ret_u32 (by rw [HZ.out]), rfl⟩
end Go.Proofs.YtpeafckomahjgaaGreatDoor
