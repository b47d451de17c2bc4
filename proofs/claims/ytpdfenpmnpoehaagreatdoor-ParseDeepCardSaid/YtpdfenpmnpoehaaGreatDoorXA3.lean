/- Runs of bytes; keywords. -/
import Derived.Test.YtpdfenpmnpoehaaGreatDoorXA2
namespace Go.Proofs.YtpdfenpmnpoehaaGreatDoor
open Go.RowKit Go.Maps
set_option linter.unusedVariables false

def AllTo (p : UInt8 → Bool) (s : ByteArray) (k : Nat) : Prop := ∀ j (h : j < s.size), j < k → p s[j] = true
theorem AllTo.zero (p : UInt8 → Bool) (s : ByteArray) : AllTo p s 0 := fun j h hj => by omega
theorem AllTo.succ {p : UInt8 → Bool} {s : ByteArray} {k : Nat} (H : AllTo p s k) (hk : k < s.size) (h : p s[k] = true) : AllTo p s (k + 1) := by
  intro j hj hjk
  rcases Nat.lt_or_eq_of_le (Nat.le_of_lt_succ hjk) with h1 | rfl
  · exact H j hj h1
  · exact h
theorem get_data (s : ByteArray) (j : Nat) (h : j < s.size) : s.data.toList[j]'(by rw [len_data]; exact h) = s[j] := rfl
theorem runB_to {p : UInt8 → Bool} {s : ByteArray} {k : Nat} (hk : k ≤ s.size) (h1 : AllTo p s k) (h2 : ∀ h : k < s.size, p s[k] = false) : runB p s.data.toList = k :=
  runB_eq p _ k (by rw [len_data]; exact hk) (fun j h hj => h1 j (by rw [len_data] at h; exact h) hj) (fun h => h2 (by rw [len_data] at h; exact h))
theorem ext_toList (s : ByteArray) (a b : Nat) : (s.extract a b).data.toList = (s.data.toList.take b).drop a := by
  rw [ByteArray.data_extract, Array.toList_extract]
  simp [List.extract, List.drop_take]
theorem mk_toList (s : ByteArray) : (⟨s.data.toList.toArray⟩ : ByteArray) = s := by
  apply ByteArray.ext; simp
theorem mk_eq {s : ByteArray} {l : Tx} (h : s.data.toList = l) : s = ⟨l.toArray⟩ := by rw [← h, mk_toList]

set_option maxHeartbeats 1000000 in
theorem run_blank (s : ByteArray) (w : World) (hL : Lr w) (hs : s.size ≤ maxLen) :
    Calls Tryz.prog 48 #[.string s, .func (.func 50) #[] #[]] w fun e w' => e = .returned (.int .i64 (runB isBla s.data.toList : Nat)) ∧ w = w' := by
  have HK : Hid (∀ b : UInt8, Calls Tryz.prog 50 #[.int .u8 (b.toNat : Nat)] w fun e w' => e = .returned (.bool (isBla b)) ∧ w = w') := Lib.hid fun b => isBlank_any b w hL
  have HE : Hid (∀ k : Nat, k ≤ s.size → AllTo isBla s k → (∀ h : k < s.size, isBla s[k] = false) → runB isBla s.data.toList = k) := Lib.hid fun k hk h1 h2 => runB_to hk h1 h2
  clear hL
  unfold maxLen at hs
  go_enter Tryz.func48, Tryz.ntmps48
  go_wp2
  go_loop [5, 8] (fun _ i => ∃ k : Nat, k ≤ s.size ∧ i = .int .i64 k ∧ AllTo isBla s k) (fun _ i => s.size - (intOf i).toNat)
  case atStart => exact ⟨0, Nat.zero_le _, rfl, AllTo.zero _ _⟩
  case round =>
    obtain ⟨k, hk, rfl, H⟩ := hrel
    by_cases hlt : k < s.size
    · have hb := u8_lt s[k]
      go_wp2_with (go_at_call 50; refine (HK.out _).mono ?_; rintro e w' ⟨rfl, rfl⟩)
      · have hn : (!isBla s[k]) = true := by assumption
        go_ret
        exact ⟨ret_int (by rw [HE.out k (by omega) H fun _ => by simpa using hn]), rfl⟩
      · have hn : (!isBla s[k]) = false := by assumption
        refine ⟨⟨k + 1, by omega, by go_num, H.succ hlt (by simpa using hn)⟩, by simp [intOf]; omega⟩
    · obtain rfl : k = s.size := by omega
      go_wp2
      go_ret
      exact ⟨ret_int (by rw [HE.out s.size (by omega) H fun h => absurd h (by omega)]), rfl⟩

set_option maxHeartbeats 1000000 in
theorem run_digit (s : ByteArray) (w : World) (hL : Lr w) (hs : s.size ≤ maxLen) :
    Calls Tryz.prog 48 #[.string s, .func (.func 110) #[] #[]] w fun e w' => e = .returned (.int .i64 (runB isDig s.data.toList : Nat)) ∧ w = w' := by
  have HK : Hid (∀ b : UInt8, Calls Tryz.prog 110 #[.int .u8 (b.toNat : Nat)] w fun e w' => e = .returned (.bool (isDig b)) ∧ w = w') := Lib.hid fun b => isDigit_any b w hL
  have HE : Hid (∀ k : Nat, k ≤ s.size → AllTo isDig s k → (∀ h : k < s.size, isDig s[k] = false) → runB isDig s.data.toList = k) := Lib.hid fun k hk h1 h2 => runB_to hk h1 h2
  clear hL
  unfold maxLen at hs
  go_enter Tryz.func48, Tryz.ntmps48
  go_wp2
  go_loop [5, 8] (fun _ i => ∃ k : Nat, k ≤ s.size ∧ i = .int .i64 k ∧ AllTo isDig s k) (fun _ i => s.size - (intOf i).toNat)
  case atStart => exact ⟨0, Nat.zero_le _, rfl, AllTo.zero _ _⟩
  case round =>
    obtain ⟨k, hk, rfl, H⟩ := hrel
    by_cases hlt : k < s.size
    · have hb := u8_lt s[k]
      go_wp2_with (go_at_call 110; refine (HK.out _).mono ?_; rintro e w' ⟨rfl, rfl⟩)
      · have hn : (!isDig s[k]) = true := by assumption
        go_ret
        exact ⟨ret_int (by rw [HE.out k (by omega) H fun _ => by simpa using hn]), rfl⟩
      · have hn : (!isDig s[k]) = false := by assumption
        refine ⟨⟨k + 1, by omega, by go_num, H.succ hlt (by simpa using hn)⟩, by simp [intOf]; omega⟩
    · obtain rfl : k = s.size := by omega
      go_wp2
      go_ret
      exact ⟨ret_int (by rw [HE.out s.size (by omega) H fun h => absurd h (by omega)]), rfl⟩

set_option maxHeartbeats 1000000 in
theorem run_goes (s : ByteArray) (w : World) (hL : Lr w) (hs : s.size ≤ maxLen) :
    Calls Tryz.prog 48 #[.string s, .func (.func 92) #[] #[]] w fun e w' => e = .returned (.int .i64 (runB goB s.data.toList : Nat)) ∧ w = w' := by
  have HK : Hid (∀ b : UInt8, Calls Tryz.prog 92 #[.int .u8 (b.toNat : Nat)] w fun e w' => e = .returned (.bool (goB b)) ∧ w = w') := Lib.hid fun b => goesOn_any b w hL
  have HE : Hid (∀ k : Nat, k ≤ s.size → AllTo goB s k → (∀ h : k < s.size, goB s[k] = false) → runB goB s.data.toList = k) := Lib.hid fun k hk h1 h2 => runB_to hk h1 h2
  clear hL
  unfold maxLen at hs
  go_enter Tryz.func48, Tryz.ntmps48
  go_wp2
  go_loop [5, 8] (fun _ i => ∃ k : Nat, k ≤ s.size ∧ i = .int .i64 k ∧ AllTo goB s k) (fun _ i => s.size - (intOf i).toNat)
  case atStart => exact ⟨0, Nat.zero_le _, rfl, AllTo.zero _ _⟩
  case round =>
    obtain ⟨k, hk, rfl, H⟩ := hrel
    by_cases hlt : k < s.size
    · have hb := u8_lt s[k]
      go_wp2_with (go_at_call 92; refine (HK.out _).mono ?_; rintro e w' ⟨rfl, rfl⟩)
      · have hn : (!goB s[k]) = true := by assumption
        go_ret
        exact ⟨ret_int (by rw [HE.out k (by omega) H fun _ => by simpa using hn]), rfl⟩
      · have hn : (!goB s[k]) = false := by assumption
        refine ⟨⟨k + 1, by omega, by go_num, H.succ hlt (by simpa using hn)⟩, by simp [intOf]; omega⟩
    · obtain rfl : k = s.size := by omega
      go_wp2
      go_ret
      exact ⟨ret_int (by rw [HE.out s.size (by omega) H fun h => absurd h (by omega)]), rfl⟩

/-! ### keywords -/
theorem cap_of : ∀ b : UInt8, ¬ (97 ≤ b.toNat ∧ b.toNat ≤ 122) → capB b = b := all_bytes (p := fun b => ¬ (97 ≤ b.toNat ∧ b.toNat ≤ 122) → capB b = b) (by decide +kernel)
theorem cap_small : ∀ b : UInt8, 97 ≤ b.toNat → b.toNat ≤ 122 → (capB b).toNat = b.toNat - 32 := all_bytes (p := fun b => 97 ≤ b.toNat → b.toNat ≤ 122 → (capB b).toNat = b.toNat - 32) (by decide +kernel)
theorem capital_any (b : UInt8) (w : World) :
    Calls Tryz.prog 157 #[.int .u8 (b.toNat : Nat)] w fun e w' => e = .returned (.int .u8 ((capB b).toNat : Nat)) ∧ w = w' := by
  have h0 := u8_lt b
  by_cases h : 97 ≤ b.toNat
  · by_cases h2 : b.toNat ≤ 122
    · have hc := cap_small b h h2
      have HC := Lib.hid hc
      clear hc
      have e1 : IntKind.u8.wrap ((b.toNat : Int) - 97) = (b.toNat : Int) - 97 := IntWalk.u8_in _ (by omega)
      go_enter Tryz.func157, Tryz.ntmps157
      go_wp2
      go_ret
      refine ⟨?_, rfl⟩
      rw [HC.out]
      show Ending.returned (.int .u8 ((b.toNat : Int) - 97 + 65)) = _
      congr 2
      omega
    · have HC := Lib.hid (cap_of b (by omega))
      go_enter Tryz.func157, Tryz.ntmps157
      go_wp2
      go_ret
      exact ⟨by rw [HC.out]; rfl, rfl⟩
  · have HC := Lib.hid (cap_of b (by omega))
    go_enter Tryz.func157, Tryz.ntmps157
    go_wp2
    go_ret
    exact ⟨by rw [HC.out]; rfl, rfl⟩
end Go.Proofs.YtpdfenpmnpoehaaGreatDoor
