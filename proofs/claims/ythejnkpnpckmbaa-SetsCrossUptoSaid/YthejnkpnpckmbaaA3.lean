/- The document's own: bit, has, union, Of. -/
import Derived.Test.YthejnkpnpckmbaaA2
namespace Go.Proofs.Ythejnkpnpckmbaa
open Go.RowKit Go.Maps
set_option linter.unusedVariables false

set_option maxRecDepth 100000 in
theorem rbit_any (k : Nat) (hk : k < 6) (w : World) : Calls Try.prog 18 #[.int .i64 (k : Int)] w (TellsI ((2 ^ k : Nat) : Int) w) := by
  go_enter Try.func18, Try.ntmps18
  go_wp2_with fail
  go_loopg [3, 4] k (fun g r3 r4 wr => Hid (∃ j p : Nat, r4 = .int .i64 (j : Nat) ∧ j + g = k ∧ r3 = .int .i64 (p : Int) ∧ p = 2 ^ j ∧ Fr No w wr))
  case atStart => exact Lib.hid ⟨0, 1, rfl, by omega, rfl, rfl, Fr.refl _ _⟩
  case round =>
  obtain ⟨j, p, rfl, hjk, rfl, hp, hf⟩ := hrel.out
  clear hrel
  have hp64 : p < 128 := by rw [hp]; exact Nat.lt_of_lt_of_le (Nat.pow_lt_pow_right (by decide) (show j < 7 by omega)) (by decide)
  have HF := Lib.hid hf
  have HP := Lib.hid hp
  clear hf hp
  by_cases hj : j < k
  · have hji : (j : Int) < (k : Int) := by omega
    go_wp2_with fail
    obtain ⟨g1, rfl⟩ : ∃ g1, gk = g1 + 1 := ⟨gk - 1, by omega⟩
    go_roundg g1
    case rel => exact Lib.hid ⟨j + 1, p * 2, by go_num, by omega, by go_num, by rw [HP.out, Nat.pow_succ], HF.out⟩
    all_goals omega
  · have hji : (k : Int) ≤ (j : Int) := by omega
    have HT : Hid (p = 2 ^ k) := Lib.hid (by rw [HP.out, show j = k by omega])
    go_wp2_with fail
    go_ret
    exact ⟨by rw [HT.out]; rfl, HF.out⟩
def hasB (s k : Nat) : Bool := s / 2 ^ k % 2 == 1
set_option maxRecDepth 100000 in
theorem has_any (s k : Nat) (hs : s < 64) (hk : k < 6) (w : World) : Calls Try.prog 16 #[.int .i64 (s : Int), .int .i64 (k : Int)] w (TellsB (hasB s k) w) := by
  have HB := Lib.hid (rbit_any k hk w)
  obtain ⟨b, hb⟩ : ∃ b, 2 ^ k = b := ⟨_, rfl⟩
  have hb0 : 0 < b := by rw [← hb]; exact Nat.pow_pos (by decide)
  have hb64 : b < 64 := by rw [← hb]; exact Nat.lt_of_lt_of_le (Nat.pow_lt_pow_right (by decide) hk) (by decide)
  rw [hb] at HB
  unfold hasB
  rw [hb]
  obtain ⟨q, hq⟩ : ∃ q, s / b = q := ⟨_, rfl⟩
  have hq64 : q < 64 := by rw [← hq]; exact Nat.lt_of_le_of_lt (Nat.div_le_self _ _) hs
  have hdiv : Int.tdiv (s : Int) (b : Int) = (q : Int) := by rw [← hq]; rfl
  have hdm : Int.tmod (q : Int) 2 = ((q % 2 : Nat) : Int) := rfl
  have hbne : ((b : Int) == 0) = false := by simp; omega
  rw [hq]
  obtain ⟨m, hm⟩ : ∃ m, q % 2 = m := ⟨_, rfl⟩
  rw [hm] at hdm ⊢
  have HV : Hid ((m == 1) = decide ((m : Int) = 1)) := Lib.hid (by rw [Bool.eq_iff_iff]; simp; omega)
  clear hb hq hm
  go_enter Try.func16, Try.ntmps16
  go_wp2_with (go_at_call 18; refine HB.out.mono ?_; rintro e w1 ⟨rfl, f1⟩; have HF1 := Lib.hid f1; clear f1)
  go_ret
  exact ⟨ret_bool (by rw [HV.out]; rfl), HF1.out⟩
end Go.Proofs.Ythejnkpnpckmbaa
