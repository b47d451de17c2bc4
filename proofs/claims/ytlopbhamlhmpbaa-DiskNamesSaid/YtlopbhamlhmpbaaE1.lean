/- The reference's own rule for names. -/
import Derived.Test.YtlopbhamlhmpbaaC9
import Derived.Deep.DeepCutAuto
namespace Go.Proofs.Ytlopbhamlhmpbaa
open Go.RowKit
set_option linter.unusedVariables false

set_option maxHeartbeats 1000000 in
theorem isFile_any (s : ByteArray) (w : World) (hs : s.size ≤ maxLen) :
    Calls Try.prog 28 #[.string s] w fun e w' => e = .returned (.bool (nameOk s.data.toList)) ∧ w = w' := by
  unfold maxLen at hs
  have hl : s.data.toList.length = s.size := by simp
  have HL := Lib.hid hl
  clear hl
  by_cases h0 : 1 ≤ s.size
  · by_cases h32 : s.size ≤ 32
    · go_enter Try.func28, Try.ntmps28
      go_wp2
      go_loop [3] (fun i => ∃ k : Nat, k ≤ s.size ∧ i = .int .i64 k ∧ NamesTo s k) (fun i => s.size - (intOf i).toNat)
      case atStart => exact ⟨0, Nat.zero_le _, rfl, fun j hj hk => by omega⟩
      case round =>
        obtain ⟨k, hk, rfl, H⟩ := hrel
        by_cases hlt : k < s.size
        · have hb := u8_lt s[k]
          go_upto_region 7 with fail
          go_cut [4, 48] (fun _ b wx => w = wx ∧ b = .bool (!nameByte (s[k].toNat : Int)))
          case first =>
            go_wp2_with fail
            all_goals go_meet
            all_goals refine ⟨rfl, congrArg Value.bool ?_⟩
            all_goals (unfold nameByte; rw [Bool.eq_iff_iff]; simp; try omega)
          case rest =>
          obtain ⟨rfl, rfl⟩ := hcut
          cases hn : nameByte (s[k].toNat : Int) with
          | false =>
            go_wp2
            go_ret
            refine ⟨ret_bool ?_, rfl⟩
            have hl := HL.out
            exact (nameOk_no (k := k) (by omega) hn).symm
          | true =>
            go_wp2
            refine ⟨⟨k + 1, by omega, by go_num, fun j hj hjk => ?_⟩, by simp [intOf]; omega⟩
            by_cases e : j = k
            · subst e; exact hn
            · exact H j hj (by omega)
        · go_wp2
          go_ret
          refine ⟨ret_bool ?_, rfl⟩
          have hl := HL.out
          rw [nameOk_yes (by omega) (by omega) (fun j hj => H j hj (by omega))]
    · go_enter Try.func28, Try.ntmps28
      go_wp2
      go_ret
      refine ⟨ret_bool ?_, rfl⟩
      have hl := HL.out
      unfold nameOk
      simp only [hl]
      simp; omega
  · go_enter Try.func28, Try.ntmps28
    go_wp2
    go_ret
    refine ⟨ret_bool ?_, rfl⟩
    have hl := HL.out
    unfold nameOk
    simp only [hl]
    simp; omega

end Go.Proofs.Ytlopbhamlhmpbaa
