/- IsName; awake; lists compared; a word as it stands. -/
import Derived.Test.YtpdfenpmnpoehaaGreatDoorXC1
namespace Go.Proofs.YtpdfenpmnpoehaaGreatDoor
open Go.RowKit Go.Maps
set_option linter.unusedVariables false

def nameB (l : Tx) : Bool := decide (l.length ≤ 32 ∧ firstB l = 2 ∧ runB goB l = l.length ∧ ¬ l.map capB ∈ kws)
def QuietB (b : Bool) (w : World) (e : Ending) (w' : World) : Prop := e = .returned (.bool b) ∧ ∃ n, w' = w.drewN n
set_option maxRecDepth 100000 in
set_option maxHeartbeats 1000000 in
theorem isName_any (s : ByteArray) (w : World) (hL : Lr w) (hs : s.size ≤ maxLen) : Calls Tryz.prog 40 #[.string s] w (QuietB (nameB s.data.toList) w) := by
  have HF := Lib.hid (first_any s w hL)
  have HR := Lib.hid (run_goes s w hL hs)
  have HK := Lib.hid (isKeyword_any s w hL hs)
  have hV : nameB s.data.toList = decide (s.size ≤ 32 ∧ firstB s.data.toList = 2 ∧ runB goB s.data.toList = s.size ∧ ¬ s.data.toList.map capB ∈ kws) := by unfold nameB; rw [len_data]
  have hle := runB_le goB s.data.toList
  rw [len_data] at hle
  rw [hV]
  clear hL hV
  unfold maxLen at hs
  obtain ⟨K, hK⟩ : ∃ K, decide (s.data.toList.map capB ∈ kws) = K := ⟨_, rfl⟩
  rw [hK] at HK
  have hK2 : (s.data.toList.map capB ∈ kws) ↔ K = true := by rw [← hK]; simp
  generalize firstB s.data.toList = F at *
  generalize runB goB s.data.toList = R at *
  clear hK
  by_cases h1 : s.size ≤ 32
  · by_cases h2 : F = 2
    · subst h2
      by_cases h3 : R = s.size
      · have h3' : ((R : Int) == (s.size : Int)) = true := by simp; omega
        have HV : Hid (decide (s.size ≤ 32 ∧ (2 : Nat) = 2 ∧ R = s.size ∧ ¬ s.data.toList.map capB ∈ kws) = !K) := Lib.hid (by
          cases K with
          | true => simp [hK2]
          | false => simp [hK2, h1, h3])
        clear hK2 h3
        go_enter Tryz.func40, Tryz.ntmps40
        go_wp2_with (first | (go_at_call 51; refine HF.out.mono ?_; rintro e w' ⟨rfl, rfl⟩) | (go_at_call 48; refine HR.out.mono ?_; rintro e w' ⟨rfl, rfl⟩) | (go_at_call 93; refine HK.out.mono ?_; rintro e w' ⟨rfl, q, rfl⟩))
        go_ret
        exact ⟨ret_bool (by rw [HV.out]), _, rfl⟩
      · have h3' : ((R : Int) == (s.size : Int)) = false := by simp; omega
        have HV : Hid (decide (s.size ≤ 32 ∧ (2 : Nat) = 2 ∧ R = s.size ∧ ¬ s.data.toList.map capB ∈ kws) = false) := Lib.hid (by simp [h3])
        clear hK2 h3
        go_enter Tryz.func40, Tryz.ntmps40
        go_wp2_with (first | (go_at_call 51; refine HF.out.mono ?_; rintro e w' ⟨rfl, rfl⟩) | (go_at_call 48; refine HR.out.mono ?_; rintro e w' ⟨rfl, rfl⟩) | (go_at_call 93; refine HK.out.mono ?_; rintro e w' ⟨rfl, q, rfl⟩))
        go_ret
        exact ⟨ret_bool (by first | rfl | rw [HV.out]), 0, rfl⟩
    · have h2' : ((F : Int) == 2) = false := by simp; omega
      have HV : Hid (decide (s.size ≤ 32 ∧ F = 2 ∧ R = s.size ∧ ¬ s.data.toList.map capB ∈ kws) = false) := Lib.hid (by simp [h2])
      clear hK2 h2
      go_enter Tryz.func40, Tryz.ntmps40
      go_wp2_with (first | (go_at_call 51; refine HF.out.mono ?_; rintro e w' ⟨rfl, rfl⟩) | (go_at_call 48; refine HR.out.mono ?_; rintro e w' ⟨rfl, rfl⟩) | (go_at_call 93; refine HK.out.mono ?_; rintro e w' ⟨rfl, q, rfl⟩))
      go_ret
      exact ⟨ret_bool (by first | rfl | rw [HV.out]), 0, rfl⟩
  · have HV : Hid (decide (s.size ≤ 32 ∧ F = 2 ∧ R = s.size ∧ ¬ s.data.toList.map capB ∈ kws) = false) := Lib.hid (by simp [h1])
    clear hK2
    go_enter Tryz.func40, Tryz.ntmps40
    go_wp2_with (first | (go_at_call 51; refine HF.out.mono ?_; rintro e w' ⟨rfl, rfl⟩) | (go_at_call 48; refine HR.out.mono ?_; rintro e w' ⟨rfl, rfl⟩) | (go_at_call 93; refine HK.out.mono ?_; rintro e w' ⟨rfl, q, rfl⟩))
    go_ret
    exact ⟨ret_bool (by first | rfl | rw [HV.out]), 0, rfl⟩

/-! ### lists compared -/
end Go.Proofs.YtpdfenpmnpoehaaGreatDoor
