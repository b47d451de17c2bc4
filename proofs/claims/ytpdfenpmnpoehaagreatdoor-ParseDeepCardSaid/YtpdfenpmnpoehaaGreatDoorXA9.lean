/- quoted, Quote. -/
import Derived.Test.YtpdfenpmnpoehaaGreatDoorXA8
import Derived.Test.YtpdfenpmnpoehaaGreatDoorXS1
namespace Go.Proofs.YtpdfenpmnpoehaaGreatDoor
open Go.RowKit Go.Maps
set_option linter.unusedVariables false

/-- What ReplaceAll asks of room. -/
theorem count_le_len (s old : Tx) (h : 1 ≤ old.length) : Lib.count s old ≤ s.length := by
  have := Lib.countB_mul_le ⟨old.toArray⟩ (by rw [← len_data]; exact h) s.length ⟨s.toArray⟩ (by rw [← len_data]; exact Nat.le_refl _)
  have h2 : Lib.countB ⟨s.toArray⟩ ⟨old.toArray⟩ * old.length ≤ s.length := by
    rw [← len_data, ← len_data] at this
    exact this
  have h3 : Lib.countB ⟨s.toArray⟩ ⟨old.toArray⟩ = Lib.count s old := rfl
  rw [h3] at h2
  calc Lib.count s old = Lib.count s old * 1 := (Nat.mul_one _).symm
    _ ≤ Lib.count s old * old.length := Nat.mul_le_mul_left _ h
    _ ≤ s.length := h2
theorem replHalf_any (s : ByteArray) (w : World) (hL : Lr w) (hs : s.size ≤ 4096) :
    Calls Tryz.prog 112 #[.string s, .string ⟨#[39, 39]⟩, .string ⟨#[39]⟩] w fun e w' => e = .returned (.string ⟨(half s.data.toList).toArray⟩) ∧ Below w.heap.size w w' := by
  obtain ⟨m, hm⟩ := hL.ml
  have hc : Lib.countB s ⟨#[39, 39]⟩ ≤ s.size := by
    have := count_le_len s.data.toList [39, 39] (by decide)
    rw [len_data] at this
    exact this
  refine (Tryz.strings_ReplaceAll s ⟨#[39, 39]⟩ ⟨#[39]⟩ m w (by omega) hm (by decide) ?_).mono ?_
  · show s.size + Lib.countB s ⟨#[39, 39]⟩ * 1 ≤ _
    omega
  · rintro e w' ⟨rfl, hb⟩
    exact ⟨by rw [← replace_half], hb⟩
theorem replDbl_any (s : ByteArray) (w : World) (hL : Lr w) (hs : s.size ≤ 4000000000) :
    Calls Tryz.prog 112 #[.string s, .string ⟨#[39]⟩, .string ⟨#[39, 39]⟩] w fun e w' => e = .returned (.string ⟨(dbl s.data.toList).toArray⟩) ∧ Below w.heap.size w w' := by
  obtain ⟨m, hm⟩ := hL.ml
  have hc : Lib.countB s ⟨#[39]⟩ ≤ s.size := by
    have := count_le_len s.data.toList [39] (by decide)
    rw [len_data] at this
    exact this
  refine (Tryz.strings_ReplaceAll s ⟨#[39]⟩ ⟨#[39, 39]⟩ m w (by omega) hm (by decide) ?_).mono ?_
  · show s.size + Lib.countB s ⟨#[39]⟩ * 2 ≤ _
    omega
  · rintro e w' ⟨rfl, hb⟩
    exact ⟨by rw [← replace_dbl], hb⟩
end Go.Proofs.YtpdfenpmnpoehaaGreatDoor
