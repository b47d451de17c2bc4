/- pieces: segment by segment, for either closure. -/
import Derived.Test.YtmaeejojmbibnaaG2
namespace Go.Proofs.Ytmaeejojmbibnaa
open Go.RowKit Go.Maps
set_option linter.unusedVariables false

def Step45 (s : Nat) (Q : SRp) (S : FS) (hi : Nat) (x1 x2 x3 : Value) (I : Nat → World → Prop) (p : Nat) (wx : World) : Prop :=
  Calls Try.prog 45 #[.agg #[.slice (some ⟨Q.sa (p / 256), 0, none⟩) S.K S.K, .slice (some ⟨Q.sb (p / 256), 0, none⟩) S.M S.M], .int .i64 (p % 256 : Nat), .int .i64 (p % 256 + min (hi - p) (256 - p % 256) : Nat), x1, x2, x3] wx fun e w' => e = .returned (.tuple #[]) ∧ I (p + min (hi - p) (256 - p % 256)) w'
set_option maxRecDepth 100000 in
set_option maxHeartbeats 2000000 in
theorem pieces45 (s : Nat) (Q : SRp) (S : FS) (w : World) (I : Nat → World → Prop) (lo hi : Nat) (x1 x2 x3 : Value) (hlh : lo ≤ hi) (hhi : hi ≤ S.G * 256) (hG : S.G ≤ 1001) (hA : ∀ p wx, I p wx → SAt wx s Q S)
    (hC : ∀ p wx, I p wx → lo ≤ p → p < hi → Step45 s Q S hi x1 x2 x3 I p wx) (h0 : I lo w) :
    Calls Try.prog 38 #[.pointer (some ⟨s, 0, none⟩), .int .i64 lo, .int .i64 hi, .func (.func 45) #[] #[x1, x2, x3]] w fun e w' => e = .returned (.tuple #[]) ∧ I hi w' := by
  have HA := Lib.hid hA
  have HC := Lib.hid hC
  have H0 := Lib.hid h0
  have hhi2 : hi ≤ 300000 := by omega
  clear hA hC h0
  go_enter Try.func38, Try.ntmps38
  go_wp2
  go_loopw [1] (fun lv wr => ∃ p : Nat, lv = .int .i64 p ∧ lo ≤ p ∧ p ≤ hi ∧ Hid (I p wr)) (fun lv _ => hi - (intOf lv).toNat)
  case atStart => exact ⟨lo, rfl, by omega, hlh, H0⟩
  case round =>
    obtain ⟨p, rfl, hl, hp, HI⟩ := hrel
    by_cases hlt : p < hi
    · have ha := HA.out p _ HI.out
      have hq : p / 256 < S.G := by omega
      obtain ⟨b, c, ev, k0, k1⟩ := ha.seg hq
      have cv := ha.cells.2.2.1
      rw [ev] at cv
      have HS := Lib.hid (HC.out p _ HI.out hl hlt)
      unfold Step45 at HS
      obtain ⟨m, hm⟩ : ∃ m : Nat, p % 256 = m := ⟨_, rfl⟩
      obtain ⟨q, hqe⟩ : ∃ q : Nat, p / 256 = q := ⟨_, rfl⟩
      obtain ⟨mm, hmm⟩ : ∃ mm : Nat, min (hi - p) (256 - m) = mm := ⟨_, rfl⟩
      rw [hm, hqe, hmm] at HS
      rw [hqe] at k0 k1 hq
      have hmod : (p : Int) % 256 = (m : Int) := by omega
      have hdiv : (p : Int) / 256 = (q : Int) := by omega
      have hmin : min ((hi : Int) - (p : Int)) (256 - (m : Int)) = (mm : Int) := by omega
      have hm2 : m < 256 := by omega
      have hm3 : mm ≤ 256 := by omega
      have hm4 : 1 ≤ mm := by omega
      have hm5 : p + mm ≤ hi := by omega
      have hm6 : m + mm ≤ 256 := by omega
      have HS' : Hid (Calls Try.prog 45 #[.agg #[.slice (some ⟨Q.sa q, 0, none⟩) S.K S.K, .slice (some ⟨Q.sb q, 0, none⟩) S.M S.M], .int .i64 (m : Int), .int .i64 ((m : Int) + (mm : Int)), x1, x2, x3] _ fun e w' => e = .returned (.tuple #[]) ∧ I (p + mm) w') := Lib.hid (by have h := HS.out; rw [Int.natCast_add] at h; exact h)
      generalize Q.sa q = sa at *
      generalize Q.sb q = sb at *
      clear HS ha ev hm hqe hmm HA HC
      go_wp2_with (go_at_call 45; refine HS'.out.mono ?_; rintro e w2 ⟨rfl, h2⟩; have HI2 := Lib.hid h2; clear h2)
      go_roundw
      case rel => exact ⟨p + mm, by go_num, by omega, by omega, HI2⟩
      case measure => simp [intOf]; omega
    · obtain rfl : p = hi := by omega
      go_wp2
      go_end0
      exact ⟨rfl, HI.out⟩

def Step39 (s : Nat) (Q : SRp) (S : FS) (hi : Nat) (x1 x2 : Value) (I : Nat → World → Prop) (p : Nat) (wx : World) : Prop :=
  Calls Try.prog 39 #[.agg #[.slice (some ⟨Q.sa (p / 256), 0, none⟩) S.K S.K, .slice (some ⟨Q.sb (p / 256), 0, none⟩) S.M S.M], .int .i64 (p % 256 : Nat), .int .i64 (p % 256 + min (hi - p) (256 - p % 256) : Nat), x1, x2] wx fun e w' => e = .returned (.tuple #[]) ∧ I (p + min (hi - p) (256 - p % 256)) w'
set_option maxRecDepth 100000 in
set_option maxHeartbeats 2000000 in
theorem pieces39 (s : Nat) (Q : SRp) (S : FS) (w : World) (I : Nat → World → Prop) (lo hi : Nat) (x1 x2 : Value) (hlh : lo ≤ hi) (hhi : hi ≤ S.G * 256) (hG : S.G ≤ 1001) (hA : ∀ p wx, I p wx → SAt wx s Q S)
    (hC : ∀ p wx, I p wx → lo ≤ p → p < hi → Step39 s Q S hi x1 x2 I p wx) (h0 : I lo w) :
    Calls Try.prog 38 #[.pointer (some ⟨s, 0, none⟩), .int .i64 lo, .int .i64 hi, .func (.func 39) #[] #[x1, x2]] w fun e w' => e = .returned (.tuple #[]) ∧ I hi w' := by
  have HA := Lib.hid hA
  have HC := Lib.hid hC
  have H0 := Lib.hid h0
  have hhi2 : hi ≤ 300000 := by omega
  clear hA hC h0
  go_enter Try.func38, Try.ntmps38
  go_wp2
  go_loopw [1] (fun lv wr => ∃ p : Nat, lv = .int .i64 p ∧ lo ≤ p ∧ p ≤ hi ∧ Hid (I p wr)) (fun lv _ => hi - (intOf lv).toNat)
  case atStart => exact ⟨lo, rfl, by omega, hlh, H0⟩
  case round =>
    obtain ⟨p, rfl, hl, hp, HI⟩ := hrel
    by_cases hlt : p < hi
    · have ha := HA.out p _ HI.out
      have hq : p / 256 < S.G := by omega
      obtain ⟨b, c, ev, k0, k1⟩ := ha.seg hq
      have cv := ha.cells.2.2.1
      rw [ev] at cv
      have HS := Lib.hid (HC.out p _ HI.out hl hlt)
      unfold Step39 at HS
      obtain ⟨m, hm⟩ : ∃ m : Nat, p % 256 = m := ⟨_, rfl⟩
      obtain ⟨q, hqe⟩ : ∃ q : Nat, p / 256 = q := ⟨_, rfl⟩
      obtain ⟨mm, hmm⟩ : ∃ mm : Nat, min (hi - p) (256 - m) = mm := ⟨_, rfl⟩
      rw [hm, hqe, hmm] at HS
      rw [hqe] at k0 k1 hq
      have hmod : (p : Int) % 256 = (m : Int) := by omega
      have hdiv : (p : Int) / 256 = (q : Int) := by omega
      have hmin : min ((hi : Int) - (p : Int)) (256 - (m : Int)) = (mm : Int) := by omega
      have hm2 : m < 256 := by omega
      have hm3 : mm ≤ 256 := by omega
      have hm4 : 1 ≤ mm := by omega
      have hm5 : p + mm ≤ hi := by omega
      have hm6 : m + mm ≤ 256 := by omega
      have HS' : Hid (Calls Try.prog 39 #[.agg #[.slice (some ⟨Q.sa q, 0, none⟩) S.K S.K, .slice (some ⟨Q.sb q, 0, none⟩) S.M S.M], .int .i64 (m : Int), .int .i64 ((m : Int) + (mm : Int)), x1, x2] _ fun e w' => e = .returned (.tuple #[]) ∧ I (p + mm) w') := Lib.hid (by have h := HS.out; rw [Int.natCast_add] at h; exact h)
      generalize Q.sa q = sa at *
      generalize Q.sb q = sb at *
      clear HS ha ev hm hqe hmm HA HC
      go_wp2_with (go_at_call 39; refine HS'.out.mono ?_; rintro e w2 ⟨rfl, h2⟩; have HI2 := Lib.hid h2; clear h2)
      go_roundw
      case rel => exact ⟨p + mm, by go_num, by omega, by omega, HI2⟩
      case measure => simp [intOf]; omega
    · obtain rfl : p = hi := by omega
      go_wp2
      go_end0
      exact ⟨rfl, HI.out⟩

end Go.Proofs.Ytmaeejojmbibnaa
