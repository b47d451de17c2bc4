/- letters, digits, sign. -/
import Derived.Test.YtpdfenpmnpoehaaGreatDoorXA6
namespace Go.Proofs.YtpdfenpmnpoehaaGreatDoor
open Go.RowKit Go.Maps
set_option linter.unusedVariables false

def StepP (B d : Nat) (s : ByteArray) (w : World) (p : Nat) (l : List Wd) (r : Tk) (e : Ending) (w' : World) : Prop :=
  e = .returned (.tuple #[]) ∧ match r with
    | .bad c on => ∃ v, Sc B d s w' v p [] c (p + on) ∧ Below B w w'
    | .good k t n => ∃ v, Sc B d s w' v (p + n) (l ++ [⟨k, t, p⟩]) 0 0 ∧ Below B w w'
theorem below_drewN (B : Nat) (w : World) (n : Nat) : Below B w (w.drewN n) := ⟨rfl, rfl, rfl, Nat.le_refl _, fun _ _ => rfl⟩
theorem step_take {B d : Nat} {s : ByteArray} {w w1 : World} {v : Value} {p : Nat} {l : List Wd} {q : Nat} (h : Sc B d s w v p l 0 0) (hw : w.drewN q = w1) (k n : Nat) (t : ByteArray) (hk : k ≤ 6) (hp : p + n ≤ s.size) (hs : s.size ≤ maxLen) (hl : l.length ≤ 5000) {r : Tk} (hr : r = .good k t.data.toList n) :
    Calls Tryz.prog 52 #[.pointer (some ⟨d, 0, none⟩), .int .i64 (k : Nat), .string t, .int .i64 (n : Nat)] w1 (StepP B d s w p l r) := by
  subst hw
  refine (take_any (h.drewN q) k n t hk hp hs hl).mono ?_
  rintro e w' ⟨he, v', h', hb⟩
  rw [hr]
  exact ⟨he, v', h', (below_drewN B w q).trans hb⟩
theorem step_fail {B d : Nat} {s : ByteArray} {w w1 : World} {v : Value} {p : Nat} {l : List Wd} {q : Nat} (h : Sc B d s w v p l 0 0) (hw : w.drewN q = w1) (c on : Nat) (hp : p + on ≤ s.size) (hs : s.size ≤ maxLen) {r : Tk} (hr : r = .bad c on) :
    Calls Tryz.prog 57 #[.pointer (some ⟨d, 0, none⟩), .int .i64 (c : Nat), .int .i64 (on : Nat)] w1 (StepP B d s w p l r) := by
  subst hw
  refine (fail_any (h.drewN q) c on hp hs).mono ?_
  rintro e w' ⟨he, v', h', hb⟩
  rw [hr]
  exact ⟨he, v', h', (below_drewN B w q).trans hb⟩

set_option maxRecDepth 100000 in
set_option maxHeartbeats 2000000 in
theorem letters_any {B d : Nat} {s : ByteArray} {w : World} {v : Value} {p : Nat} {l : List Wd} (h : Sc B d s w v p l 0 0) (r : ByteArray) (hr : p + r.size ≤ s.size) (hs : s.size ≤ maxLen) (hl : l.length ≤ 5000) :
    Calls Tryz.prog 53 #[.pointer (some ⟨d, 0, none⟩), .string r] w (StepP B d s w p l (lettersT r.data.toList)) := by
  have hrm : r.size ≤ maxLen := by omega
  have hle := runB_le goB r.data.toList
  rw [len_data] at hle
  have HR := Lib.hid (run_goes r w h.lr hrm)
  have hT : lettersT r.data.toList = if kwOf (r.data.toList.take (runB goB r.data.toList)) ≠ [] then .good 2 (kwOf (r.data.toList.take (runB goB r.data.toList))) (runB goB r.data.toList)
    else if 32 < runB goB r.data.toList then .bad 45 0 else .good 1 (r.data.toList.take (runB goB r.data.toList)) (runB goB r.data.toList) := rfl
  rw [hT]
  generalize runB goB r.data.toList = n at *
  have hx : (r.extract 0 n).data.toList = r.data.toList.take n := by rw [ext_toList, List.drop_zero]
  have HK := Lib.hid (keywordOf_any (r.extract 0 n) w h.lr (by rw [← len_data, hx, List.length_take, len_data]; unfold maxLen at *; omega))
  have hmaxs := hs
  unfold maxLen at hmaxs
  rw [← hx]
  have hn : p + n ≤ s.size := by omega
  obtain ⟨kw, hkw⟩ : ∃ kw, kwOf (r.extract 0 n).data.toList = kw := ⟨_, rfl⟩
  unfold KwP at HK
  rw [hkw] at HK ⊢
  have hsz : r.size ≤ 9223372036854775807 := by omega
  by_cases h1 : kw ≠ []
  · rw [if_pos h1]
    have hke : kw.isEmpty = false := by cases kw with | nil => exact absurd rfl h1 | cons _ _ => rfl
    have HC : Hid (∀ q w1, w.drewN q = w1 → Calls Tryz.prog 52 #[.pointer (some ⟨d, 0, none⟩), .int .i64 2, .string ⟨kw.toArray⟩, .int .i64 (n : Nat)] w1 (StepP B d s w p l (.good 2 kw n))) := Lib.hid fun q w1 hw => step_take h hw 2 n ⟨kw.toArray⟩ (by omega) hn hs hl rfl
    clear h hT hx hkw h1 hs
    go_enter Tryz.func53, Tryz.ntmps53
    go_wp2_with fail
    refine HR.out.mono ?_
    rintro e w' ⟨rfl, rfl⟩
    go_wp2_with fail
    refine HK.out.mono ?_
    rintro e w' ⟨rfl, q, hw⟩
    have HC2 := Lib.hid (HC.out q w' hw.symm)
    clear hw
    go_wp2_with fail
    refine HC2.out.mono ?_
    intro e w2 h2
    have H2 := Lib.hid h2
    obtain ⟨rfl, _⟩ := h2
    go_wp2
    go_end0
    exact H2.out
  · rw [if_neg h1]
    have hke : kw.isEmpty = true := by cases kw with | nil => rfl | cons _ _ => exact absurd (by simp) h1
    by_cases h32 : 32 < n
    · rw [if_pos h32]
      have HC : Hid (∀ q w1, w.drewN q = w1 → Calls Tryz.prog 57 #[.pointer (some ⟨d, 0, none⟩), .int .i64 45, .int .i64 0] w1 (StepP B d s w p l (.bad 45 0))) := Lib.hid fun q w1 hw => step_fail h hw 45 0 (by omega) hs rfl
      clear h hT hx hkw h1 hs
      go_enter Tryz.func53, Tryz.ntmps53
      go_wp2_with fail
      refine HR.out.mono ?_
      rintro e w' ⟨rfl, rfl⟩
      go_wp2_with fail
      refine HK.out.mono ?_
      rintro e w' ⟨rfl, q, hw⟩
      have HC2 := Lib.hid (HC.out q w' hw.symm)
      clear hw
      go_wp2_with fail
      refine HC2.out.mono ?_
      intro e w2 h2
      have H2 := Lib.hid h2
      obtain ⟨rfl, _⟩ := h2
      go_wp2
      go_end0
      exact H2.out
    · rw [if_neg h32]
      have HC : Hid (∀ q w1, w.drewN q = w1 → Calls Tryz.prog 52 #[.pointer (some ⟨d, 0, none⟩), .int .i64 1, .string (r.extract 0 n), .int .i64 (n : Nat)] w1 (StepP B d s w p l (.good 1 (r.extract 0 n).data.toList n))) := Lib.hid fun q w1 hw => step_take h hw 1 n (r.extract 0 n) (by omega) hn hs hl rfl
      clear h hT hx hkw h1 hs
      go_enter Tryz.func53, Tryz.ntmps53
      go_wp2_with fail
      refine HR.out.mono ?_
      rintro e w' ⟨rfl, rfl⟩
      go_wp2_with fail
      refine HK.out.mono ?_
      rintro e w' ⟨rfl, q, hw⟩
      have HC2 := Lib.hid (HC.out q w' hw.symm)
      clear hw
      go_wp2_with fail
      refine HC2.out.mono ?_
      intro e w2 h2
      have H2 := Lib.hid h2
      obtain ⟨rfl, _⟩ := h2
      go_wp2
      go_end0
      exact H2.out
end Go.Proofs.YtpdfenpmnpoehaaGreatDoor
