/- digits, sign. -/
import Derived.Test.YtpdfenpmnpoehaaGreatDoorXA7
namespace Go.Proofs.YtpdfenpmnpoehaaGreatDoor
open Go.RowKit Go.Maps
set_option linter.unusedVariables false

set_option maxRecDepth 100000 in
set_option maxHeartbeats 2000000 in
theorem digits_any {B d : Nat} {s : ByteArray} {w : World} {v : Value} {p : Nat} {l : List Wd} (h : Sc B d s w v p l 0 0) (r : ByteArray) (hr : p + r.size ≤ s.size) (hs : s.size ≤ maxLen) (hl : l.length ≤ 5000) :
    Calls Tryz.prog 54 #[.pointer (some ⟨d, 0, none⟩), .string r] w (StepP B d s w p l (digitsT r.data.toList)) := by
  have hrm : r.size ≤ maxLen := by omega
  have hle := runB_le isDig r.data.toList
  rw [len_data] at hle
  have HR := Lib.hid (run_digit r w h.lr hrm)
  have hT : digitsT r.data.toList = if 1 < runB isDig r.data.toList ∧ r.data.toList.head? = some 48 then .bad 40 0
    else if 19 < runB isDig r.data.toList then .bad 45 0
    else if firstB (r.data.toList.drop (runB isDig r.data.toList)) = 2 then .bad 40 (runB isDig r.data.toList) else .good 3 (r.data.toList.take (runB isDig r.data.toList)) (runB isDig r.data.toList) := rfl
  rw [hT]
  generalize runB isDig r.data.toList = n at *
  have hx : (r.extract 0 n).data.toList = r.data.toList.take n := by rw [ext_toList, List.drop_zero]
  have hy : (r.extract n r.size).data.toList = r.data.toList.drop n := by rw [ext_toList, show r.data.toList.take r.size = r.data.toList by rw [← len_data, List.take_length]]
  have HF := Lib.hid (first_any (r.extract n r.size) w h.lr)
  have hmaxs := hs
  unfold maxLen at hmaxs
  rw [← hx]
  rw [← hy]
  have hn : p + n ≤ s.size := by omega
  obtain ⟨fb, hfb⟩ : ∃ fb, firstB (r.extract n r.size).data.toList = fb := ⟨_, rfl⟩
  rw [hfb] at HF ⊢
  have hsz : r.size ≤ 9223372036854775807 := by omega
  have hhead : ∀ hz : 0 < r.size, r.data.toList.head? = some r[0] := fun hz => by
    rw [List.head?_eq_getElem?, List.getElem?_eq_getElem (by rw [len_data]; exact hz)]; rfl
  clear hT hx hy hfb
  by_cases h1 : 1 < n
  · have hz : 0 < r.size := by omega
    have hd := hhead hz
    have hb := u8_lt r[0]
    by_cases h48 : r[0] = 48
    · rw [if_pos ⟨h1, by rw [hd, h48]⟩]
      have he : ((r[0].toNat : Int) == 48) = true := by rw [h48]; rfl
      clear hd hhead h48
      have HC : Hid (Calls Tryz.prog 57 #[.pointer (some ⟨d, 0, none⟩), .int .i64 40, .int .i64 0] w (StepP B d s w p l (.bad 40 0))) := Lib.hid (step_fail (q := 0) h rfl 40 0 (by omega) hs rfl)
      clear h hs
      go_enter Tryz.func54, Tryz.ntmps54
      go_wp2_with (first | (go_at_call 48; refine HR.out.mono ?_; rintro e w' ⟨rfl, rfl⟩) | (go_at_call 51; refine HF.out.mono ?_; rintro e w' ⟨rfl, rfl⟩) | (go_at_call 57; refine HC.out.mono ?_; intro e w2 h2; have H2 := Lib.hid h2; obtain ⟨rfl, _⟩ := h2))
      go_end0
      exact H2.out
    · have h48n : ¬ (1 < n ∧ r.data.toList.head? = some 48) := fun e => h48 (by have := e.2; rw [hd] at this; exact Option.some.inj this)
      rw [if_neg h48n]
      have he : ((r[0].toNat : Int) == 48) = false := by
        have : r[0].toNat ≠ 48 := fun e => h48 (UInt8.toNat_inj.1 e)
        simp; omega
      clear hd hhead h48 h48n
      by_cases h19 : 19 < n
      · rw [if_pos h19]
        have HC : Hid (Calls Tryz.prog 57 #[.pointer (some ⟨d, 0, none⟩), .int .i64 45, .int .i64 0] w (StepP B d s w p l (.bad 45 0))) := Lib.hid (step_fail (q := 0) h rfl 45 0 (by omega) hs rfl)
        clear h hs
        go_enter Tryz.func54, Tryz.ntmps54
        go_wp2_with (first | (go_at_call 48; refine HR.out.mono ?_; rintro e w' ⟨rfl, rfl⟩) | (go_at_call 51; refine HF.out.mono ?_; rintro e w' ⟨rfl, rfl⟩) | (go_at_call 57; refine HC.out.mono ?_; intro e w2 h2; have H2 := Lib.hid h2; obtain ⟨rfl, _⟩ := h2))
        go_end0
        exact H2.out
      · rw [if_neg h19]
        by_cases h2 : fb = 2
        · rw [if_pos h2]
          subst h2
          have HC : Hid (Calls Tryz.prog 57 #[.pointer (some ⟨d, 0, none⟩), .int .i64 40, .int .i64 (n : Nat)] w (StepP B d s w p l (.bad 40 n))) := Lib.hid (step_fail (q := 0) h rfl 40 n (by omega) hs rfl)
          clear h hs
          go_enter Tryz.func54, Tryz.ntmps54
          go_wp2_with (first | (go_at_call 48; refine HR.out.mono ?_; rintro e w' ⟨rfl, rfl⟩) | (go_at_call 51; refine HF.out.mono ?_; rintro e w' ⟨rfl, rfl⟩) | (go_at_call 57; refine HC.out.mono ?_; intro e w2 h2; have H2 := Lib.hid h2; obtain ⟨rfl, _⟩ := h2))
          go_end0
          exact H2.out
        · rw [if_neg h2]
          have h2' : ((fb : Int) == 2) = false := by simp; omega
          have HC : Hid (Calls Tryz.prog 52 #[.pointer (some ⟨d, 0, none⟩), .int .i64 3, .string (r.extract 0 n), .int .i64 (n : Nat)] w (StepP B d s w p l (.good 3 (r.extract 0 n).data.toList n))) := Lib.hid (step_take (q := 0) h rfl 3 n (r.extract 0 n) (by omega) hn hs hl rfl)
          clear h hs
          go_enter Tryz.func54, Tryz.ntmps54
          go_wp2_with (first | (go_at_call 48; refine HR.out.mono ?_; rintro e w' ⟨rfl, rfl⟩) | (go_at_call 51; refine HF.out.mono ?_; rintro e w' ⟨rfl, rfl⟩) | (go_at_call 52; refine HC.out.mono ?_; intro e w2 h2; have H2 := Lib.hid h2; obtain ⟨rfl, _⟩ := h2))
          go_end0
          exact H2.out
  · rw [if_neg (fun e => h1 e.1), if_neg (by omega)]
    clear hhead
    by_cases h2 : fb = 2
    · rw [if_pos h2]
      subst h2
      have HC : Hid (Calls Tryz.prog 57 #[.pointer (some ⟨d, 0, none⟩), .int .i64 40, .int .i64 (n : Nat)] w (StepP B d s w p l (.bad 40 n))) := Lib.hid (step_fail (q := 0) h rfl 40 n (by omega) hs rfl)
      clear h hs
      go_enter Tryz.func54, Tryz.ntmps54
      go_wp2_with (first | (go_at_call 48; refine HR.out.mono ?_; rintro e w' ⟨rfl, rfl⟩) | (go_at_call 51; refine HF.out.mono ?_; rintro e w' ⟨rfl, rfl⟩) | (go_at_call 57; refine HC.out.mono ?_; intro e w2 h2; have H2 := Lib.hid h2; obtain ⟨rfl, _⟩ := h2))
      go_end0
      exact H2.out
    · rw [if_neg h2]
      have h2' : ((fb : Int) == 2) = false := by simp; omega
      have HC : Hid (Calls Tryz.prog 52 #[.pointer (some ⟨d, 0, none⟩), .int .i64 3, .string (r.extract 0 n), .int .i64 (n : Nat)] w (StepP B d s w p l (.good 3 (r.extract 0 n).data.toList n))) := Lib.hid (step_take (q := 0) h rfl 3 n (r.extract 0 n) (by omega) hn hs hl rfl)
      clear h hs
      go_enter Tryz.func54, Tryz.ntmps54
      go_wp2_with (first | (go_at_call 48; refine HR.out.mono ?_; rintro e w' ⟨rfl, rfl⟩) | (go_at_call 51; refine HF.out.mono ?_; rintro e w' ⟨rfl, rfl⟩) | (go_at_call 52; refine HC.out.mono ?_; intro e w2 h2; have H2 := Lib.hid h2; obtain ⟨rfl, _⟩ := h2))
      go_end0
      exact H2.out

set_option maxRecDepth 100000 in
set_option maxHeartbeats 2000000 in
theorem sign_any {B d : Nat} {s : ByteArray} {w : World} {v : Value} {p : Nat} {l : List Wd} (h : Sc B d s w v p l 0 0) (r : ByteArray) (hr : p + r.size ≤ s.size) (hr1 : 1 ≤ r.size) (hs : s.size ≤ maxLen) (hl : l.length ≤ 5000) :
    Calls Tryz.prog 56 #[.pointer (some ⟨d, 0, none⟩), .string r] w (StepP B d s w p l (signT r.data.toList)) := by
  have hmaxs := hs
  unfold maxLen at hmaxs
  have hx : ∀ m, (r.extract 0 m).data.toList = r.data.toList.take m := fun m => by rw [ext_toList, List.drop_zero]
  have hx2 : ∀ m, (r.extract 0 m).toList = r.data.toList.take m := fun m => by rw [ByteArray.toList_eq, hx]
  by_cases h2 : 2 ≤ r.size
  · obtain ⟨X, hX⟩ : ∃ X, (r.extract 0 2).toList = X := ⟨_, rfl⟩
    have hT : signT r.data.toList = if (X == [60, 62] || X == [60, 61] || X == [62, 61]) = true then .good 5 (r.extract 0 2).data.toList 2 else .good 5 (r.extract 0 1).data.toList 1 := by
      rw [hx, hx, ← hX, hx2]; rfl
    rw [hT]
    clear hT hx hx2
    by_cases e1 : X = [60, 62]
    · rw [if_pos (by rw [e1]; rfl)]
      have t1 : (X == [60, 62]) = true := by rw [e1]; rfl
      have HC : Hid (Calls Tryz.prog 52 #[.pointer (some ⟨d, 0, none⟩), .int .i64 5, .string (r.extract 0 2), .int .i64 2] w (StepP B d s w p l (.good 5 (r.extract 0 2).data.toList 2))) := Lib.hid (step_take (q := 0) h rfl 5 2 (r.extract 0 2) (by omega) (by omega) hs hl rfl)
      clear e1
      clear h hs
      go_enter Tryz.func56, Tryz.ntmps56
      go_wp2_with fail
      refine HC.out.mono ?_
      intro e w2 hw2
      have H2 := Lib.hid hw2
      obtain ⟨rfl, _⟩ := hw2
      go_wp2
      go_end0
      exact H2.out
    · have t1 : (X == [60, 62]) = false := by simpa using e1
      by_cases e2 : X = [60, 61]
      · rw [if_pos (by rw [e2]; rfl)]
        have t2 : (X == [60, 61]) = true := by rw [e2]; rfl
        have HC : Hid (Calls Tryz.prog 52 #[.pointer (some ⟨d, 0, none⟩), .int .i64 5, .string (r.extract 0 2), .int .i64 2] w (StepP B d s w p l (.good 5 (r.extract 0 2).data.toList 2))) := Lib.hid (step_take (q := 0) h rfl 5 2 (r.extract 0 2) (by omega) (by omega) hs hl rfl)
        clear e1 e2
        clear h hs
        go_enter Tryz.func56, Tryz.ntmps56
        go_wp2_with fail
        refine HC.out.mono ?_
        intro e w2 hw2
        have H2 := Lib.hid hw2
        obtain ⟨rfl, _⟩ := hw2
        go_wp2
        go_end0
        exact H2.out
      · have t2 : (X == [60, 61]) = false := by simpa using e2
        by_cases e3 : X = [62, 61]
        · rw [if_pos (by rw [e3]; rfl)]
          have t3 : (X == [62, 61]) = true := by rw [e3]; rfl
          have HC : Hid (Calls Tryz.prog 52 #[.pointer (some ⟨d, 0, none⟩), .int .i64 5, .string (r.extract 0 2), .int .i64 2] w (StepP B d s w p l (.good 5 (r.extract 0 2).data.toList 2))) := Lib.hid (step_take (q := 0) h rfl 5 2 (r.extract 0 2) (by omega) (by omega) hs hl rfl)
          clear e1 e2 e3
          clear h hs
          go_enter Tryz.func56, Tryz.ntmps56
          go_wp2_with fail
          refine HC.out.mono ?_
          intro e w2 hw2
          have H2 := Lib.hid hw2
          obtain ⟨rfl, _⟩ := hw2
          go_wp2
          go_end0
          exact H2.out
        · have t3 : (X == [62, 61]) = false := by simpa using e3
          rw [if_neg (by rw [t1, t2, t3]; decide)]
          have HC : Hid (Calls Tryz.prog 52 #[.pointer (some ⟨d, 0, none⟩), .int .i64 5, .string (r.extract 0 1), .int .i64 1] w (StepP B d s w p l (.good 5 (r.extract 0 1).data.toList 1))) := Lib.hid (step_take (q := 0) h rfl 5 1 (r.extract 0 1) (by omega) (by omega) hs hl rfl)
          clear e1 e2 e3
          clear h hs
          go_enter Tryz.func56, Tryz.ntmps56
          go_wp2_with fail
          refine HC.out.mono ?_
          intro e w2 hw2
          have H2 := Lib.hid hw2
          obtain ⟨rfl, _⟩ := hw2
          go_wp2
          go_end0
          exact H2.out
  · have e1 : r.size = 1 := by omega
    obtain ⟨X, hX⟩ : ∃ X, (r.extract 0 1).toList = X := ⟨_, rfl⟩
    have hXl : X.length ≤ 1 := by rw [← hX, hx2]; exact List.length_take_le _ _
    have t1 : (X == [60, 62]) = false := by
      have : X ≠ [60, 62] := fun e => by rw [e] at hXl; simp at hXl
      simpa using this
    have t2 : (X == [60, 61]) = false := by
      have : X ≠ [60, 61] := fun e => by rw [e] at hXl; simp at hXl
      simpa using this
    have t3 : (X == [62, 61]) = false := by
      have : X ≠ [62, 61] := fun e => by rw [e] at hXl; simp at hXl
      simpa using this
    have hT : signT r.data.toList = .good 5 (r.extract 0 1).data.toList 1 := by
      have e2 : r.data.toList.take 2 = X := by
        rw [← hX, hx2, List.take_of_length_le (by rw [len_data]; omega), List.take_of_length_le (by rw [len_data]; omega)]
      unfold signT twoB
      rw [e2, t1, t2, t3, hx]; rfl
    rw [hT]
    clear hT hx hx2 hXl
    have hz : r.size = 1 := e1
    have HC : Hid (Calls Tryz.prog 52 #[.pointer (some ⟨d, 0, none⟩), .int .i64 5, .string (r.extract 0 1), .int .i64 1] w (StepP B d s w p l (.good 5 (r.extract 0 1).data.toList 1))) := Lib.hid (step_take (q := 0) h rfl 5 1 (r.extract 0 1) (by omega) (by omega) hs hl rfl)
    clear h hs
    go_enter Tryz.func56, Tryz.ntmps56
    go_wp2_with fail
    refine HC.out.mono ?_
    intro e w2 hw2
    have H2 := Lib.hid hw2
    obtain ⟨rfl, _⟩ := hw2
    go_wp2
    go_end0
    exact H2.out

end Go.Proofs.YtpdfenpmnpoehaaGreatDoor
