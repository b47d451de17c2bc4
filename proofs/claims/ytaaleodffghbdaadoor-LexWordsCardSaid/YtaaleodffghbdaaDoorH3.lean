/- LexWords: the reference's words, plain. -/
import Derived.Test.YtaaleodffghbdaaDoorH2
namespace Go.Proofs.YtaaleodffghbdaaDoor
open Go.RowKit Go.Maps
set_option linter.unusedVariables false

def AllFrom (q : UInt8 → Bool) (s : ByteArray) (p i : Nat) : Prop := ∀ j (h : j < s.size), p ≤ j → j < i → q s[j] = true
theorem AllFrom.start (q : UInt8 → Bool) (s : ByteArray) (p : Nat) : AllFrom q s p p := fun j h h1 h2 => by omega
theorem AllFrom.next {q : UInt8 → Bool} {s : ByteArray} {p i : Nat} (H : AllFrom q s p i) (hi : i < s.size) (h : q s[i] = true) : AllFrom q s p (i + 1) := by
  intro j hj h1 h2
  rcases Nat.lt_or_eq_of_le (Nat.le_of_lt_succ h2) with h3 | rfl
  · exact H j hj h1 h3
  · exact h
theorem drop_get (s : ByteArray) (p j : Nat) (h : j < (s.data.toList.drop p).length) : (s.data.toList.drop p)[j] = s[p + j]'(by rw [List.length_drop, len_data] at h; omega) := by
  rw [List.getElem_drop]; rfl
theorem runB_from {q : UInt8 → Bool} {s : ByteArray} {p i : Nat} (hpi : p ≤ i) (hi : i ≤ s.size) (h1 : AllFrom q s p i) (h2 : ∀ h : i < s.size, q s[i] = false) : runB q (s.data.toList.drop p) = i - p := by
  refine runB_eq q _ _ (by rw [List.length_drop, len_data]; omega) (fun j h hj => ?_) (fun h => ?_)
  · rw [drop_get]
    exact h1 _ _ (by omega) (by omega)
  · rw [drop_get]
    have e : p + (i - p) = i := by omega
    have h3 : i < s.size := by rw [List.length_drop, len_data] at h; omega
    simp only [e]
    exact h2 h3
theorem first_drop (s : ByteArray) (p : Nat) (hp : p < s.size) : firstB (s.data.toList.drop p) = kindB s[p] := by rw [drop_at s p hp]; rfl
theorem ext_take (s : ByteArray) (p i : Nat) : (s.extract p i).data.toList = (s.data.toList.drop p).take (i - p) := by rw [ext_toList, List.drop_take]

theorem ref_letters {s : ByteArray} {p i : Nat} (hp : p < s.size) (hlet : isLet s[p] = true) (hrun : runB goB (s.data.toList.drop p) = i - p) :
    (decide ((s.extract p i).data.toList.map capB ∈ kws) = true → wordT (s.data.toList.drop p) = .good 2 ((s.extract p i).data.toList.map capB) (i - p)) ∧
    (decide ((s.extract p i).data.toList.map capB ∈ kws) = false → 32 < i - p → wordT (s.data.toList.drop p) = .bad 45 0) ∧
    (decide ((s.extract p i).data.toList.map capB ∈ kws) = false → ¬ 32 < i - p → wordT (s.data.toList.drop p) = .good 1 (s.extract p i).data.toList (i - p)) := by
  have hw : wordT (s.data.toList.drop p) = lettersT (s.data.toList.drop p) := by
    unfold wordT; rw [if_pos (by rw [first_drop s p hp]; exact (kind_let _).2 hlet)]
  rw [hw, ext_take]
  unfold lettersT
  rw [hrun]
  obtain ⟨t, ht⟩ : ∃ t, (s.data.toList.drop p).take (i - p) = t := ⟨_, rfl⟩
  rw [ht]
  refine ⟨fun h => ?_, fun h h2 => ?_, fun h h2 => ?_⟩
  · have hm := of_decide_eq_true h
    rw [if_pos (fun e => (kwOf_nil_iff _).1 e hm)]
    unfold kwOf
    rw [if_pos hm]
  · have hm := of_decide_eq_false h
    rw [if_neg (fun e => e ((kwOf_nil_iff _).2 hm)), if_pos h2]
  · have hm := of_decide_eq_false h
    rw [if_neg (fun e => e ((kwOf_nil_iff _).2 hm)), if_neg h2]

theorem ref_digits {s : ByteArray} {p i : Nat} (hp : p < s.size) (hdig : isDig s[p] = true) (hrun : runB isDig (s.data.toList.drop p) = i - p) (hpi : p ≤ i) :
    (1 < i - p → s[p] = 48 → wordT (s.data.toList.drop p) = .bad 40 0) ∧
    (¬ (1 < i - p ∧ s[p] = 48) → 19 < i - p → wordT (s.data.toList.drop p) = .bad 45 0) ∧
    (¬ (1 < i - p ∧ s[p] = 48) → ¬ 19 < i - p → (∃ h : i < s.size, isLet s[i] = true) → wordT (s.data.toList.drop p) = .bad 40 (i - p)) ∧
    (¬ (1 < i - p ∧ s[p] = 48) → ¬ 19 < i - p → (∀ h : i < s.size, isLet s[i] = false) → wordT (s.data.toList.drop p) = .good 3 (s.extract p i).data.toList (i - p)) := by
  have hk := (kind_dig _).2 hdig
  have hw : wordT (s.data.toList.drop p) = digitsT (s.data.toList.drop p) := by
    unfold wordT; rw [first_drop s p hp, hk]; rfl
  have hh : (s.data.toList.drop p).head? = some s[p] := by rw [drop_at s p hp]; rfl
  have hd : (s.data.toList.drop p).drop (i - p) = s.data.toList.drop i := by rw [List.drop_drop]; congr 1; omega
  rw [hw, ext_take]
  unfold digitsT
  rw [hrun, hh, hd]
  have h48 : ∀ {P : Prop}, (P ∧ some s[p] = some 48) ↔ (P ∧ s[p] = 48) := fun {P} => by simp
  refine ⟨fun h h2 => ?_, fun h h2 => ?_, fun h h2 h3 => ?_, fun h h2 h3 => ?_⟩
  · rw [if_pos ⟨h, by rw [h2]⟩]
  · rw [if_neg (fun e => h (h48.1 e)), if_pos h2]
  · obtain ⟨h4, h5⟩ := h3
    rw [if_neg (fun e => h (h48.1 e)), if_neg h2, if_pos (by rw [first_drop s i h4]; exact (kind_let _).2 h5)]
  · rw [if_neg (fun e => h (h48.1 e)), if_neg h2, if_neg]
    intro e
    by_cases h4 : i < s.size
    · rw [first_drop s i h4] at e
      have h5 := h3 h4
      rw [(kind_let _).1 e] at h5
      cases h5
    · rw [List.drop_of_length_le (by rw [len_data]; omega)] at e
      cases e
def sgN (k : Nat) : Tx := signs.getD k []
theorem ref_sign {r : Tx} (h2 : firstB r ≠ 2) (h3 : firstB r ≠ 3) (h4 : firstB r ≠ 4) :
    (∀ k, k < 11 → (∀ j, j < k → ¬ r.take (sgN j).length = sgN j) → r.take (sgN k).length = sgN k → wordT r = .good 5 (sgN k) (sgN k).length) ∧
    ((∀ j, j < 11 → ¬ r.take (sgN j).length = sgN j) → wordT r = .bad 40 0) := by
  unfold wordT
  rw [if_neg h2, if_neg h3, if_neg h4]
  cases r with
  | nil =>
    refine ⟨fun k hk _ h => ?_, fun _ => rfl⟩
    have h : k = 0 ∨ k = 1 ∨ k = 2 ∨ k = 3 ∨ k = 4 ∨ k = 5 ∨ k = 6 ∨ k = 7 ∨ k = 8 ∨ k = 9 ∨ k = 10 := by omega
    rcases h with rfl | rfl | rfl | rfl | rfl | rfl | rfl | rfl | rfl | rfl | rfl <;> exact absurd h (by decide)
  | cons b l =>
    have one : ∀ x : UInt8, (b :: l).take 1 = [x] ↔ b = x := fun x => by simp
    have two : ∀ x y : UInt8, (b :: l).take 2 = [x, y] ↔ b = x ∧ l.take 1 = [y] := fun x y => by simp
    refine ⟨fun k hk hn h => ?_, fun hn => ?_⟩
    · have hc : k = 0 ∨ k = 1 ∨ k = 2 ∨ k = 3 ∨ k = 4 ∨ k = 5 ∨ k = 6 ∨ k = 7 ∨ k = 8 ∨ k = 9 ∨ k = 10 := by omega
      have hb2 : twoB (b :: l) = true ↔ ((b :: l).take 2 = [60, 62] ∨ (b :: l).take 2 = [60, 61] ∨ (b :: l).take 2 = [62, 61]) := by
        unfold twoB; simp [or_assoc]
      have small : ∀ x : UInt8, x ≠ 60 → x ≠ 62 → kindB x = 5 → b = x → (if firstB (b :: l) = 5 then signT (b :: l) else Tk.bad 40 0) = .good 5 [x] 1 := fun x hx1 hx2 hk he => by
        subst he
        rw [if_pos (show firstB (b :: l) = 5 from hk)]
        unfold signT
        rw [if_neg (fun e => by
          rcases hb2.1 e with e | e | e
          · exact hx1 ((two _ _).1 e).1
          · exact hx1 ((two _ _).1 e).1
          · exact hx2 ((two _ _).1 e).1)]
        rfl
      have big : ∀ x y : UInt8, kindB x = 5 → (b :: l).take 2 = [x, y] → twoB (b :: l) = true → (if firstB (b :: l) = 5 then signT (b :: l) else Tk.bad 40 0) = .good 5 [x, y] 2 := fun x y hk he ht => by
        have hbx := ((two _ _).1 he).1
        rw [if_pos (by rw [hbx]; exact hk)]
        unfold signT
        rw [if_pos ht, he]
      rcases hc with rfl | rfl | rfl | rfl | rfl | rfl | rfl | rfl | rfl | rfl | rfl
      · exact small 40 (by decide) (by decide) (by decide) ((one _).1 h)
      · exact small 41 (by decide) (by decide) (by decide) ((one _).1 h)
      · exact small 44 (by decide) (by decide) (by decide) ((one _).1 h)
      · exact small 42 (by decide) (by decide) (by decide) ((one _).1 h)
      · exact small 61 (by decide) (by decide) (by decide) ((one _).1 h)
      · exact small 45 (by decide) (by decide) (by decide) ((one _).1 h)
      · exact big 60 62 (by decide) h (hb2.2 (.inl h))
      · exact big 60 61 (by decide) h (hb2.2 (.inr (.inl h)))
      · have hb := (one 60).1 h
        rw [if_pos (by rw [hb]; rfl)]
        unfold signT
        rw [if_neg (fun e => by
          rcases hb2.1 e with e | e | e
          · exact hn 6 (by omega) e
          · exact hn 7 (by omega) e
          · have := ((two _ _).1 e).1
            rw [hb] at this
            exact absurd this (by decide)), (one 60).2 hb]
        rfl
      · exact big 62 61 (by decide) h (hb2.2 (.inr (.inr h)))
      · have hb := (one 62).1 h
        rw [if_pos (by rw [hb]; rfl)]
        unfold signT
        rw [if_neg (fun e => by
          rcases hb2.1 e with e | e | e
          · have := ((two _ _).1 e).1
            rw [hb] at this
            exact absurd this (by decide)
          · have := ((two _ _).1 e).1
            rw [hb] at this
            exact absurd this (by decide)
          · exact hn 9 (by omega) e), (one 62).2 hb]
        rfl
    · rw [if_neg]
      intro hk
      have hsig := (kind_sig b).1 hk
      have hor : b = 40 ∨ b = 41 ∨ b = 44 ∨ b = 42 ∨ b = 61 ∨ b = 45 ∨ b = 60 ∨ b = 62 := by
        unfold isSig at hsig
        simpa [or_assoc] using hsig
      rcases hor with h | h | h | h | h | h | h | h
      · exact hn 0 (by omega) ((one _).2 h)
      · exact hn 1 (by omega) ((one _).2 h)
      · exact hn 2 (by omega) ((one _).2 h)
      · exact hn 3 (by omega) ((one _).2 h)
      · exact hn 4 (by omega) ((one _).2 h)
      · exact hn 5 (by omega) ((one _).2 h)
      · exact hn 8 (by omega) ((one _).2 h)
      · exact hn 10 (by omega) ((one _).2 h)
end Go.Proofs.YtaaleodffghbdaaDoor
