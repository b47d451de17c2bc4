/- The words of a text end with the end, and are not long, plain. -/
import Derived.Test.YtpdfenpmnpoehaaGreatDoorP7
namespace Go.Proofs.YtpdfenpmnpoehaaGreatDoor
set_option linter.unusedVariables false

def wrB (k : Nat) (t : Tx) : Tx := if k = 4 then quoteB t else t
theorem Stands.len {k : Nat} {t x : Tx} (h : Stands k t x) : x.length = (wrB k t).length := by
  by_cases h2 : k = 2
  · have := congrArg List.length (h.2 h2)
    rw [List.length_map] at this
    unfold wrB
    rw [if_neg (by omega)]
    exact this
  · rw [h.1 h2]; rfl
theorem dbl_le (t : Tx) : t.length ≤ (dbl t).length ∧ (dbl t).length ≤ 2 * t.length := by
  induction t with
  | nil => exact ⟨Nat.le_refl _, Nat.le_refl _⟩
  | cons b t ih => rw [dbl_cons]; split <;> simp <;> omega
theorem quote_len (t : Tx) : t.length + 2 ≤ (quoteB t).length ∧ (quoteB t).length ≤ 2 * t.length + 2 := by
  have := dbl_le t
  unfold quoteB
  simp; omega
theorem valid_kind {k : Nat} {t : Tx} (h : Valid k t) : 1 ≤ k ∧ k ≤ 5 := by rcases h with h | h | h | h | h <;> omega
theorem wrB_len (k : Nat) (t : Tx) : t.length ≤ (wrB k t).length := by
  unfold wrB
  split
  · have := (quote_len t).1; omega
  · exact Nat.le_refl _
theorem mk_bd : ∀ (l : List Pc) (z : Tx) (p : Nat), Made z l → ∀ x ∈ mkW p l, x.text.length ≤ (txt z l).length ∧ 1 ≤ x.kind ∧ x.kind ≤ 5 ∧ x.pos ≤ p + (txt z l).length
  | [], _, _, _, x, hx => by cases hx
  | c :: l, z, p, ⟨h1, h2, h3, h4, h5, h6⟩, x, hx => by
    have e : (txt z (c :: l)).length = c.gap.length + c.x.length + (txt z l).length := by simp [txt]; omega
    rcases List.mem_cons.1 hx with rfl | hx
    · have h7 := h3.len
      have h8 := wrB_len c.kind c.text
      have h9 := valid_kind h2
      refine ⟨?_, h9.1, h9.2, ?_⟩
      · show c.text.length ≤ _; omega
      · show p + c.gap.length ≤ _; omega
    · obtain ⟨i1, i2, i3, i4⟩ := mk_bd l z _ h6 x hx
      exact ⟨by omega, i2, i3, by omega⟩
theorem words_ended {t : Tx} {ws : List Wd} {f : Nat} (h : wordsB t = (ws, 0, f)) : Ended ws ∧ (∀ x ∈ ws, x.text.length ≤ 8192 ∧ x.kind ≤ 6 ∧ x.pos ≤ 100000) ∧ f = 0 ∧ t.length ≤ 4096 := by
  obtain ⟨h1, h2, l, z, h3, h4, h5⟩ := made_words h
  have hb := mk_bd l z 0 h4
  rw [← h3] at hb
  refine ⟨⟨mkW 0 l, ⟨6, [], t.length⟩, h5, rfl, fun x hx => by have := (hb x hx).2.2.1; omega⟩, fun x hx => ?_, h2, h1⟩
  rw [h5] at hx
  rcases List.mem_append.1 hx with hx | hx
  · obtain ⟨i1, i2, i3, i4⟩ := hb x hx
    exact ⟨by omega, by omega, by omega⟩
  · obtain rfl := List.mem_singleton.1 hx
    exact ⟨by simp, Nat.le_refl _, by show t.length ≤ _; omega⟩
theorem words_cap {t : Tx} : (wordsB t).1.length ≤ 4097 := by
  have key : ∀ (f : Nat) (r : Tx) (p : Nat), (goW f r p).1.length ≤ f := by
    intro f
    induction f with
    | zero => intro r p; exact Nat.le_refl _
    | succ f ih =>
      intro r p
      unfold goW
      split
      · simp
      · cases wordT (r.drop (runB isBla r)) with
        | bad c on => simp
        | good k t s =>
          have := ih ((r.drop (runB isBla r)).drop s) (p + runB isBla r + s)
          show (cons1 _ _).1.length ≤ _
          unfold cons1
          split
          · exact Nat.succ_le_succ this
          · simp
  unfold wordsB
  split
  · simp
  · have := key (t.length + 1) t 0
    omega
end Go.Proofs.YtpdfenpmnpoehaaGreatDoor
