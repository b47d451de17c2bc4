/- How long the bytes of what was taken up may be (plain). -/
import Derived.Test.YtjhjcdfhfjeogaaP10
import Derived.Test.YtjhjcdfhfjeogaaH3
namespace Go.Proofs.Ytjhjcdfhfjeogaa
open Go.RowKit Go.Maps
set_option linter.unusedVariables false

theorem sumlen {α : Type} (b : α → List UInt8) (l : List α) : (bRow b l).length = 4 + (l.map fun x => (b x).length).sum := by
  unfold bRow
  rw [List.length_append, low_len, List.length_flatMap]
theorem many_div (S : RS) (k : Nat) : (S.many k).1 ≤ S.rest.length / k := by
  unfold RS.many
  split
  · simp
  · rename_i h
    have h1 := take_rest S 4
    exact Nat.le_trans (by omega) (Nat.div_le_div_right h1)
theorem seq_bound {α : Type} (f : RS → α × RS) (β : α → Nat) (R M : Nat) (hf : ∀ S : RS, S.rest.length ≤ R → β (f S).1 ≤ M ∧ (f S).2.rest.length ≤ R) (S : RS) (h : S.rest.length ≤ R) :
    ∀ j, ((seq f j S).1.map β).sum ≤ j * M ∧ (∀ x ∈ (seq f j S).1, β x ≤ M) ∧ (seq f j S).2.rest.length ≤ R
  | 0 => ⟨by simp [seq], by simp [seq], h⟩
  | j + 1 => by
    obtain ⟨h1, h2, h3⟩ := seq_bound f β R M hf S h j
    obtain ⟨h4, h5⟩ := hf _ h3
    refine ⟨?_, ?_, h5⟩
    · simp only [seq, List.map_append, List.sum_append, List.map_cons, List.map_nil, List.sum_cons, List.sum_nil]
      rw [Nat.add_mul]; omega
    · intro x hx
      simp only [seq, List.mem_append, List.mem_singleton] at hx
      rcases hx with hx | rfl
      · exact h2 x hx
      · exact h4
theorem several_bound {α : Type} (f : RS → α × RS) (β : α → Nat) (R M k : Nat) (hf : ∀ S : RS, S.rest.length ≤ R → β (f S).1 ≤ M ∧ (f S).2.rest.length ≤ R) (S : RS) (h : S.rest.length ≤ R) :
    ((S.several f k).1.map β).sum ≤ R / k * M ∧ (∀ x ∈ (S.several f k).1, β x ≤ M) ∧ (S.several f k).2.rest.length ≤ R := by
  obtain ⟨h1, h2, h3⟩ := seq_bound f β R M hf (S.many k).2 (Nat.le_trans (many_rest S k) h) (S.many k).1
  have h4 : (S.many k).1 ≤ R / k := Nat.le_trans (many_div S k) (Nat.div_le_div_right h)
  unfold RS.several
  refine ⟨?_, ?_, h3⟩
  · simp only
    split
    · exact Nat.le_trans h1 (Nat.mul_le_mul_right M h4)
    · simp
  · simp only
    split
    · exact h2
    · simp
theorem text_bound (R : Nat) (S : RS) (h : S.rest.length ≤ R) : (bText S.text.1).length ≤ 4 + R ∧ S.text.2.rest.length ≤ R := by
  refine ⟨?_, Nat.le_trans (take_rest _ _) (Nat.le_trans (many_rest S 1) h)⟩
  have := text_le S
  unfold bText
  rw [List.length_append, low_len]
  omega
theorem int_bound (R : Nat) (S : RS) (h : S.rest.length ≤ R) : (enc8 S.int.1).length ≤ 8 ∧ S.int.2.rest.length ≤ R :=
  ⟨by unfold enc8; rw [low_len]; omega, Nat.le_trans (take_rest _ _) h⟩
theorem fact_bound (S : RS) (h : S.rest.length ≤ 1073741824) : (bFact S.fact.1).length ≤ 1152921504606846976 ∧ S.fact.2.rest.length ≤ 1073741824 := by
  obtain ⟨a1, a2, a3⟩ := several_bound RS.text (fun s => (bText s).length) 1073741824 (4 + 1073741824) 4 (text_bound _) S h
  obtain ⟨b1, b2, b3⟩ := several_bound RS.int (fun n => (enc8 n).length) 1073741824 8 8 (int_bound _) S.texts.2 a3
  refine ⟨?_, b3⟩
  unfold RS.fact
  simp only
  split
  · unfold bFact
    rw [List.length_append, sumlen, sumlen]
    have a1' : (S.texts.1.map fun s => (bText s).length).sum ≤ 1073741824 / 4 * (4 + 1073741824) := a1
    have b1' : (S.texts.2.ints.1.map fun n => (enc8 n).length).sum ≤ 1073741824 / 8 * 8 := b1
    simp only
    omega
  · unfold bFact FactP.zero
    rw [List.length_append, sumlen, sumlen]
    simp
theorem facts_bound (S : RS) (h : S.rest.length ≤ 1073741824) : ∀ f ∈ S.facts.1, (bFact f).length ≤ 1152921504606846976 :=
  (several_bound RS.fact (fun f => (bFact f).length) 1073741824 1152921504606846976 8 fact_bound S h).2.1
theorem thing_facts (S : RS) (t : ThingP) (h : S.rest.length ≤ 1073741824) : ∀ f ∈ (S.thing t).1.facts, (bFact f).length ≤ 1152921504606846976 := by
  intro f hf
  unfold RS.thing at hf
  split at hf
  · simp at hf
  split at hf
  · simp at hf
  split at hf
  · simp at hf
  split at hf
  · simp at hf
  split at hf
  · simp at hf
  split at hf
  · simp at hf
  split at hf
  · simp at hf
  split at hf
  · obtain rfl : f = S.fact.1 := by simpa using hf
    exact (fact_bound S h).1
  split at hf
  · exact facts_bound S h f hf
  · simp at hf
end Go.Proofs.Ytjhjcdfhfjeogaa
