/- Grouping sets, plain: the list of two lists' elements. -/
import Derived.Test.YthejnkpnpckmbaaP3
namespace Go.Proofs.Ythejnkpnpckmbaa
set_option linter.unusedVariables false

def fourT : List Tx := [[97], [98], [99], [100]]
abbrev prodG (gs : List Gp) : Nat := prodL (gs.map (esets fourT))
theorem expand_cases (gs : List Gp) : (gs.any wrongB = false ∧ gs.any (strangeB fourT) = false ∧ prodG gs ≤ 64 ∧ expandL fourT gs = (crossL fourT gs, 0)) ∨
    ((expandL fourT gs).1 = [] ∧ (expandL fourT gs).2 ≠ 0 ∧ (gs.any wrongB = true ∨ gs.any (strangeB fourT) = true ∨ (gs.any wrongB = false ∧ gs.any (strangeB fourT) = false ∧ 64 < prodG gs ∧ (expandL fourT gs).2 = 46))) := by
  have h4 : ¬ 6 < fourT.length := by decide
  unfold expandL
  by_cases hw : gs.any wrongB = true
  · rw [if_pos (.inr hw)]
    exact .inr ⟨rfl, by decide, .inl hw⟩
  · have hw' : gs.any wrongB = false := by simpa using hw
    rw [if_neg (fun h => h.elim h4 hw)]
    by_cases hs : gs.any (strangeB fourT) = true
    · rw [if_pos hs]
      exact .inr ⟨rfl, by decide, .inr (.inl hs)⟩
    · have hs' : gs.any (strangeB fourT) = false := by simpa using hs
      have hz : sizeL gs = min (prodG gs) 65 := size_prod (dims := fourT) hw'
      rw [if_neg hs]
      by_cases h64 : 64 < sizeL gs
      · rw [if_pos h64]
        exact .inr ⟨rfl, by decide, .inr (.inr ⟨hw', hs', (by omega : 64 < prodG gs), rfl⟩)⟩
      · rw [if_neg h64]
        have hp : prodG gs = sizeL gs := by omega
        refine .inl ⟨hw', hs', by omega, ?_⟩
        by_cases h0 : sizeL gs = 0
        · rw [if_pos h0]
          have : crossL fourT gs = [] := List.length_eq_zero_iff.1 (by rw [cross_len]; exact hp.trans h0)
          rw [this]
        · rw [if_neg h0]
theorem any_app {α : Type} (p : α → Bool) (a b : List α) : (a ++ b).any p = (a.any p || b.any p) := List.any_append ..
theorem prodG_app (a b : List Gp) : prodG (a ++ b) = prodG a * prodG b := by unfold prodG; rw [List.map_append, prod_append]
/-- Where one of the two is refused, the list is empty. -/
theorem both_bad {a b : List Gp} (h : (expandL fourT a).2 ≠ 0 ∨ (expandL fourT b).2 ≠ 0) : (expandL fourT (a ++ b)).1 = [] := by
  rcases expand_cases (a ++ b) with ⟨h1, h2, h3, h4⟩ | ⟨h1, _⟩
  · rw [any_app, Bool.or_eq_false_iff] at h1 h2
    rw [h4]
    refine List.length_eq_zero_iff.1 ?_
    rw [cross_len]
    show prodG (a ++ b) = 0
    rw [prodG_app] at h3 ⊢
    rcases h with h | h
    · rcases expand_cases a with ⟨_, _, _, h5⟩ | ⟨_, _, h5⟩
      · rw [h5] at h; exact absurd rfl h
      · rcases h5 with h5 | h5 | ⟨_, _, h5, _⟩
        · rw [h1.1] at h5; cases h5
        · rw [h2.1] at h5; cases h5
        · rcases Nat.eq_zero_or_pos (prodG b) with e | e
          · rw [e, Nat.mul_zero]
          · have := Nat.le_mul_of_pos_right (prodG a) e; omega
    · rcases expand_cases b with ⟨_, _, _, h5⟩ | ⟨_, _, h5⟩
      · rw [h5] at h; exact absurd rfl h
      · rcases h5 with h5 | h5 | ⟨_, _, h5, _⟩
        · rw [h1.2] at h5; cases h5
        · rw [h2.2] at h5; cases h5
        · rcases Nat.eq_zero_or_pos (prodG a) with e | e
          · rw [e, Nat.zero_mul]
          · have := Nat.le_mul_of_pos_left (prodG b) e; omega
  · exact h1
theorem good_of {a : List Gp} (h : (expandL fourT a).2 = 0) : a.any wrongB = false ∧ a.any (strangeB fourT) = false ∧ prodG a ≤ 64 ∧ (expandL fourT a).1 = crossL fourT a ∧ (expandL fourT a).1.length = prodG a := by
  rcases expand_cases a with ⟨h1, h2, h3, h4⟩ | ⟨_, h1, _⟩
  · rw [h4]
    exact ⟨h1, h2, h3, rfl, cross_len⟩
  · exact absurd h h1
theorem both_many {a b : List Gp} (ha : (expandL fourT a).2 = 0) (hb : (expandL fourT b).2 = 0) (h : 64 < (expandL fourT a).1.length * (expandL fourT b).1.length) : expandL fourT (a ++ b) = ([], 46) := by
  obtain ⟨a1, a2, a3, a4, a5⟩ := good_of ha
  obtain ⟨b1, b2, b3, b4, b5⟩ := good_of hb
  rw [a5, b5, ← prodG_app] at h
  rcases expand_cases (a ++ b) with ⟨_, _, h3, _⟩ | ⟨h1, h2, h3⟩
  · omega
  · rw [any_app, any_app, a1, a2, b1, b2] at h3
    rcases h3 with h3 | h3 | ⟨_, _, _, h3⟩
    · cases h3
    · cases h3
    · exact Prod.ext h1 h3
theorem both_good {a b : List Gp} (ha : (expandL fourT a).2 = 0) (hb : (expandL fourT b).2 = 0) (h : (expandL fourT a).1.length * (expandL fourT b).1.length ≤ 64) :
    (expandL fourT (a ++ b)).2 = 0 ∧ (expandL fourT (a ++ b)).1.length = (expandL fourT a).1.length * (expandL fourT b).1.length ∧
      ∀ i k, (hi : i < (expandL fourT a).1.length) → (hk : k < (expandL fourT b).1.length) → (expandL fourT (a ++ b)).1[i * (expandL fourT b).1.length + k]? = some ((expandL fourT a).1[i] ||| (expandL fourT b).1[k]) := by
  obtain ⟨a1, a2, a3, a4, a5⟩ := good_of ha
  obtain ⟨b1, b2, b3, b4, b5⟩ := good_of hb
  have hp := h
  rw [a5, b5, ← prodG_app] at hp
  rcases expand_cases (a ++ b) with ⟨h1, h2, h3, h4⟩ | ⟨h1, h2, h3⟩
  · refine ⟨by rw [h4], ?_, ?_⟩
    · rw [h4, a5, b5, ← prodG_app]
      exact cross_len
    · intro i k hi hk
      generalize (expandL fourT a).1 = la at *
      generalize (expandL fourT b).1 = lb at *
      rw [h4]
      show (crossL fourT (a ++ b))[i * lb.length + k]? = _
      rw [crossL_eq, List.map_append, choose_append, ← crossL_eq, ← crossL_eq, ← a4, ← b4]
      rw [flatMap_get _ lb.length la (fun x _ => List.length_map ..) i k hk hi, List.getElem?_map, List.getElem?_eq_getElem hk]
      rfl
  · rw [any_app, any_app, a1, a2, b1, b2] at h3
    rcases h3 with h3 | h3 | ⟨_, _, h3, _⟩
    · cases h3
    · cases h3
    · omega
end Go.Proofs.Ythejnkpnpckmbaa
