/- The document's answers, plain. -/
import Derived.Test.YtlglfcadoofmpaaA9
namespace Go.Proofs.Ytlglfcadoofmpaa
set_option linter.unusedVariables false

/-! ### a text below another one -/
theorem less_same {a b : List UInt8} {i : Nat} (ha : i < a.length) (hb : i < b.length) (h : a[i] = b[i]) : Op.bytesLess (a.drop i) (b.drop i) = Op.bytesLess (a.drop (i + 1)) (b.drop (i + 1)) := by
  rw [List.drop_eq_getElem_cons ha, List.drop_eq_getElem_cons hb, h]
  simp [Op.bytesLess]
theorem less_ne {a b : List UInt8} {i : Nat} (ha : i < a.length) (hb : i < b.length) (h : a[i] ≠ b[i]) : Op.bytesLess (a.drop i) (b.drop i) = decide (a[i].toNat < b[i].toNat) := by
  rw [List.drop_eq_getElem_cons ha, List.drop_eq_getElem_cons hb]
  simp only [Op.bytesLess]
  have : (a[i] == b[i]) = false := by simpa using h
  rw [this, Bool.false_and, Bool.or_false]
  rfl
theorem less_end {a b : List UInt8} {i : Nat} (h : i = a.length ∨ i = b.length) (ha : i ≤ a.length) (hb : i ≤ b.length) : Op.bytesLess (a.drop i) (b.drop i) = decide (a.length < b.length) := by
  rcases h with h | h
  · rw [h, List.drop_length]
    rcases Nat.eq_or_lt_of_le (h ▸ hb) with e | e
    · rw [e, List.drop_length]; simp [Op.bytesLess]
    · obtain ⟨x, l, hx⟩ : ∃ x l, b.drop a.length = x :: l := by
        cases hd : b.drop a.length with
        | nil => have := congrArg List.length hd; simp at this; omega
        | cons x l => exact ⟨x, l, rfl⟩
      rw [hx]; simp [Op.bytesLess, e]
  · rw [h, List.drop_length]
    have : ¬ a.length < b.length := by omega
    cases a.drop b.length <;> simp [Op.bytesLess, this]

/-! ### ranks -/
def rankN (L : List Tx) (n : Nat) : Nat := L.countP fun t => Op.bytesLess t (txt L n)
theorem rank_at {L : List Tx} {T : List Nat} (hT : Ord L T) {k n : Nat} (hk : T[k]? = some n) : rankN L n = k := by
  obtain ⟨h1, h2⟩ := List.getElem?_eq_some_iff.1 hk
  have e : L = (List.range L.length).map (txt L) := by
    apply List.ext_getElem
    · simp
    · intro i h3 h4
      rw [List.getElem_map, List.getElem_range, txt_get h3]
  have e1 : rankN L n = (List.range L.length).countP fun m => Op.bytesLess (txt L m) (txt L n) := by
    unfold rankN
    conv => lhs; rw [e]
    rw [List.countP_map]
    refine List.countP_congr fun x _ => ?_
    simp only [Function.comp]
    rw [← e]
  rw [e1, ← hT.perm.countP_eq]
  have e2 : T = T.take k ++ T.drop k := (List.take_append_drop k T).symm
  rw [e2, List.countP_append]
  have hp := List.pairwise_iff_getElem.1 hT.up
  have c1 : (T.take k).countP (fun m => Op.bytesLess (txt L m) (txt L n)) = (T.take k).length := by
    rw [List.countP_eq_length]
    intro m hm
    obtain ⟨i, hi, rfl⟩ := List.getElem_of_mem hm
    rw [List.length_take] at hi
    rw [List.getElem_take, less_dec, ← h2]
    simpa using hp i k (by omega) h1 (by omega)
  have c2 : (T.drop k).countP (fun m => Op.bytesLess (txt L m) (txt L n)) = 0 := by
    rw [List.countP_eq_zero]
    intro m hm
    obtain ⟨i, hi, rfl⟩ := List.getElem_of_mem hm
    rw [List.length_drop] at hi
    rw [List.getElem_drop, less_dec, ← h2]
    simp only [decide_eq_true_eq]
    intro hlt
    have := (hT.at_ (i := k + i) (j := k) (by omega) h1).1 hlt
    omega
  rw [c1, c2, List.length_take]
  omega

/-- The order, as far as the numbers below i were put in. -/
structure Outs (T out : List Nat) (i : Nat) : Prop where
  len : out.length = T.length
  at_ : ∀ (k n : Nat), T[k]? = some n → n < i → out[k]? = some n
theorem Outs.zero (T : List Nat) : Outs T (List.replicate T.length 0) 0 := ⟨by simp, fun k n _ h => by omega⟩
theorem Outs.next {L : List Tx} {T out : List Nat} {i k : Nat} (h : Outs T out i) (hT : Ord L T) (hk : T[k]? = some i) : Outs T (out.set k i) (i + 1) where
  len := by simp [h.len]
  at_ k' n hn hlt := by
    have hkl : k < out.length := by rw [h.len]; exact (List.getElem?_eq_some_iff.1 hk).1
    by_cases e : k = k'
    · subst e
      rw [hk] at hn
      have : i = n := Option.some.inj hn
      subst this
      simp [hkl]
    · rw [List.getElem?_set_ne e]
      refine h.at_ k' n hn ?_
      rcases Nat.lt_or_ge n i with q | q
      · exact q
      · obtain rfl : n = i := by omega
        obtain ⟨a1, a2⟩ := List.getElem?_eq_some_iff.1 hk
        obtain ⟨b1, b2⟩ := List.getElem?_eq_some_iff.1 hn
        exact absurd ((List.getElem_inj hT.nodup).1 (a2.trans b2.symm)) e
theorem Outs.done {L : List Tx} {T out : List Nat} (h : Outs T out L.length) (hT : Ord L T) : out = T := by
  apply List.ext_getElem?
  intro k
  rcases Nat.lt_or_ge k T.length with hk | hk
  · rw [h.at_ k T[k] (List.getElem?_eq_getElem hk) (hT.lt (List.getElem_mem hk)), List.getElem?_eq_getElem hk]
  · rw [List.getElem?_eq_none hk, List.getElem?_eq_none (by rw [h.len]; exact hk)]
theorem pos_of {L : List Tx} {T : List Nat} (hT : Ord L T) {n : Nat} (hn : n < L.length) : ∃ k, T[k]? = some n ∧ k < L.length := by
  obtain ⟨k, hk, e⟩ := List.getElem_of_mem (hT.mem hn)
  exact ⟨k, by rw [List.getElem?_eq_getElem hk, e], by rw [← hT.len]; exact hk⟩
/-- What Between's loop has kept. -/
theorem btw_next {L : List Tx} {T : List Nat} {lo hi : Tx} {k n : Nat} (hk : T[k]? = some n) : btw L (T.take (k + 1)) lo hi = btw L (T.take k) lo hi ++ if (!Op.bytesLess (txt L n) lo && Op.bytesLess (txt L n) hi) = true then [n] else [] := by
  obtain ⟨h1, h2⟩ := List.getElem?_eq_some_iff.1 hk
  rw [List.take_succ_eq_append_getElem h1, h2]
  unfold btw
  rw [List.filter_append]
  congr 1
  rw [less_dec, less_dec]
  cases h : (!decide (txt L n < lo) && decide (txt L n < hi)) <;> simp [h]
end Go.Proofs.Ytlglfcadoofmpaa
