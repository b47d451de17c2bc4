/- Texts put one behind the other, plain. -/
import Derived.Test.YtlglfcadoofmpaaA9
namespace Go.Proofs.Ytlglfcadoofmpaa
set_option linter.unusedVariables false

/-- A text that may be, put where there is room. -/
structure PutOk (L : List Tx) (t : Tx) (n : Nat) : Prop where
  nn : num (putL L t) t = some n
  eN : putN L t = n
  eE : putE L t = 0
  old : ∀ s m, num L s = some m → num (putL L t) s = some m
  sub : ∀ s ∈ putL L t, s ∈ L ∨ s = t
  len : (putL L t).length ≤ L.length + 1
theorem put_ok {L : List Tx} {t : Tx} (hl : t.length ≤ 64) (hL : L.length < 4096) : ∃ n, PutOk L t n := by
  have h1 : ¬ 64 < t.length := by omega
  cases hn : num L t with
  | some n =>
    have e : putL L t = L := by unfold putL; rw [if_neg h1, hn]
    exact ⟨n, by rw [e]; exact hn, by unfold putN; rw [if_neg h1, hn], by unfold putE; rw [if_neg h1, hn], by rw [e]; exact fun _ _ h => h, by rw [e]; exact fun _ h => .inl h, by rw [e]; omega⟩
  | none =>
    have h2 : ¬ L.length = 4096 := by omega
    have e : putL L t = L ++ [t] := by unfold putL; rw [if_neg h1, hn]; simp only [if_neg h2]
    have ht := num_none.1 hn
    refine ⟨L.length, by rw [e, num_add ht, if_pos rfl], by unfold putN; rw [if_neg h1, hn]; simp only [if_neg h2], by unfold putE; rw [if_neg h1, hn]; simp only [if_neg h2], fun s m hs => ?_, fun s hs => ?_, by rw [e]; simp⟩
    · rw [e, num_add ht]
      by_cases es : s = t
      · subst es; rw [hn] at hs; cases hs
      · rw [if_neg es]; exact hs
    · rw [e] at hs
      rcases List.mem_append.1 hs with h | h
      · exact .inl h
      · exact .inr (List.mem_singleton.1 h)
theorem put_long_plain {L : List Tx} {t : Tx} (hl : 64 < t.length) : putL L t = L ∧ putN L t = 0 ∧ putE L t = 45 := by
  unfold putL putN putE
  rw [if_pos hl, if_pos hl, if_pos hl]
  exact ⟨rfl, rfl, rfl⟩

/-- What was kept, with its numbers. -/
structure Kept (L K : List Tx) (N : List Nat) : Prop where
  len : N.length = K.length
  nums : ∀ (i : Nat) (t : Tx), K[i]? = some t → ∃ n, N[i]? = some n ∧ num L t = some n
  all : ∀ t ∈ L, t ∈ K
  tx : ∀ t ∈ K, t.length ≤ 64
theorem Kept.nil : Kept [] [] [] := ⟨rfl, fun i t h => by simp at h, fun t h => by simp at h, fun t h => by simp at h⟩
theorem Kept.put {L K : List Tx} {N : List Nat} {t : Tx} {n : Nat} (h : Kept L K N) (p : PutOk L t n) (hl : t.length ≤ 64) : Kept (putL L t) (K ++ [t]) (N ++ [n]) where
  len := by simp [h.len]
  nums i s hs := by
    rcases Nat.lt_or_ge i K.length with hi | hi
    · rw [List.getElem?_append_left hi] at hs
      obtain ⟨m, h1, h2⟩ := h.nums i s hs
      exact ⟨m, by rw [List.getElem?_append_left (by rw [h.len]; exact hi)]; exact h1, p.old s m h2⟩
    · rw [List.getElem?_append_right hi] at hs
      have hi2 : i - K.length = 0 := by
        rcases Nat.eq_zero_or_pos (i - K.length) with e | e
        · exact e
        · rw [List.getElem?_eq_none (by simp; omega)] at hs; cases hs
      rw [hi2] at hs
      have es : t = s := by simpa using hs
      subst es
      refine ⟨n, ?_, p.nn⟩
      rw [List.getElem?_append_right (by rw [h.len]; exact hi), h.len, hi2]; rfl
  all s hs := by
    rcases p.sub s hs with h1 | h1
    · exact List.mem_append_left _ (h.all s h1)
    · rw [h1]; simp
  tx s hs := by
    rcases List.mem_append.1 hs with h1 | h1
    · exact h.tx s h1
    · rw [List.mem_singleton.1 h1]; exact hl

/-- Which ranks were seen behind i texts. -/
structure SeenAt (L K : List Tx) (N T : List Nat) (s : List Bool) (i : Nat) : Prop where
  len : s.length = L.length
  at_ : ∀ (j k n : Nat), j < i → N[j]? = some n → T[k]? = some n → s[k]? = some true
theorem SeenAt.zero (L K : List Tx) (N T : List Nat) : SeenAt L K N T (List.replicate L.length false) 0 := ⟨by simp, fun j k n h => by omega⟩
theorem SeenAt.next {L K : List Tx} {N T : List Nat} {s : List Bool} {i n k : Nat} (h : SeenAt L K N T s i) (hT : Ord L T) (hn : N[i]? = some n) (hk : T[k]? = some n) : SeenAt L K N T (s.set k true) (i + 1) where
  len := by simp [h.len]
  at_ j k' n' hj h1 h2 := by
    have hkl : k < s.length := by
      have := (List.getElem?_eq_some_iff.1 hk).1
      rw [hT.len] at this; rw [h.len]; exact this
    by_cases e : k = k'
    · subst e; simp [hkl]
    · rw [List.getElem?_set_ne e]
      refine h.at_ j k' n' ?_ h1 h2
      rcases Nat.lt_or_ge j i with q | q
      · exact q
      · obtain rfl : j = i := by omega
        have en : n = n' := by rw [hn] at h1; exact Option.some.inj h1
        subst en
        obtain ⟨a1, a2⟩ := List.getElem?_eq_some_iff.1 hk
        obtain ⟨b1, b2⟩ := List.getElem?_eq_some_iff.1 h2
        exact absurd ((List.getElem_inj hT.nodup).1 (a2.trans b2.symm)) e
theorem SeenAt.done {L K : List Tx} {N T : List Nat} {s : List Bool} (h : SeenAt L K N T s K.length) (hT : Ord L T) (hK : Kept L K N) (hN : L.Nodup) {q : Nat} (hq : q < L.length) : s[q]? = some true := by
  have hqT : q < T.length := by rw [hT.len]; exact hq
  have hn := hT.lt (List.getElem_mem hqT)
  have hm : txt L T[q] ∈ L := by rw [txt_get hn]; exact List.getElem_mem hn
  obtain ⟨i, hi, e⟩ := List.getElem_of_mem (hK.all _ hm)
  obtain ⟨n, h1, h2⟩ := hK.nums i _ (List.getElem?_eq_getElem hi)
  rw [e, num_txt hN hn] at h2
  have en : T[q] = n := Option.some.inj h2
  exact h.at_ i q n hi h1 (by rw [List.getElem?_eq_getElem hqT, en])
/-- Two ranks stand as their texts do. -/
theorem rank_cmp {L : List Tx} {T : List Nat} (hT : Ord L T) (hN : L.Nodup) {s t : Tx} {n m j k : Nat} (hs : num L s = some n) (ht : num L t = some m) (hj : T[j]? = some n) (hk : T[k]? = some m) :
    decide (j < k) = Op.bytesLess s t ∧ decide (j = k) = (s == t) := by
  obtain ⟨j1, j2⟩ := List.getElem?_eq_some_iff.1 hj
  obtain ⟨k1, k2⟩ := List.getElem?_eq_some_iff.1 hk
  obtain ⟨n1, n2⟩ := num_some hs
  obtain ⟨m1, m2⟩ := num_some ht
  have h1 := hT.at_ j1 k1
  rw [j2, k2, n2, m2] at h1
  refine ⟨by rw [less_dec]; exact decide_eq_decide.2 h1.symm, ?_⟩
  have h2 : j = k ↔ s = t := by
    constructor
    · rintro rfl
      rw [j2] at k2
      rw [← n2, ← m2, k2]
    · rintro rfl
      rw [hs] at ht
      have e : n = m := Option.some.inj ht
      subst e
      exact (List.getElem_inj hT.nodup).1 (j2.trans k2.symm)
  rw [Bool.eq_iff_iff]
  simp [h2]
end Go.Proofs.Ytlglfcadoofmpaa
