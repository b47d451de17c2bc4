/- The dictionary, plain: texts by numbers, and their order. -/
import Derived.Lib.Bytealg
import Derived.Sort.Walk0
namespace Go.Proofs.Ytmaeejojmbibnaa
open Go.Proofs
set_option linter.unusedVariables false

abbrev Tx := List UInt8

/-! ### the order of texts -/
theorem tx_irrefl (a : Tx) : ¬ a < a := List.lt_irrefl a
theorem tx_trans {a b c : Tx} (h : a < b) (k : b < c) : a < c := List.lt_trans h k
theorem tx_asymm {a b : Tx} (h : a < b) : ¬ b < a := fun k => tx_irrefl a (tx_trans h k)
theorem tx_tri {a b : Tx} (h : ¬ a < b) (k : ¬ b < a) : a = b := List.le_antisymm (List.not_lt.1 k) (List.not_lt.1 h)
theorem tx_le_lt {a b c : Tx} (h : ¬ b < a) (k : b < c) : a < c := by
  by_cases e : a < b
  · exact tx_trans e k
  · rw [tx_tri e h]; exact k
theorem tx_lt_le {a b c : Tx} (h : a < b) (k : ¬ c < b) : a < c := by
  by_cases e : b < c
  · exact tx_trans h e
  · rw [← tx_tri e k]; exact h
theorem less_dec (a b : Tx) : Op.bytesLess a b = decide (a < b) := bytesLess_eq a b

theorem cmp_neg : ∀ (a b : Tx), decide (Lib.compareBytes a b < 0) = Op.bytesLess a b
  | [], [] => rfl
  | [], _ :: _ => rfl
  | _ :: _, [] => rfl
  | a :: x, b :: y => by
    unfold Lib.compareBytes Op.bytesLess
    by_cases h : a < b
    · simp [h]
    · by_cases h' : a = b
      · subst h'; simp [cmp_neg x y]
      · have : b < a := by
          rcases UInt8.lt_or_lt_of_ne h' with hh | hh
          · exact absurd hh h
          · exact hh
        simp [h, h', this]
theorem cmp_zero : ∀ (a b : Tx), Lib.compareBytes a b = 0 ↔ a = b
  | [], [] => by simp [Lib.compareBytes]
  | [], _ :: _ => by simp [Lib.compareBytes]
  | _ :: _, [] => by simp [Lib.compareBytes]
  | a :: x, b :: y => by
    unfold Lib.compareBytes
    by_cases h : a < b
    · have : a ≠ b := fun e => by subst e; exact UInt8.lt_irrefl _ h
      simp [h, this]
    · by_cases h' : a = b
      · subst h'; simp [cmp_zero x y]
      · have : b < a := by
          rcases UInt8.lt_or_lt_of_ne h' with hh | hh
          · exact absurd hh h
          · exact hh
        simp [h, h', this]
theorem cmp_lt (a b : Tx) : Lib.compareBytes a b < 0 ↔ a < b := by
  have := cmp_neg a b
  rw [less_dec] at this
  simpa using this

/-! ### numbers -/
def num (L : List Tx) (t : Tx) : Option Nat := L.findIdx? (· == t)
def txt (L : List Tx) (n : Nat) : Tx := L.getD n []

theorem txt_get {L : List Tx} {n : Nat} (h : n < L.length) : txt L n = L[n] := by unfold txt; simp [h]
theorem txt_add {L : List Tx} {t : Tx} {n : Nat} (h : n < L.length) : txt (L ++ [t]) n = txt L n := by
  unfold txt; simp [List.getElem?_append_left h]
theorem txt_new (L : List Tx) (t : Tx) : txt (L ++ [t]) L.length = t := by unfold txt; simp
theorem num_some {L : List Tx} {t : Tx} {n : Nat} (h : num L t = some n) : n < L.length ∧ txt L n = t := by
  unfold num at h
  rw [List.findIdx?_eq_some_iff_getElem] at h
  obtain ⟨h1, h2, _⟩ := h
  exact ⟨h1, by rw [txt_get h1]; simpa using h2⟩
theorem num_none {L : List Tx} {t : Tx} : num L t = none ↔ t ∉ L := by
  unfold num
  rw [List.findIdx?_eq_none_iff]
  constructor
  · intro h hm; simpa using h t hm
  · intro h x hx; simp; rintro rfl; exact h hx
theorem num_mem {L : List Tx} {t : Tx} {n : Nat} (h : num L t = some n) : t ∈ L := by
  obtain ⟨h1, h2⟩ := num_some h
  rw [← h2, txt_get h1]; exact List.getElem_mem h1
theorem num_add {L : List Tx} {t : Tx} (ht : t ∉ L) (s : Tx) : num (L ++ [t]) s = if s = t then some L.length else num L s := by
  unfold num
  rw [List.findIdx?_append]
  by_cases h : s = t
  · subst h
    have : L.findIdx? (· == s) = none := num_none.2 ht
    simp [this]
  · have hts : ¬ t = s := fun e => h e.symm
    simp [h, hts]
theorem num_txt {L : List Tx} (hn : L.Nodup) {n : Nat} (h : n < L.length) : num L (txt L n) = some n := by
  cases e : num L (txt L n) with
  | none => exact absurd (num_none.1 e) (by rw [txt_get h]; simp)
  | some m =>
    obtain ⟨h1, h2⟩ := num_some e
    rw [txt_get h1, txt_get h] at h2
    rw [List.getElem_inj hn] at h2
    rw [h2]
theorem txt_inj {L : List Tx} (hn : L.Nodup) {n m : Nat} (h : n < L.length) (k : m < L.length) (e : txt L n = txt L m) : n = m := by
  have := num_txt hn h
  rw [e, num_txt hn k] at this
  exact (Option.some.inj this).symm

/-! ### their order -/
structure Ord (L : List Tx) (S : List Nat) : Prop where
  perm : S.Perm (List.range L.length)
  up : S.Pairwise fun a b => txt L a < txt L b

theorem Ord.len {L : List Tx} {S : List Nat} (h : Ord L S) : S.length = L.length := by rw [h.perm.length_eq]; simp
theorem Ord.lt {L : List Tx} {S : List Nat} (h : Ord L S) {n : Nat} (hn : n ∈ S) : n < L.length := by simpa using h.perm.mem_iff.1 hn
theorem Ord.mem {L : List Tx} {S : List Nat} (h : Ord L S) {n : Nat} (hn : n < L.length) : n ∈ S := h.perm.mem_iff.2 (by simpa using hn)
theorem Ord.nodup {L : List Tx} {S : List Nat} (h : Ord L S) : S.Nodup := h.perm.nodup_iff.2 List.nodup_range
theorem Ord.unique {L : List Tx} {S S' : List Nat} (h : Ord L S) (h' : Ord L S') : S = S' :=
  List.Perm.eq_of_pairwise (fun a b _ _ h1 h2 => absurd h1 (tx_asymm h2)) h.up h'.up (h.perm.trans h'.perm.symm)
theorem Ord.at_ {L : List Tx} {S : List Nat} (h : Ord L S) {i j : Nat} (hi : i < S.length) (hj : j < S.length) : txt L S[i] < txt L S[j] ↔ i < j := by
  have hp := List.pairwise_iff_getElem.1 h.up
  constructor
  · intro hlt
    rcases Nat.lt_trichotomy i j with e | e | e
    · exact e
    · subst e; exact absurd hlt (tx_irrefl _)
    · exact absurd hlt (tx_asymm (hp j i hj hi e))
  · intro e; exact hp i j hi hj e

/-- K holds each number's place in S. -/
structure Rks (S K : List Nat) : Prop where
  len : K.length = S.length
  at_ : ∀ (i n : Nat), S[i]? = some n → K[n]? = some i

/-- How many texts are below that one. -/
def below (L : List Tx) (S : List Nat) (t : Tx) : Nat := S.countP fun n => decide (txt L n < t)
theorem below_le (L : List Tx) (S : List Nat) (t : Tx) : below L S t ≤ S.length := List.countP_le_length

theorem take_countP {α : Type} (p : α → Bool) : ∀ (l : List α), l.Pairwise (fun a b => p b = true → p a = true) → l.take (l.countP p) = l.filter p ∧ l.drop (l.countP p) = l.filter (fun x => !p x)
  | [], _ => by simp
  | a :: r, h => by
    obtain ⟨h1, h2⟩ := List.pairwise_cons.1 h
    obtain ⟨e1, e2⟩ := take_countP p r h2
    cases ha : p a with
    | true => simp [ha, e1, e2]
    | false =>
      have hr : ∀ b ∈ r, p b = false := fun b hb => by
        cases hb' : p b with
        | false => rfl
        | true => exact absurd (h1 b hb hb') (by simp [ha])
      have c0 : r.countP p = 0 := List.countP_eq_zero.2 fun b hb => by simp [hr b hb]
      have f0 : r.filter p = [] := List.filter_eq_nil_iff.2 fun b hb => by simp [hr b hb]
      have f1 : r.filter (fun x => !p x) = r := List.filter_eq_self.2 fun b hb => by simp [hr b hb]
      simp [ha, c0, f0, f1]

/-- The numbers of the texts from low on that are below high. -/
def btw (L : List Tx) (S : List Nat) (low high : Tx) : List Nat := S.filter fun n => !decide (txt L n < low) && decide (txt L n < high)

theorem Ord.mono {L : List Tx} {S : List Nat} (h : S.Pairwise fun a b => txt L a < txt L b) (t : Tx) : S.Pairwise (fun a b => decide (txt L b < t) = true → decide (txt L a < t) = true) :=
  h.imp fun {a b} hab hb => by
    simp at hb ⊢
    exact tx_trans hab hb
theorem slice_btw {L : List Tx} {S : List Nat} (h : S.Pairwise fun a b => txt L a < txt L b) {low high : Tx} (hlt : low < high) :
    below L S low ≤ below L S high ∧ (S.take (below L S high)).drop (below L S low) = btw L S low high := by
  have hle : below L S low ≤ below L S high := List.countP_mono_left fun n _ hn => by
    simp at hn ⊢; exact tx_trans hn hlt
  refine ⟨hle, ?_⟩
  have e1 := (take_countP _ S (Ord.mono h high)).1
  unfold below at *
  rw [e1]
  have hc : S.countP (fun n => decide (txt L n < low)) = (S.filter fun n => decide (txt L n < high)).countP (fun n => decide (txt L n < low)) := by
    rw [List.countP_filter]
    refine List.countP_congr fun n _ => ?_
    simp
    intro hn; exact tx_trans hn hlt
  rw [hc, (take_countP _ _ (Ord.mono (h.filter _) low)).2, List.filter_filter]
  rfl
theorem btw_none {L : List Tx} {S : List Nat} {low high : Tx} (h : ¬ low < high) : btw L S low high = [] := by
  unfold btw
  rw [List.filter_eq_nil_iff]
  intro n _
  simp
  intro h1 h2
  have h3 : ¬ txt L n < low := h1
  exact h (tx_le_lt h3 h2)
theorem btw_join {L : List Tx} {S : List Nat} (h : S.Pairwise fun a b => txt L a < txt L b) {a b c : Tx} (hab : ¬ b < a) (hbc : ¬ c < b) : btw L S a b ++ btw L S b c = btw L S a c := by
  unfold btw
  induction S with
  | nil => rfl
  | cons n S ih =>
    obtain ⟨h1, h2⟩ := List.pairwise_cons.1 h
    by_cases hb : txt L n < b
    · have e2 : (!decide (txt L n < b) && decide (txt L n < c)) = false := by simp [hb]
      have hc : txt L n < c := tx_lt_le hb hbc
      rw [List.filter_cons, List.filter_cons (x := n) (p := fun n => !decide (txt L n < b) && decide (txt L n < c)), e2]
      by_cases ha : txt L n < a
      · simp [ha, ih h2]
      · simp [ha, hb, hc, ih h2]
    · have f1 : (n :: S).filter (fun n => !decide (txt L n < a) && decide (txt L n < b)) = [] := by
        rw [List.filter_eq_nil_iff]
        intro m hm
        have hm' : ¬ txt L m < b := by
          rcases List.mem_cons.1 hm with rfl | hm
          · exact hb
          · exact fun k => hb (tx_trans (h1 m hm) k)
        simp [hm']
      rw [f1, List.nil_append]
      refine List.filter_congr fun m hm => ?_
      have hm' : ¬ txt L m < b := by
        rcases List.mem_cons.1 hm with rfl | hm
        · exact hb
        · exact fun k => hb (tx_trans (h1 m hm) k)
      have ha : ¬ txt L m < a := fun k => hm' (tx_lt_le k hab)
      simp [hm', ha]
end Go.Proofs.Ytmaeejojmbibnaa
