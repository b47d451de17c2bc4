/- SchedFair: what the law keeps. -/
import Derived.Test.YtnonidoeakhfdaaD4
namespace Go.Proofs.Ytnonidoeakhfdaa
open Go.RowKit Go.Maps Go.Sort
set_option linter.unusedVariables false

theorem rng_nodup (n : Nat) : (rng n).Nodup := by
  unfold rng
  refine List.pairwise_map.2 (List.nodup_range.imp fun h => ?_)
  omega

/-- One lock; q: who holds it, and behind it who waits, in their order. -/
structure HI (S : SS) (n : Nat) (lock : Int) (q : List Int) (u : Nat) : Prop where
  keys : S.keys = rng n
  nd : q.Nodup
  sub : ∀ x ∈ q, x ∈ rng n
  lk : S.lock lock = match q with | [] => none | h :: t => some ⟨h, t⟩
  task : ∀ x ∈ rng n, ∃ T, S.task x = some T ∧ (if x ∈ q.tail then T.kind = 1 ∧ T.num = lock else T.kind = 0)
  used : S.used ≤ u

theorem HI.of_ti {S : SS} {n u : Nat} (h : TI S n T0 u) (lock : Int) (hl : ∀ n, S.lock n = none) : HI S n lock [] u where
  keys := h.keys
  nd := List.nodup_nil
  sub := by simp
  lk := hl lock
  task := fun x hx => by
    obtain ⟨k, hk, rfl⟩ := rng_mem.1 hx
    exact ⟨_, h.task k hk, by simp [T0]⟩
  used := h.used

theorem HI.holder {S : SS} {n u : Nat} {lock : Int} {q : List Int} (h : HI S n lock q u) : S.holderC lock = q.headD 0 := by
  unfold SS.holderC
  rw [h.lk]
  cases q <;> rfl

/-- Who comes first has the lock; who comes later waits. -/
theorem HI.lock {S : SS} {n u : Nat} {lock t : Int} {q : List Int} (h : HI S n lock q u) (h0 : 0 ≤ lock) (ht : t ∈ rng n) (htq : t ∉ q) :
    (S.lockC t lock).1 = (q.isEmpty, 0) ∧ HI (S.lockC t lock).2 n lock (q ++ [t]) (u + 1) := by
  obtain ⟨T, hT, hk⟩ := h.task t ht
  have htt : t ∉ q.tail := fun hm => htq (List.mem_of_mem_tail hm)
  rw [if_neg htt] at hk
  have hus := h.used
  cases q with
  | nil =>
    have hl : S.lock lock = none := h.lk
    have e : S.lockC t lock = ((true, 0), S.taken t lock) := by unfold SS.lockC; rw [if_neg (by omega), hT]; simp [hk, hl]
    rw [e]
    refine ⟨rfl, ⟨h.keys, by simp, fun x hx => ?_, ?_, fun x hx => ?_, ?_⟩⟩
    · simp at hx; subst hx; exact ht
    · exact upd_same _ _ _
    · obtain ⟨T', hT', hk'⟩ := h.task x hx
      exact ⟨T', hT', by simpa using hk'⟩
    · show S.used + 1 ≤ u + 1; omega
  | cons a q =>
    have hl : S.lock lock = some ⟨a, q⟩ := h.lk
    have hne : a ≠ t := fun e => htq (by simp [e])
    have e : S.lockC t lock = ((false, 0), S.waits t lock ⟨a, q⟩ T) := by unfold SS.lockC; rw [if_neg (by omega), hT]; simp [hk, hl, hne]
    rw [e]
    refine ⟨rfl, ⟨h.keys, ?_, fun x hx => ?_, ?_, fun x hx => ?_, ?_⟩⟩
    · refine List.nodup_append.2 ⟨h.nd, by simp, fun x hx y hy => ?_⟩
      simp at hy; subst hy; rintro rfl; exact htq hx
    · rcases List.mem_append.1 hx with hx | hx
      · exact h.sub x hx
      · rw [List.mem_singleton.1 hx]; exact ht
    · exact upd_same _ _ _
    · show ∃ T', upd S.task t _ x = some T' ∧ if x ∈ q ++ [t] then _ else _
      by_cases e : x = t
      · subst e
        rw [upd_same]
        exact ⟨_, rfl, by simp⟩
      · rw [upd_other _ _ e]
        obtain ⟨T', hT', hk'⟩ := h.task x hx
        refine ⟨T', hT', ?_⟩
        simp only [List.tail_cons] at hk'
        simp only [List.mem_append, List.mem_singleton, e, or_false]
        exact hk'
    · show S.used + 1 ≤ u + 1; omega

/-- Who holds it gives it to the next one. -/
theorem HI.unlock {S : SS} {n u : Nat} {lock a : Int} {q : List Int} (h : HI S n lock (a :: q) u) (h0 : 0 ≤ lock) : (S.unlockC a lock).1 = 0 ∧ HI (S.unlockC a lock).2 n lock q u := by
  obtain ⟨T, hT, _⟩ := h.task a (h.sub a (by simp))
  have hl : S.lock lock = some ⟨a, q⟩ := h.lk
  have hh : S.holderC lock = a := h.holder
  have e : S.unlockC a lock = (0, S.pass lock) := by unfold SS.unlockC; rw [if_neg (by omega), hT]; simp [hh]
  rw [e]
  refine ⟨rfl, ?_⟩
  have hnd := List.nodup_cons.1 h.nd
  cases q with
  | nil =>
    have ep : S.pass lock = S.freed lock := by unfold SS.pass; rw [hl]
    rw [ep]
    refine ⟨h.keys, List.nodup_nil, by simp, upd_same _ _ _, fun x hx => ?_, h.used⟩
    obtain ⟨T', hT', hk'⟩ := h.task x hx
    exact ⟨T', hT', by simpa using hk'⟩
  | cons b q =>
    obtain ⟨Tb, hTb, _⟩ := h.task b (h.sub b (by simp))
    have ep : S.pass lock = S.given lock b q Tb := by unfold SS.pass; rw [hl]; simp only [hTb]
    rw [ep]
    have hnd2 := List.nodup_cons.1 hnd.2
    refine ⟨h.keys, hnd.2, fun x hx => h.sub x (by simp at hx ⊢; exact .inr hx), upd_same _ _ _, fun x hx => ?_, h.used⟩
    show ∃ T', upd S.task b _ x = some T' ∧ if x ∈ q then _ else _
    by_cases e : x = b
    · subst e
      rw [upd_same]
      exact ⟨_, rfl, by rw [if_neg hnd2.1]⟩
    · rw [upd_other _ _ e]
      obtain ⟨T', hT', hk'⟩ := h.task x hx
      refine ⟨T', hT', ?_⟩
      simp only [List.tail_cons, List.mem_cons, e, false_or] at hk'
      exact hk'

theorem filter_out : ∀ (l q : List Int), l.Nodup → q.Nodup → (∀ x ∈ q, x ∈ l) → (l.filter fun x => decide (x ∉ q)).length + q.length = l.length := by
  intro l q hl hq hs
  have hp : (q ++ l.filter fun x => decide (x ∉ q)).Perm l := by
    refine (List.perm_ext_iff_of_nodup (List.nodup_append.2 ⟨hq, hl.filter _, fun a ha b hb => ?_⟩) hl).2 fun x => ?_
    · rintro rfl
      have := (List.mem_filter.1 hb).2
      simp at this; exact this ha
    · rw [List.mem_append, List.mem_filter]
      constructor
      · rintro (h | h)
        · exact hs x h
        · exact h.1
      · intro h
        by_cases hx : x ∈ q
        · exact .inl hx
        · exact .inr ⟨h, by simpa using hx⟩
  have := hp.length_eq
  rw [List.length_append] at this
  omega

theorem HI.ready {S : SS} {n u : Nat} {lock : Int} {q : List Int} (h : HI S n lock q u) : S.ready.length + q.tail.length = n := by
  have e : S.ready = (rng n).filter fun x => decide (x ∉ q.tail) := by
    unfold SS.ready SS.those
    rw [h.keys]
    apply List.filter_congr
    intro x hx
    obtain ⟨T, hT, hk⟩ := h.task x hx
    rw [hT]
    by_cases hm : x ∈ q.tail
    · rw [if_pos hm] at hk; simp [rdy, hk.1, hm]
    · rw [if_neg hm] at hk; simp [rdy, hk, hm]
  rw [e]
  have := filter_out (rng n) q.tail (rng_nodup n) (h.nd.sublist (List.tail_sublist q)) fun x hx => h.sub x (List.mem_of_mem_tail hx)
  rw [rng_len] at this
  exact this

theorem HI.stuck {S : SS} {n u : Nat} {lock : Int} (h : HI S n lock [] u) : S.stuck = false := by
  have := h.ready
  simp at this
  unfold SS.stuck
  rw [h.keys]
  cases n with
  | zero => rfl
  | succ n =>
    have : S.ready.isEmpty = false := by
      cases hr : S.ready with
      | nil => rw [hr] at this; simp at this
      | cons => rfl
    rw [this]; simp

/-- One is taken out of a list. -/
def rest_ (l : List Int) (k : Nat) : List Int := l.take k ++ l.drop (k + 1)
theorem rest_perm {l : List Int} {k : Nat} {t : Int} (h : l[k]? = some t) : (t :: rest_ l k).Perm l := by
  have hk := (List.getElem?_eq_some_iff.1 h)
  obtain ⟨hk, rfl⟩ := hk
  have e : l = l.take k ++ l[k] :: l.drop (k + 1) := by
    rw [← List.drop_eq_getElem_cons hk, List.take_append_drop]
  unfold rest_
  refine List.perm_middle.symm.trans ?_
  rw [← e]
theorem rest_len {l : List Int} {k : Nat} (h : k < l.length) : (rest_ l k).length + 1 = l.length := by
  unfold rest_; rw [List.length_append, List.length_take, List.length_drop]; omega

end Go.Proofs.Ytnonidoeakhfdaa
