/- The document's own scheduler and the landed one: a lock goes on; a task is gone. -/
import Derived.Test.YtnonidoeakhfdaaH2
namespace Go.Proofs.Ytnonidoeakhfdaa
open Go.RowKit Go.Maps Go.Sort
set_option linter.unusedVariables false

theorem split_at {α : Type} {l : List α} {i : Nat} {x : α} (h : l[i]? = some x) : l = l.take i ++ x :: l.drop (i + 1) := by
  obtain ⟨hi, rfl⟩ := List.getElem?_eq_some_iff.1 h
  rw [← List.drop_eq_getElem_cons hi, List.take_append_drop]
theorem take_all {α : Type} {l : List α} {i : Nat} {P : α → Prop} (h : ∀ j, j < i → ∀ q, l[j]? = some q → P q) : ∀ q ∈ l.take i, P q := by
  intro q hq
  obtain ⟨j, hj⟩ := List.getElem?_of_mem hq
  rw [List.getElem?_take] at hj
  split at hj
  · exact h j ‹_› q hj
  · cases hj

theorem restH_mem {l : List (Int × Int)} {n : Int} {p : Int × Int} : p ∈ restH l n ↔ p ∈ l ∧ p.1 ≠ n := by
  unfold restH; rw [List.mem_filter]; simp
theorem restH_nodup {l : List (Int × Int)} {n : Int} (h : (l.map Prod.fst).Nodup) : ((restH l n).map Prod.fst).Nodup := h.sublist (List.filter_sublist.map _)
theorem restH_lt {l : List (Int × Int)} {n x : Int} (h : (n, x) ∈ l) : (restH l n).length < l.length := by
  unfold restH
  exact List.length_filter_lt_length_iff_exists.2 ⟨_, h, by simp⟩

section
variable {S : SS} {Z Z' : ZS}
theorem Sim.pass (h : Sim S Z) (hW : WF S) {n : Int} {H : HS} (hH : S.lock n = some H) (hF : Freed Z n Z') : Sim (S.pass n) Z' := by
  have hq := h.qu n
  unfold SS.qOf at hq
  rw [hH] at hq
  have hh := h.h2 n H hH
  obtain ⟨H0, Hq⟩ := H
  cases hF with
  | none hno =>
    have he : (Z.queue.filter fun p => p.1 == n) = [] := List.filter_eq_nil_iff.2 fun q hq => by simpa using hno q hq
    have hqn : Hq = [] := by rw [he] at hq; exact hq.symm
    subst hqn
    have e : S.pass n = S.freed n := by unfold SS.pass; rw [hH]
    rw [e]
    have lother : ∀ m, m ≠ n → (S.freed n).lock m = S.lock m := fun m hm => upd_other _ _ hm
    have lself : (S.freed n).lock n = none := upd_same _ _ _
    refine ⟨h.last, h.keys, h.task, restH_nodup h.hn, fun p hp => ?_, fun m H hm => ?_, fun m => ?_, h.op, Nat.le_trans (restH_len _ _) h.hl, h.ql, h.ol⟩
    · obtain ⟨b1, b2⟩ := restH_mem.1 hp
      rw [lother _ b2]; exact h.h1 p b1
    · by_cases e : m = n
      · subst e; rw [lself] at hm; cases hm
      · rw [lother _ e] at hm
        obtain ⟨b1, b2⟩ := h.h2 m H hm
        exact ⟨restH_mem.2 ⟨b1, e⟩, b2⟩
    · unfold SS.qOf
      by_cases e : m = n
      · subst e; rw [lself, he]; rfl
      · rw [lother _ e]; exact h.qu m
  | next i x p P hi hno hP =>
    have hsp := split_at hi
    have htk : ((Z.queue.take i).filter fun p => p.1 == n) = [] := List.filter_eq_nil_iff.2 fun q hq => by simpa using take_all hno q hq
    have hfl : (Z.queue.filter fun p => p.1 == n) = (n, x) :: ((Z.queue.take i ++ Z.queue.drop (i + 1)).filter fun p => p.1 == n) := by
      conv => lhs; rw [hsp]
      rw [List.filter_append, List.filter_append, htk, List.filter_cons]; simp
    rw [hfl] at hq
    cases Hq with
    | nil => simp at hq
    | cons y q =>
      simp only [List.map_cons, List.cons.injEq] at hq
      obtain ⟨rfl, hq⟩ := hq
      obtain ⟨hnd, _, hqs⟩ := hW.q n _ hH
      obtain ⟨T, hT, hk1, hnum⟩ := hqs x (by simp)
      obtain ⟨Q, hQ, hm⟩ := h.task P (List.mem_of_getElem? hP.get)
      rw [hP.n, hT] at hQ; cases hQ
      obtain ⟨a1, a2⟩ := simT_set h.task (h.nodup hW) (P' := { P with kind := 0 }) (Q' := { T with kind := 0, num := 0 }) hP.get rfl ⟨rfl, hm.picks, fun h => absurd rfl h⟩
      have a1 : SimT (upd S.task x (some { T with kind := 0, num := 0 })) (Z.tasks.set p { P with kind := 0 }) := by rw [← hP.n]; exact a1
      have e : S.pass n = S.given n x q T := by unfold SS.pass; rw [hH]; simp only [hT]
      rw [e]
      have lother : ∀ m, m ≠ n → (S.given n x q T).lock m = S.lock m := fun m hm => upd_other _ _ hm
      have lself : (S.given n x q T).lock n = some ⟨x, q⟩ := upd_same _ _ _
      refine ⟨h.last, by show (Z.tasks.set p _).map ZT.n = _; rw [a2]; exact h.keys, a1, ?_, fun r hr => ?_, fun m H hm => ?_, fun m => ?_, h.op, ?_, ?_, h.ol⟩
      · show ((restH Z.held n ++ [(n, x)]).map Prod.fst).Nodup
        rw [List.map_append, List.nodup_append]
        refine ⟨restH_nodup h.hn, by simp, fun a ha b hb => ?_⟩
        simp at hb; subst hb
        obtain ⟨r, hr, rfl⟩ := List.mem_map.1 ha
        exact (restH_mem.1 hr).2
      · rcases List.mem_append.1 (show r ∈ restH Z.held n ++ [(n, x)] from hr) with hr | hr
        · obtain ⟨b1, b2⟩ := restH_mem.1 hr
          rw [lother _ b2]; exact h.h1 r b1
        · rw [List.mem_singleton.1 hr]; exact ⟨_, lself, rfl⟩
      · by_cases e : m = n
        · subst e; rw [lself] at hm; cases hm
          exact ⟨List.mem_append_right _ (by simp), (hW.key hT).1⟩
        · rw [lother _ e] at hm
          obtain ⟨b1, b2⟩ := h.h2 m H hm
          exact ⟨List.mem_append_left _ (restH_mem.2 ⟨b1, e⟩), b2⟩
      · show ((Z.queue.take i ++ Z.queue.drop (i + 1)).filter fun p => p.1 == m).map Prod.snd = _
        unfold SS.qOf
        by_cases e : m = n
        · subst e; rw [lself]; exact hq
        · rw [lother _ e]
          have := h.qu m
          unfold SS.qOf at this
          rw [← this]
          congr 1
          conv => rhs; rw [hsp]
          have hne : (n == m) = false := by simpa using Ne.symm e
          rw [List.filter_append, List.filter_append, List.filter_cons]; simp [hne]
      · show (restH Z.held n ++ [(n, x)]).length ≤ S.used
        have := restH_lt hh.1
        have := h.hl
        simp; omega
      · show (Z.queue.take i ++ Z.queue.drop (i + 1)).length ≤ S.used
        have := h.ql
        rw [List.length_append, List.length_take, List.length_drop]; omega

theorem Sim.gone (h : Sim S Z) (hW : WF S) {t : Int} {p : Nat} {P : ZT} (hP : Z.Has t p P) : Sim (S.gone t) (Z.less p) := by
  have hsp := split_at hP.get
  have hnd := h.nodup hW
  rw [hsp, List.map_append, List.map_cons, List.nodup_append, List.nodup_cons] at hnd
  obtain ⟨n1, ⟨n2, n3⟩, n4⟩ := hnd
  have hne : ∀ T ∈ Z.tasks.take p ++ Z.tasks.drop (p + 1), T.n ≠ t := fun T hT e => by
    rcases List.mem_append.1 hT with hT | hT
    · exact n4 T.n (List.mem_map.2 ⟨T, hT, rfl⟩) P.n (by simp) (by rw [e, hP.n])
    · exact n2 (List.mem_map.2 ⟨T, hT, by rw [e, hP.n]⟩)
  refine ⟨h.last, ?_, fun T hT => ?_, h.hn, h.h1, h.h2, h.qu, h.op, h.hl, h.ql, h.ol⟩
  · show (Z.tasks.take p ++ Z.tasks.drop (p + 1)).map ZT.n = S.keys.filter fun k => decide (k ≠ t)
    rw [← h.keys]
    conv => rhs; rw [hsp]
    rw [List.map_append, List.map_append, List.map_cons, List.filter_append, List.filter_cons, hP.n]
    have f1 : ((Z.tasks.take p).map ZT.n).filter (fun k => decide (k ≠ t)) = (Z.tasks.take p).map ZT.n := List.filter_eq_self.2 fun k hk => by
      obtain ⟨T, hT, rfl⟩ := List.mem_map.1 hk
      simpa using hne T (List.mem_append_left _ hT)
    have f2 : ((Z.tasks.drop (p + 1)).map ZT.n).filter (fun k => decide (k ≠ t)) = (Z.tasks.drop (p + 1)).map ZT.n := List.filter_eq_self.2 fun k hk => by
      obtain ⟨T, hT, rfl⟩ := List.mem_map.1 hk
      simpa using hne T (List.mem_append_right _ hT)
    rw [f1, f2]; simp
  · have hT' : T ∈ Z.tasks.take p ++ Z.tasks.drop (p + 1) := hT
    have hTm : T ∈ Z.tasks := by
      rcases List.mem_append.1 hT' with hT | hT
      · exact List.mem_of_mem_take hT
      · exact List.mem_of_mem_drop hT
    obtain ⟨Q, hQ, hm⟩ := h.task T hTm
    exact ⟨Q, by show upd S.task _ _ _ = _; rw [upd_other _ _ (hne T hT')]; exact hQ, hm⟩

/-- Whoever waits in the list is there. -/
theorem Sim.queued (h : Sim S Z) (hW : WF S) {q : Int × Int} (hq : q ∈ Z.queue) : ∃ p P, Z.Has q.2 p P := by
  have hm : q.2 ∈ S.qOf q.1 := by
    rw [← h.qu q.1]
    exact List.mem_map.2 ⟨q, List.mem_filter.2 ⟨hq, by simp⟩, rfl⟩
  unfold SS.qOf at hm
  cases hH : S.lock q.1 with
  | none => rw [hH] at hm; cases hm
  | some H =>
    rw [hH] at hm
    obtain ⟨T, hT, _⟩ := (hW.q _ H hH).2.2 q.2 hm
    obtain ⟨p, P, hP, _⟩ := h.has hW hT
    exact ⟨p, P, hP⟩

theorem pass_none (hW : WF S) {t : Int} (ht : S.task t = none) (n : Int) : (S.pass n).task t = none := by
  cases hH : S.lock n with
  | none =>
    have e : S.pass n = S := by unfold SS.pass; rw [hH]
    rw [e]; exact ht
  | some H =>
    obtain ⟨h0, q⟩ := H
    cases q with
    | nil =>
      have e : S.pass n = S.freed n := by unfold SS.pass; rw [hH]
      rw [e]; exact ht
    | cons x q =>
      cases hT : S.task x with
      | none =>
        have e : S.pass n = S := by unfold SS.pass; rw [hH]; simp only [hT]
        rw [e]; exact ht
      | some T =>
        have e : S.pass n = S.given n x q T := by unfold SS.pass; rw [hH]; simp only [hT]
        rw [e]
        show upd S.task x _ t = none
        rw [upd_other _ _ (by rintro rfl; rw [ht] at hT; cases hT)]; exact ht
end

/-! ### the least lock of a task -/
theorem leastF_spec (l : List (Int × Int)) (t : Int) (h0 : ∀ p ∈ l, 0 ≤ p.1) :
    (leastF l t < 0 → ∀ p ∈ l, p.2 ≠ t) ∧ (0 ≤ leastF l t → (leastF l t, t) ∈ l ∧ ∀ p ∈ l, p.2 = t → leastF l t ≤ p.1) := by
  have key : ∀ k, k ≤ l.length → (leastF (l.take k) t < 0 → ∀ p ∈ l.take k, p.2 ≠ t) ∧ (0 ≤ leastF (l.take k) t → (leastF (l.take k) t, t) ∈ l.take k ∧ ∀ p ∈ l.take k, p.2 = t → leastF (l.take k) t ≤ p.1) := by
    intro k
    induction k with
    | zero => intro _; simp [leastF]
    | succ k ih =>
      intro hk
      obtain ⟨q, hq⟩ : ∃ q, l[k]? = some q := ⟨_, List.getElem?_eq_getElem (by omega)⟩
      obtain ⟨i1, i2⟩ := ih (by omega)
      have hq0 := h0 q (List.mem_of_getElem? hq)
      rw [leastF_succ hq, List.take_add_one, hq]
      unfold lstep
      simp only [Option.toList, List.mem_append, List.mem_singleton]
      by_cases hc : q.2 = t ∧ (leastF (l.take k) t < 0 ∨ q.1 < leastF (l.take k) t)
      · rw [if_pos hc]
        refine ⟨fun h => by omega, fun _ => ⟨.inr (by obtain ⟨a, b⟩ := q; simp at hc ⊢; exact hc.1.symm), fun p hp hpt => ?_⟩⟩
        rcases hp with hp | rfl
        · rcases hc.2 with hneg | hlt
          · exact absurd hpt (i1 hneg p hp)
          · by_cases h0 : 0 ≤ leastF (l.take k) t
            · have := (i2 h0).2 p hp hpt; omega
            · exact absurd hpt (i1 (by omega) p hp)
        · omega
      · rw [if_neg hc]
        refine ⟨fun h p hp => ?_, fun h => ⟨.inl (i2 h).1, fun p hp hpt => ?_⟩⟩
        · rcases hp with hp | rfl
          · exact i1 h p hp
          · exact fun e => hc ⟨e, .inl h⟩
        · rcases hp with hp | rfl
          · exact (i2 h).2 p hp hpt
          · rcases Int.lt_or_le p.1 (leastF (l.take k) t) with h' | h'
            · exact absurd ⟨hpt, .inr h'⟩ hc
            · exact h'
  have := key l.length (Nat.le_refl _)
  rwa [List.take_length] at this

end Go.Proofs.Ytnonidoeakhfdaa
