/- Well made stays well made. -/
import Derived.Test.YtnonidoeakhfdaaB3
namespace Go.Proofs.Ytnonidoeakhfdaa
open Go.RowKit Go.Maps Go.Sort
set_option linter.unusedVariables false

def SS.gone (S : SS) (t : Int) : SS := { S with keys := S.keys.filter (fun k => decide (k ≠ t)), task := upd S.task t none }

section
variable {S : SS}
theorem WF.made (h : WF S) (h8 : S.keys.length < 64) (hu : S.used < 1000000) : WF S.made where
  rt := Rt.add h.rt _ h.fresh
  sorted := by
    show (S.keys ++ [S.last + 1]).Pairwise (· < ·)
    rw [List.pairwise_append]
    exact ⟨h.sorted, List.pairwise_singleton _ _, fun a ha b hb => by rw [List.mem_singleton.1 hb]; have := h.keys a ha; omega⟩
  rl := h.rl
  n64 := by show (S.keys ++ [S.last + 1]).length ≤ 64; simp; omega
  keys := fun n hn => by
    have hn' : n ∈ S.keys ++ [S.last + 1] := hn
    show 1 ≤ n ∧ n ≤ S.last + 1
    have := h.last
    rcases List.mem_append.1 hn' with hn' | hn'
    · have := h.keys n hn'; omega
    · rw [List.mem_singleton.1 hn']; omega
  last := by have := h.last; show 0 ≤ S.last + 1 ∧ S.last + 1 ≤ ((S.used + 1 : Nat) : Int); omega
  used := hu
  lused := by have := h.lused; show S.locks.length ≤ S.used + 1; omega
  picks := fun n T hT => by
    have hT' : upd S.task (S.last + 1) (some ⟨0, 0, 0⟩) n = some T := hT
    show 0 ≤ T.picks ∧ T.picks ≤ ((S.used + 1 : Nat) : Int)
    by_cases e : n = S.last + 1
    · subst e; rw [upd_same] at hT'; cases hT'; simp; omega
    · rw [upd_other _ _ e] at hT'; have := h.picks n T hT'; omega
  q := fun n H hH => by
    obtain ⟨h1, h2, h3⟩ := h.q n H hH
    refine ⟨h1, by show H.queue.length ≤ S.used + 1; omega, fun x hx => ?_⟩
    obtain ⟨T, hT, hk⟩ := h3 x hx
    refine ⟨T, ?_, hk⟩
    have e : x ≠ S.last + 1 := by rintro rfl; rw [h.fresh] at hT; cases hT
    show upd S.task _ _ x = _
    rw [upd_other _ _ e]; exact hT
  lwf := h.lwf
theorem WF.started (h : WF S) (hu : S.used < 1000000) : WF S.started.2 := by
  unfold SS.started
  split
  · exact h
  · exact h.made (by omega) hu

/-- A task turns that waits for no lock, ahead and behind. -/
theorem WF.turn (h : WF S) {n : Int} {T T' : TS} (hT : S.task n = some T) (hk : T.kind ≠ 1) {u : Nat} (hu : S.used ≤ u) (hu2 : u ≤ 1000000) (hp : 0 ≤ T'.picks ∧ T'.picks ≤ (u : Int)) : WF { S.setT n T' with used := u } where
  rt := h.rt.set hT
  sorted := h.sorted
  rl := h.rl
  n64 := h.n64
  keys := h.keys
  last := by have := h.last; show 0 ≤ S.last ∧ S.last ≤ (u : Int); omega
  used := hu2
  lused := Nat.le_trans h.lused hu
  picks := fun m Q hQ => by
    have hQ' : upd S.task n (some T') m = some Q := hQ
    show 0 ≤ Q.picks ∧ Q.picks ≤ (u : Int)
    by_cases e : m = n
    · subst e; rw [upd_same] at hQ'; cases hQ'; exact hp
    · rw [upd_other _ _ e] at hQ'; have := h.picks m Q hQ'; omega
  q := fun m H hH => by
    obtain ⟨h1, h2, h3⟩ := h.q m H hH
    refine ⟨h1, Nat.le_trans h2 hu, fun x hx => ?_⟩
    obtain ⟨Q, hQ, hk1, hk2⟩ := h3 x hx
    have e : x ≠ n := by rintro rfl; rw [hT] at hQ; cases hQ; exact hk hk1
    exact ⟨Q, by show upd S.task _ _ x = _; rw [upd_other _ _ e]; exact hQ, hk1, hk2⟩
  lwf := h.lwf
theorem WF.picked (h : WF S) (hu : S.used < 1000000) {n : Int} (hn : ∀ T, S.task n = some T → T.kind = 0) : WF (S.picked n) := by
  unfold SS.picked
  cases hT : S.task n with
  | none => exact h
  | some T =>
    have := h.picks n T hT
    exact h.turn hT (by rw [hn T hT]; decide) (Nat.le_succ _) hu ⟨by show 0 ≤ T.picks + 1; omega, by show T.picks + 1 ≤ ((S.used + 1 : Nat) : Int); omega⟩
theorem WF.pick (h : WF S) (hu : S.used < 1000000) (n : Int) : WF (S.pick n).2 := by
  unfold SS.pick
  cases he : S.ready.isEmpty
  · simp only [Bool.false_eq_true, if_false]
    have hpos : 0 < S.ready.length := by cases hq : S.ready with
      | nil => rw [hq] at he; cases he
      | cons => simp
    obtain ⟨T, hT, hk⟩ := ready_mem h.rt (List.mem_of_getElem? (pickT_get hpos n))
    exact h.picked hu fun T' hT' => by rw [hT] at hT'; cases hT'; exact hk
  · exact h
theorem WF.taken (h : WF S) (hu : S.used < 1000000) {t n : Int} (hn : S.lock n = none) (h0 : 0 ≤ n) (h1 : n ≤ 9223372036854775807) : WF (S.taken t n) where
  rt := h.rt
  sorted := h.sorted
  rl := Rt.add h.rl _ hn
  n64 := h.n64
  keys := h.keys
  last := by have := h.last; show 0 ≤ S.last ∧ S.last ≤ ((S.used + 1 : Nat) : Int); omega
  used := hu
  lused := by have := h.lused; show (S.locks ++ [n]).length ≤ S.used + 1; simp; omega
  picks := fun m Q hQ => by have := h.picks m Q hQ; show 0 ≤ Q.picks ∧ Q.picks ≤ ((S.used + 1 : Nat) : Int); omega
  q := fun m H hH => by
    have hH' : upd S.lock n (some ⟨t, []⟩) m = some H := hH
    by_cases e : m = n
    · subst e; rw [upd_same] at hH'; cases hH'
      exact ⟨List.nodup_nil, Nat.zero_le _, fun x hx => by cases hx⟩
    · rw [upd_other _ _ e] at hH'
      obtain ⟨a1, a2, a3⟩ := h.q m H hH'
      exact ⟨a1, by show H.queue.length ≤ S.used + 1; omega, a3⟩
  lwf := fun m hm => by
    have hm' : m ∈ S.locks ++ [n] := hm
    rcases List.mem_append.1 hm' with hm' | hm'
    · exact h.lwf m hm'
    · rw [List.mem_singleton.1 hm']; exact ⟨h0, h1⟩
theorem WF.waits (h : WF S) (hu : S.used < 1000000) {t n : Int} {H : HS} {T : TS} (hH : S.lock n = some H) (hT : S.task t = some T) (hk : T.kind = 0) : WF (S.waits t n H T) where
  rt := h.rt.set hT
  sorted := h.sorted
  rl := h.rl.set hH
  n64 := h.n64
  keys := h.keys
  last := by have := h.last; show 0 ≤ S.last ∧ S.last ≤ ((S.used + 1 : Nat) : Int); omega
  used := hu
  lused := by have := h.lused; show S.locks.length ≤ S.used + 1; omega
  picks := fun m Q hQ => by
    have hQ' : upd S.task t (some { T with kind := 1, num := n }) m = some Q := hQ
    show 0 ≤ Q.picks ∧ Q.picks ≤ ((S.used + 1 : Nat) : Int)
    by_cases e : m = t
    · subst e; rw [upd_same] at hQ'; cases hQ'; have := h.picks m T hT; refine ⟨this.1, ?_⟩; show T.picks ≤ _; omega
    · rw [upd_other _ _ e] at hQ'; have := h.picks m Q hQ'; omega
  q := fun m H' hH' => by
    have hnt : ∀ m K, S.lock m = some K → t ∉ K.queue := fun m K hK hx => by
      obtain ⟨Q, hQ, hk1, _⟩ := (h.q m K hK).2.2 t hx
      rw [hT] at hQ; cases hQ; rw [hk] at hk1; cases hk1
    have key : ∀ x Q, S.task x = some Q → x ≠ t → upd S.task t (some { T with kind := 1, num := n }) x = some Q := fun x Q hQ hx => by rw [upd_other _ _ hx]; exact hQ
    have hH2 : upd S.lock n (some ⟨H.holder, H.queue ++ [t]⟩) m = some H' := hH'
    by_cases e : m = n
    · subst e; rw [upd_same] at hH2; cases hH2
      obtain ⟨a1, a2, a3⟩ := h.q m H hH
      refine ⟨List.nodup_append.2 ⟨a1, by simp, fun a ha b hb => ?_⟩, by show (H.queue ++ [t]).length ≤ S.used + 1; simp; omega, fun x hx => ?_⟩
      · simp at hb; subst hb; rintro rfl; exact hnt m H hH ha
      · rcases List.mem_append.1 hx with hx1 | hx1
        · obtain ⟨Q, hQ, hk1⟩ := a3 x hx1
          exact ⟨Q, key x Q hQ (by rintro rfl; exact hnt m H hH hx1), hk1⟩
        · rw [List.mem_singleton.1 hx1]
          exact ⟨{ T with kind := 1, num := m }, upd_same _ _ _, rfl, rfl⟩
    · rw [upd_other _ _ e] at hH2
      obtain ⟨a1, a2, a3⟩ := h.q m H' hH2
      refine ⟨a1, by show H'.queue.length ≤ S.used + 1; omega, fun x hx => ?_⟩
      obtain ⟨Q, hQ, hk1⟩ := a3 x hx
      exact ⟨Q, key x Q hQ (by rintro rfl; exact hnt m H' hH2 hx), hk1⟩
  lwf := h.lwf
theorem WF.lockC (h : WF S) (hu : S.used < 1000000) (t n : Int) (h1 : n ≤ 9223372036854775807) : WF (S.lockC t n).2 := by
  unfold SS.lockC
  split
  · exact h
  · cases hT : S.task t with
    | none => exact h
    | some T =>
      simp only
      split
      · exact h
      · rename_i hn hk
        have hk' : T.kind = 0 := by omega
        cases hH : S.lock n with
        | none => exact h.taken hu hH (by omega) h1
        | some H =>
          simp only
          split
          · exact h
          · exact h.waits hu hH hT hk'

theorem WF.freed (h : WF S) (n : Int) : WF (S.freed n) where
  rt := h.rt
  sorted := h.sorted
  rl := Rt.del h.rl n
  n64 := h.n64
  keys := h.keys
  last := h.last
  used := h.used
  lused := Nat.le_trans (List.length_filter_le _ _) h.lused
  picks := h.picks
  q := fun m H hH => by
    have hH' : upd S.lock n none m = some H := hH
    have e : m ≠ n := by rintro rfl; rw [upd_same] at hH'; cases hH'
    rw [upd_other _ _ e] at hH'
    exact h.q m H hH'
  lwf := fun m hm => h.lwf m (List.mem_filter.1 hm).1
theorem WF.given (h : WF S) {n h0 x : Int} {q : List Int} {T : TS} (hH : S.lock n = some ⟨h0, x :: q⟩) (hT : S.task x = some T) : WF (S.given n x q T) where
  rt := h.rt.set hT
  sorted := h.sorted
  rl := h.rl.set hH
  n64 := h.n64
  keys := h.keys
  last := h.last
  used := h.used
  lused := h.lused
  picks := fun m Q hQ => by
    have hQ' : upd S.task x (some { T with kind := 0, num := 0 }) m = some Q := hQ
    by_cases e : m = x
    · subst e; rw [upd_same] at hQ'; cases hQ'; exact h.picks m T hT
    · rw [upd_other _ _ e] at hQ'; exact h.picks m Q hQ'
  q := fun m H' hH' => by
    have hnum : T.kind = 1 ∧ T.num = n := by
      obtain ⟨Q, hQ, hk⟩ := (h.q n _ hH).2.2 x (by simp)
      rw [hT] at hQ; cases hQ; exact hk
    have key : ∀ y Q, S.task y = some Q → y ≠ x → upd S.task x (some { T with kind := 0, num := 0 }) y = some Q := fun y Q hQ hx => by rw [upd_other _ _ hx]; exact hQ
    have hH2 : upd S.lock n (some ⟨x, q⟩) m = some H' := hH'
    by_cases e : m = n
    · subst e; rw [upd_same] at hH2; cases hH2
      obtain ⟨a1, a2, a3⟩ := h.q m _ hH
      have hnd := List.nodup_cons.1 a1
      refine ⟨hnd.2, by simp at a2; show q.length ≤ S.used; omega, fun y hy => ?_⟩
      obtain ⟨Q, hQ, hk1⟩ := a3 y (by simp; exact .inr hy)
      exact ⟨Q, key y Q hQ (by rintro rfl; exact hnd.1 hy), hk1⟩
    · rw [upd_other _ _ e] at hH2
      obtain ⟨a1, a2, a3⟩ := h.q m H' hH2
      refine ⟨a1, a2, fun y hy => ?_⟩
      obtain ⟨Q, hQ, hk1, hk2⟩ := a3 y hy
      exact ⟨Q, key y Q hQ (by rintro rfl; rw [hT] at hQ; cases hQ; exact e (by rw [← hk2, hnum.2])), hk1, hk2⟩
  lwf := h.lwf
theorem WF.pass (h : WF S) (n : Int) : WF (S.pass n) := by
  unfold SS.pass
  cases hH : S.lock n with
  | none => exact h
  | some H =>
    obtain ⟨h0, q⟩ := H
    cases q with
    | nil => exact h.freed n
    | cons x q =>
      simp only
      cases hT : S.task x with
      | none => exact h
      | some T => exact h.given hH hT
theorem WF.unlockC (h : WF S) (t n : Int) : WF (S.unlockC t n).2 := by
  unfold SS.unlockC
  split
  · exact h
  · cases hT : S.task t with
    | none => exact h
    | some T =>
      simp only
      split
      · exact h
      · exact h.pass n
theorem WF.awaitC (h : WF S) (t n : Int) : WF (S.awaitC t n).2 := by
  unfold SS.awaitC
  split
  · exact h
  · cases hT : S.task t with
    | none => exact h
    | some T =>
      simp only
      split
      · exact h
      · rename_i hn hk
        split
        · exact h
        · exact h.turn (u := S.used) hT (by omega) (Nat.le_refl _) h.used (h.picks t T hT)
theorem WF.gone (h : WF S) {t : Int} {T : TS} (hT : S.task t = some T) (hk : T.kind = 0) : WF (S.gone t) where
  rt := Rt.del h.rt t
  sorted := h.sorted.filter _
  rl := h.rl
  n64 := Nat.le_trans (List.length_filter_le _ _) h.n64
  keys := fun n hn => h.keys n (List.mem_filter.1 hn).1
  last := h.last
  used := h.used
  lused := h.lused
  picks := fun m Q hQ => by
    have hQ' : upd S.task t none m = some Q := hQ
    have e : m ≠ t := by rintro rfl; rw [upd_same] at hQ'; cases hQ'
    rw [upd_other _ _ e] at hQ'; exact h.picks m Q hQ'
  q := fun m H hH => by
    obtain ⟨a1, a2, a3⟩ := h.q m H hH
    refine ⟨a1, a2, fun x hx => ?_⟩
    obtain ⟨Q, hQ, hk1, hk2⟩ := a3 x hx
    have e : x ≠ t := by rintro rfl; rw [hT] at hQ; cases hQ; rw [hk] at hk1; cases hk1
    exact ⟨Q, by show upd S.task _ _ x = _; rw [upd_other _ _ e]; exact hQ, hk1, hk2⟩
  lwf := h.lwf

theorem pass_lock_other (S : SS) {n m : Int} (hne : m ≠ n) : (S.pass n).lock m = S.lock m := by
  unfold SS.pass
  cases hH : S.lock n with
  | none => rfl
  | some H =>
    obtain ⟨h0, q⟩ := H
    cases q with
    | nil => exact upd_other _ _ hne
    | cons x q =>
      simp only
      cases hT : S.task x with
      | none => rfl
      | some T => exact upd_other _ _ hne
def SS.passAll (S : SS) (l : List Int) : SS := l.foldl SS.pass S
theorem WF.passAll (h : WF S) (l : List Int) : WF (S.passAll l) := by
  unfold SS.passAll
  induction l generalizing S with
  | nil => exact h
  | cons x l ih => exact ih (h.pass x)
theorem passAll_lock (S : SS) (l : List Int) {m : Int} (hm : m ∉ l) : (S.passAll l).lock m = S.lock m := by
  unfold SS.passAll
  induction l generalizing S with
  | nil => rfl
  | cons x l ih =>
    simp only [List.mem_cons, not_or] at hm
    rw [List.foldl_cons, ih _ hm.2, pass_lock_other S hm.1]

/-- The locks that a task holds, rising. -/
def SS.holdsOf (S : SS) (t : Int) : List Int := (S.locks.filter fun n => (S.lock n).any fun H => H.holder == t).mergeSort leI
def SS.endC (S : SS) (t : Int) : Int × SS :=
  match S.task t with
  | none => (18, S)
  | some T => if T.kind ≠ 0 then (51, S) else (0, (S.gone t).passAll (S.holdsOf t))
theorem WF.endC (h : WF S) (t : Int) : WF (S.endC t).2 := by
  unfold SS.endC
  cases hT : S.task t with
  | none => exact h
  | some T =>
    simp only
    split
    · exact h
    · exact (h.gone hT (by omega)).passAll _
theorem holdsOf_mem {S : SS} (hr : Rt S.locks S.lock) {t n : Int} : n ∈ S.holdsOf t ↔ ∃ H, S.lock n = some H ∧ H.holder = t := by
  unfold SS.holdsOf
  rw [(List.mergeSort_perm _ _).mem_iff, List.mem_filter, hr.2 n]
  cases hH : S.lock n with
  | none => simp
  | some H => simp
theorem holdsOf_nodup {S : SS} (hr : Rt S.locks S.lock) (t : Int) : (S.holdsOf t).Nodup := (List.mergeSort_perm _ _).nodup_iff.2 (hr.1.filter _)
theorem holdsOf_len (S : SS) (t : Int) : (S.holdsOf t).length ≤ S.locks.length := by
  unfold SS.holdsOf
  rw [List.length_mergeSort]; exact List.length_filter_le _ _
end

end Go.Proofs.Ytnonidoeakhfdaa
