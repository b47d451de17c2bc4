/- The document's own scheduler and the landed one: of one state; what starts, picks, takes, waits keeps it. -/
import Derived.Test.YtnonidoeakhfdaaH1
namespace Go.Proofs.Ytnonidoeakhfdaa
open Go.RowKit Go.Maps Go.Sort
set_option linter.unusedVariables false

structure Mt (T : ZT) (Q : TS) : Prop where
  kind : T.kind = Q.kind
  picks : T.picks = Q.picks
  num : Q.kind ≠ 0 → T.num = Q.num
def SimT (task : Int → Option TS) (l : List ZT) : Prop := ∀ T ∈ l, ∃ Q, task T.n = some Q ∧ Mt T Q
def SS.qOf (S : SS) (n : Int) : List Int := match S.lock n with
  | none => []
  | some H => H.queue

structure Sim (S : SS) (Z : ZS) : Prop where
  last : Z.last = S.last
  keys : Z.tasks.map ZT.n = S.keys
  task : SimT S.task Z.tasks
  hn : (Z.held.map Prod.fst).Nodup
  h1 : ∀ p ∈ Z.held, ∃ H, S.lock p.1 = some H ∧ H.holder = p.2
  h2 : ∀ n H, S.lock n = some H → (n, H.holder) ∈ Z.held ∧ 1 ≤ H.holder
  qu : ∀ n, (Z.queue.filter fun p => p.1 == n).map Prod.snd = S.qOf n
  op : ∀ n, n ∈ Z.opens ↔ S.opens n = true
  hl : Z.held.length ≤ S.used
  ql : Z.queue.length ≤ S.used
  ol : Z.opens.length ≤ S.used

def ZS.zero : ZS := ⟨0, [], [], [], []⟩
theorem Sim.zero : Sim SS.zero ZS.zero :=
  ⟨rfl, rfl, (fun T hT => by cases hT), List.nodup_nil, (fun p hp => by cases hp), (fun n H hH => by cases hH), fun n => rfl, (fun n => by simp [ZS.zero, SS.zero]), Nat.le_refl _, Nat.le_refl _, Nat.le_refl _⟩

theorem simT_set {task : Int → Option TS} {l : List ZT} (h : SimT task l) (hnd : (l.map ZT.n).Nodup) {p : Nat} {P P' : ZT} {Q' : TS} (hP : l[p]? = some P) (hn : P'.n = P.n) (hm : Mt P' Q') :
    SimT (upd task P.n (some Q')) (l.set p P') ∧ (l.set p P').map ZT.n = l.map ZT.n := by
  have hpl := (List.getElem?_eq_some_iff.1 hP).1
  constructor
  · intro T hT
    obtain ⟨j, hj⟩ := List.getElem?_of_mem hT
    by_cases e : j = p
    · subst e
      rw [List.getElem?_set_self hpl] at hj
      cases hj
      exact ⟨Q', by rw [hn, upd_same], hm⟩
    · rw [List.getElem?_set_ne (Ne.symm e)] at hj
      have hne : T.n ≠ P.n := fun e2 => e ((List.getElem?_inj (l := l.map ZT.n) (by rw [List.length_map]; exact (List.getElem?_eq_some_iff.1 hj).1) hnd).1 (by rw [List.getElem?_map, List.getElem?_map, hj, hP]; simp [e2]))
      obtain ⟨Q, hQ, hm⟩ := h T (List.mem_of_getElem? hj)
      exact ⟨Q, by rw [upd_other _ _ hne]; exact hQ, hm⟩
  · rw [List.map_set, hn]
    refine List.ext_getElem? fun i => ?_
    by_cases e : i = p
    · subst e
      rw [List.getElem?_set_self (by rw [List.length_map]; exact hpl), List.getElem?_map, hP]; rfl
    · rw [List.getElem?_set_ne (Ne.symm e)]

theorem hget_no {l : List (Int × Int)} {n : Int} (h : n ∉ l.map Prod.fst) : hget l n = 0 := by
  induction l with
  | nil => rfl
  | cons p l ih =>
    rw [List.map_cons, List.mem_cons, not_or] at h
    unfold hget
    rw [if_neg (Ne.symm h.1), ih h.2]
theorem hget_mem {l : List (Int × Int)} {n x : Int} (hnd : (l.map Prod.fst).Nodup) (h : (n, x) ∈ l) : hget l n = x := by
  induction l with
  | nil => cases h
  | cons p l ih =>
    rw [List.map_cons, List.nodup_cons] at hnd
    unfold hget
    rcases List.mem_cons.1 h with rfl | h
    · rw [if_pos rfl]
    · rw [if_neg, ih hnd.2 h]
      intro e
      exact hnd.1 (e ▸ List.mem_map.2 ⟨(n, x), h, rfl⟩)

section
variable {S : SS} {Z : ZS}
theorem Sim.nodup (h : Sim S Z) (hW : WF S) : (Z.tasks.map ZT.n).Nodup := by rw [h.keys]; exact hW.rt.1
theorem Sim.has (h : Sim S Z) (hW : WF S) {t : Int} {Q : TS} (hQ : S.task t = some Q) : ∃ p P, Z.Has t p P ∧ Mt P Q := by
  rcases has_or Z t with ⟨p, P, hP⟩ | hno
  · obtain ⟨Q', hQ', hm⟩ := h.task P (List.mem_of_getElem? hP.get)
    rw [hP.n, hQ] at hQ'
    cases hQ'
    exact ⟨p, P, hP, hm⟩
  · have hk : t ∈ S.keys := (hW.rt.2 t).2 (by rw [hQ]; rfl)
    rw [← h.keys] at hk
    obtain ⟨T, hT, hn⟩ := List.mem_map.1 hk
    exact absurd hn (hno T hT)
theorem Sim.hasnt (h : Sim S Z) {t : Int} (hQ : S.task t = none) : Z.Hasnt t := fun T hT hn => by
  obtain ⟨Q, hQ', _⟩ := h.task T hT
  rw [hn, hQ] at hQ'; cases hQ'
theorem Sim.len (h : Sim S Z) : Z.tasks.length = S.keys.length := by rw [← h.keys, List.length_map]
theorem Sim.holder (h : Sim S Z) (n : Int) : hget Z.held n = S.holderC n := by
  unfold SS.holderC
  cases hH : S.lock n with
  | none =>
    refine hget_no fun hm => ?_
    obtain ⟨p, hp, rfl⟩ := List.mem_map.1 hm
    obtain ⟨H, hH', _⟩ := h.h1 p hp
    rw [hH] at hH'; cases hH'
  | some H => exact hget_mem h.hn (h.h2 n H hH).1
theorem Sim.ready (h : Sim S Z) : Z.ready = S.ready := by
  unfold ZS.ready SS.ready SS.those
  rw [← h.keys, List.filter_map]
  congr 1
  refine List.filter_congr fun T hT => ?_
  obtain ⟨Q, hQ, hm⟩ := h.task T hT
  simp [hQ, rdy, hm.kind]
theorem Sim.stuck (h : Sim S Z) : Z.stuck = S.stuck := by
  unfold ZS.stuck SS.stuck
  rw [h.ready, ← h.keys]
  cases Z.tasks <;> rfl

theorem Sim.made (h : Sim S Z) (hW : WF S) : Sim S.made Z.begun := by
  refine ⟨by show Z.last + 1 = S.last + 1; rw [h.last], ?_, fun T hT => ?_, h.hn, h.h1, h.h2, h.qu, h.op, Nat.le_succ_of_le h.hl, Nat.le_succ_of_le h.ql, Nat.le_succ_of_le h.ol⟩
  · show (Z.tasks ++ [_]).map ZT.n = S.keys ++ [S.last + 1]
    rw [List.map_append, h.keys]; simp [h.last]
  · rcases List.mem_append.1 (show T ∈ Z.tasks ++ [_] from hT) with hT | hT
    · obtain ⟨Q, hQ, hm⟩ := h.task T hT
      by_cases e : T.n = S.last + 1
      · have : S.task (S.last + 1) = some Q := by rw [← e]; exact hQ
        rw [hW.fresh] at this; cases this
      · exact ⟨Q, by show upd S.task _ _ _ = _; rw [upd_other _ _ e]; exact hQ, hm⟩
    · rw [List.mem_singleton.1 hT]
      exact ⟨⟨0, 0, 0⟩, by show upd S.task _ _ _ = _; rw [h.last, upd_same], rfl, rfl, fun h => absurd rfl h⟩

theorem Sim.picked (h : Sim S Z) (hW : WF S) {t : Int} {Q : TS} (hQ : S.task t = some Q) {p : Nat} {P : ZT} (hP : Z.Has t p P) (hm : Mt P Q) : Sim (S.picked t) { Z with tasks := Z.tasks.set p { P with picks := P.picks + 1 } } := by
  obtain ⟨a1, a2⟩ := simT_set h.task (h.nodup hW) (P' := { P with picks := P.picks + 1 }) (Q' := { Q with picks := Q.picks + 1 }) hP.get rfl ⟨hm.kind, by show P.picks + 1 = Q.picks + 1; rw [hm.picks], hm.num⟩
  have e : S.picked t = { S.setT t { Q with picks := Q.picks + 1 } with used := S.used + 1 } := by unfold SS.picked; rw [hQ]
  rw [e]
  have a1 : SimT (upd S.task t (some { Q with picks := Q.picks + 1 })) (Z.tasks.set p { P with picks := P.picks + 1 }) := by rw [← hP.n]; exact a1
  exact ⟨h.last, by show (Z.tasks.set p _).map ZT.n = _; rw [a2]; exact h.keys, a1, h.hn, h.h1, h.h2, h.qu, h.op, Nat.le_succ_of_le h.hl, Nat.le_succ_of_le h.ql, Nat.le_succ_of_le h.ol⟩

theorem Sim.awaits (h : Sim S Z) (hW : WF S) {t n : Int} {Q : TS} (hQ : S.task t = some Q) {p : Nat} {P : ZT} (hP : Z.Has t p P) (hm : Mt P Q) : Sim (S.setT t { Q with kind := 2, num := n }) { Z with tasks := Z.tasks.set p (P.waits 2 n) } := by
  obtain ⟨a1, a2⟩ := simT_set h.task (h.nodup hW) (P' := P.waits 2 n) (Q' := { Q with kind := 2, num := n }) hP.get rfl ⟨rfl, hm.picks, fun _ => rfl⟩
  have a1 : SimT (upd S.task t (some { Q with kind := 2, num := n })) (Z.tasks.set p (P.waits 2 n)) := by rw [← hP.n]; exact a1
  exact ⟨h.last, by show (Z.tasks.set p _).map ZT.n = _; rw [a2]; exact h.keys, a1, h.hn, h.h1, h.h2, h.qu, h.op, h.hl, h.ql, h.ol⟩

theorem Sim.taken (h : Sim S Z) {t n : Int} (hH : S.lock n = none) (ht : 1 ≤ t) : Sim (S.taken t n) { Z with held := Z.held ++ [(n, t)] } := by
  have hno : n ∉ Z.held.map Prod.fst := fun hm => by
    obtain ⟨p, hp, rfl⟩ := List.mem_map.1 hm
    obtain ⟨H, hH', _⟩ := h.h1 p hp
    rw [hH] at hH'; cases hH'
  have lother : ∀ m, m ≠ n → (S.taken t n).lock m = S.lock m := fun m hm => upd_other _ _ hm
  have lself : (S.taken t n).lock n = some ⟨t, []⟩ := upd_same _ _ _
  refine ⟨h.last, h.keys, h.task, ?_, fun p hp => ?_, fun m H hm => ?_, fun m => ?_, h.op, ?_, Nat.le_succ_of_le h.ql, Nat.le_succ_of_le h.ol⟩
  · show ((Z.held ++ [(n, t)]).map Prod.fst).Nodup
    rw [List.map_append, List.nodup_append]
    exact ⟨h.hn, by simp, fun a ha b hb => by simp at hb; subst hb; exact fun e => hno (e ▸ ha)⟩
  · rcases List.mem_append.1 (show p ∈ Z.held ++ [(n, t)] from hp) with hp | hp
    · have hne : p.1 ≠ n := fun e => hno (e ▸ List.mem_map.2 ⟨p, hp, rfl⟩)
      rw [lother _ hne]; exact h.h1 p hp
    · rw [List.mem_singleton.1 hp]; exact ⟨_, lself, rfl⟩
  · by_cases e : m = n
    · subst e; rw [lself] at hm; cases hm
      exact ⟨List.mem_append_right _ (by simp), ht⟩
    · rw [lother _ e] at hm
      obtain ⟨b1, b2⟩ := h.h2 m H hm
      exact ⟨List.mem_append_left _ b1, b2⟩
  · have := h.qu m
    unfold SS.qOf at this ⊢
    by_cases e : m = n
    · subst e; rw [lself]; rw [hH] at this; exact this
    · rw [lother _ e]; exact this
  · show (Z.held ++ [(n, t)]).length ≤ S.used + 1
    have := h.hl; simp; omega

theorem Sim.waits (h : Sim S Z) (hW : WF S) {t n : Int} {Q : TS} {H : HS} (hQ : S.task t = some Q) (hH : S.lock n = some H) {p : Nat} {P : ZT} (hP : Z.Has t p P) (hm : Mt P Q) :
    Sim (S.waits t n H Q) { Z with tasks := Z.tasks.set p (P.waits 1 n), queue := Z.queue ++ [(n, t)] } := by
  obtain ⟨a1, a2⟩ := simT_set h.task (h.nodup hW) (P' := P.waits 1 n) (Q' := { Q with kind := 1, num := n }) hP.get rfl ⟨rfl, hm.picks, fun _ => rfl⟩
  have a1 : SimT (upd S.task t (some { Q with kind := 1, num := n })) (Z.tasks.set p (P.waits 1 n)) := by rw [← hP.n]; exact a1
  have lother : ∀ m, m ≠ n → (S.waits t n H Q).lock m = S.lock m := fun m hm => upd_other _ _ hm
  have lself : (S.waits t n H Q).lock n = some ⟨H.holder, H.queue ++ [t]⟩ := upd_same _ _ _
  refine ⟨h.last, by show (Z.tasks.set p _).map ZT.n = _; rw [a2]; exact h.keys, a1, h.hn, fun q hq => ?_, fun m H' hm' => ?_, fun m => ?_, h.op, Nat.le_succ_of_le h.hl, ?_, Nat.le_succ_of_le h.ol⟩
  · obtain ⟨H', b1, b2⟩ := h.h1 q hq
    by_cases e : q.1 = n
    · rw [e, hH] at b1; cases b1
      exact ⟨⟨H.holder, H.queue ++ [t]⟩, by rw [e]; exact lself, b2⟩
    · exact ⟨H', by rw [lother _ e]; exact b1, b2⟩
  · by_cases e : m = n
    · subst e; rw [lself] at hm'; cases hm'
      exact h.h2 m H hH
    · rw [lother _ e] at hm'; exact h.h2 m H' hm'
  · have hq := h.qu m
    show ((Z.queue ++ [(n, t)]).filter fun p => p.1 == m).map Prod.snd = _
    rw [List.filter_append, List.map_append, hq]
    unfold SS.qOf
    by_cases e : m = n
    · subst e; rw [lself, hH]; simp
    · rw [lother _ e]
      have hne : (n == m) = false := by simpa using Ne.symm e
      simp [hne]
  · show (Z.queue ++ [(n, t)]).length ≤ S.used + 1
    have := h.ql; simp; omega
end

end Go.Proofs.Ytnonidoeakhfdaa
