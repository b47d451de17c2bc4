/- The document's own scheduler and the landed one: a task ends; a latch opens. -/
import Derived.Test.YtnonidoeakhfdaaH3
import Derived.Test.YtnonidoeakhfdaaE4
namespace Go.Proofs.Ytnonidoeakhfdaa
open Go.RowKit Go.Maps Go.Sort
set_option linter.unusedVariables false

theorem mine_lt {l : List (Int × Int)} {n t : Int} (h : (n, t) ∈ l) : ((restH l n).filter fun p => p.2 == t).length < (l.filter fun p => p.2 == t).length := by
  have e : (restH l n).filter (fun p => p.2 == t) = (l.filter fun p => p.2 == t).filter fun p => p.1 != n := by
    unfold restH
    rw [List.filter_filter, List.filter_filter]
    exact List.filter_congr fun p _ => Bool.and_comm _ _
  rw [e]
  exact List.length_filter_lt_length_iff_exists.2 ⟨(n, t), List.mem_filter.2 ⟨h, by simp⟩, by simp⟩

section
variable {S : SS} {Z Z' : ZS}
theorem Sim.pos (h : Sim S Z) (hW : WF S) : ∀ p ∈ Z.held, 0 ≤ p.1 := fun p hp => by
  obtain ⟨H, hH, _⟩ := h.h1 p hp
  exact (hW.lwf p.1 ((hW.rl.2 p.1).2 (by rw [hH]; rfl))).1
theorem Sim.freed_mine (h : Sim S Z) (hW : WF S) {t n : Int} (ht : S.task t = none) (hm : (n, t) ∈ Z.held) (hF : Freed Z n Z') : mine Z' t < mine Z t := by
  cases hF with
  | none _ => exact mine_lt hm
  | next i x p P hi hno hP =>
    have hx : x ≠ t := by
      rintro rfl
      obtain ⟨Q, hQ, _⟩ := h.task P (List.mem_of_getElem? hP.get)
      rw [hP.n, ht] at hQ; cases hQ
    show ((restH Z.held n ++ [(n, x)]).filter fun p => p.2 == t).length < _
    have hb : (x == t) = false := by simpa using hx
    rw [List.filter_append]
    simp [hb]
    exact mine_lt hm

def InvE (t : Int) (Z : ZS) : Prop := ∃ S, Sim S Z ∧ WF S ∧ S.used ≤ 100000 ∧ S.task t = none
theorem endI_ok (t : Int) : EndI (InvE t) t where
  bounds := fun Z ⟨S, h, hW, hu, _⟩ => ⟨Nat.le_trans h.hl hu, Nat.le_trans h.ql hu, fun q hq => h.queued hW hq⟩
  step := fun Z Z' ⟨S, h, hW, hu, ht⟩ h0 hF => by
    have hm := ((leastF_spec Z.held t (h.pos hW)).2 h0).1
    obtain ⟨H, hH, _⟩ := h.h1 _ hm
    exact ⟨⟨_, h.pass hW hH hF, hW.pass _, by rw [pass_used]; exact hu, pass_none hW ht _⟩, h.freed_mine hW ht hm hF⟩

theorem holds_step (h : Sim S Z) (hW : WF S) {t : Int} (ht : S.task t = none) (h0 : 0 ≤ leastF Z.held t) : S.holdsOf t = leastF Z.held t :: (S.pass (leastF Z.held t)).holdsOf t := by
  obtain ⟨hm, hle⟩ := (leastF_spec Z.held t (h.pos hW)).2 h0
  generalize leastF Z.held t = n at *
  have hWp := hW.pass n
  obtain ⟨Hn, hHn, hho⟩ := h.h1 _ hm
  simp only at hHn hho
  have hmem : ∀ m, m ∈ (S.pass n).holdsOf t ↔ m ∈ S.holdsOf t ∧ m ≠ n := fun m => by
    rw [holdsOf_mem hWp.rl, holdsOf_mem hW.rl]
    by_cases e : m = n
    · subst e
      refine ⟨fun ⟨H, hH, hh⟩ => ?_, fun ⟨_, h⟩ => absurd rfl h⟩
      exfalso
      obtain ⟨H0, q⟩ := Hn
      cases q with
      | nil =>
        have e : S.pass m = S.freed m := by unfold SS.pass; rw [hHn]
        have hl : (S.freed m).lock m = none := upd_same _ _ _
        rw [e, hl] at hH; cases hH
      | cons x q =>
        obtain ⟨T, hT, _⟩ := (hW.q m _ hHn).2.2 x (by simp)
        have e : S.pass m = S.given m x q T := by unfold SS.pass; rw [hHn]; simp only [hT]
        have hl : (S.given m x q T).lock m = some ⟨x, q⟩ := upd_same _ _ _
        rw [e, hl] at hH; cases hH
        have hx : x = t := hh
        rw [hx, ht] at hT; cases hT
    · rw [pass_lock_other S e]
      exact ⟨fun h => ⟨h, e⟩, fun h => h.1⟩
  have hnm : n ∉ (S.pass n).holdsOf t := fun hx => ((hmem n).1 hx).2 rfl
  have hnn : n ∈ S.holdsOf t := (holdsOf_mem hW.rl).2 ⟨Hn, hHn, hho⟩
  have tr : ∀ a b c : Int, leI a b = true → leI b c = true → leI a c = true := fun a b c h1 h2 => by simp only [leI, decide_eq_true_eq] at *; exact Int.le_trans h1 h2
  have tot : ∀ a b : Int, (leI a b || leI b a) = true := fun a b => by simp only [leI, Bool.or_eq_true, decide_eq_true_eq]; exact Int.le_total a b
  refine List.Perm.eq_of_pairwise (le := fun a b => leI a b = true) (fun a b _ _ h1 h2 => ?_) (List.pairwise_mergeSort tr tot _) (List.pairwise_cons.2 ⟨fun m hm2 => ?_, List.pairwise_mergeSort tr tot _⟩) ((List.perm_ext_iff_of_nodup (holdsOf_nodup hW.rl t) (List.nodup_cons.2 ⟨hnm, holdsOf_nodup hWp.rl t⟩)).2 fun m => ?_)
  · simp only [leI, decide_eq_true_eq] at h1 h2
    exact Int.le_antisymm h1 h2
  · obtain ⟨H, hH, hh⟩ := (holdsOf_mem hW.rl).1 ((hmem m).1 hm2).1
    have := hle (m, H.holder) (h.h2 m H hH).1 hh
    simp only [leI, decide_eq_true_eq]
    exact this
  · rw [List.mem_cons]
    by_cases e : m = n
    · subst e; exact ⟨fun _ => .inl rfl, fun _ => hnn⟩
    · exact ⟨fun h => .inr ((hmem m).2 ⟨h, e⟩), fun h => by
        rcases h with h | h
        · exact absurd h e
        · exact ((hmem m).1 h).1⟩

theorem ended_sim {t : Int} (he : Ended t Z Z') : ∀ {S : SS}, Sim S Z → WF S → S.task t = none → Sim (S.passAll (S.holdsOf t)) Z' := by
  induction he with
  | @done Z h0 =>
    intro S h hW ht
    have hno := (leastF_spec Z.held t (h.pos hW)).1 h0
    have e : S.holdsOf t = [] := List.eq_nil_iff_forall_not_mem.2 fun n hn => by
      obtain ⟨H, hH, hh⟩ := (holdsOf_mem hW.rl).1 hn
      exact hno _ (h.h2 n H hH).1 hh
    rw [e]; exact h
  | @step Z Z1 Z' h0 hF he ih =>
    intro S h hW ht
    have hm := ((leastF_spec Z.held t (h.pos hW)).2 h0).1
    obtain ⟨H, hH, _⟩ := h.h1 _ hm
    rw [holds_step h hW ht h0]
    exact ih (h.pass hW hH hF) (hW.pass _) (pass_none hW ht _)

/-! ### a latch -/
def TS.woken (T : TS) : TS := { T with kind := 0, num := 0 }
theorem wakeAll_eq : ∀ (l : List Int) (S : SS), S.wakeAll l = { S with task := fun y => if y ∈ l then (S.task y).map TS.woken else S.task y }
  | [], S => by simp [SS.wakeAll]
  | x :: l, S => by
    have e : S.wakeAll (x :: l) = (S.wake x).wakeAll l := rfl
    rw [e, wakeAll_eq l]
    cases hT : S.task x with
    | none =>
      have ew : S.wake x = S := by unfold SS.wake; rw [hT]
      rw [ew]
      congr 1
      funext y
      by_cases ey : y = x
      · subst ey; rw [hT]; simp
      · simp [ey]
    | some T =>
      have ew : S.wake x = S.setT x T.woken := by unfold SS.wake; rw [hT]; rfl
      rw [ew]
      show SS.mk _ _ _ _ _ _ _ = SS.mk _ _ _ _ _ _ _
      congr 1
      funext y
      show (if y ∈ l then (upd S.task x _ y).map TS.woken else upd S.task x _ y) = _
      by_cases ey : y = x
      · subst ey
        rw [upd_same, hT]
        simp [TS.woken]
      · rw [upd_other _ _ ey]; simp [ey]

theorem mt_hit {T : ZT} {Q : TS} (h : Mt T Q) (n : Int) : T.hit n = onLatch n Q := by
  unfold ZT.hit onLatch
  rw [h.kind]
  by_cases e : Q.kind = 2
  · rw [h.num (by rw [e]; decide)]
  · have : (Q.kind == 2) = false := by simpa using e
    rw [this]; rfl
theorem Sim.those (h : Sim S Z) (n : Int) : (Z.tasks.filter (ZT.hit n)).map ZT.n = S.those (onLatch n) := by
  unfold SS.those
  rw [← h.keys, List.filter_map]
  congr 1
  refine List.filter_congr fun T hT => ?_
  obtain ⟨Q, hQ, hm⟩ := h.task T hT
  simp [hQ, mt_hit hm]
theorem Sim.opened (h : Sim S Z) {n : Int} (h0 : 0 ≤ n) : (S.openC n).1 = (opCnt Z.tasks n : Nat) ∧ Sim (S.openC n).2 (Z.opened n) := by
  have ht := h.those n
  have e : S.openC n = ((((S.those (onLatch n)).length : Nat) : Int), (S.opened n).wakeAll (S.those (onLatch n))) := by unfold SS.openC; rw [if_neg (by omega)]
  rw [e]
  refine ⟨by rw [← ht, List.length_map]; rfl, ?_⟩
  rw [wakeAll_eq]
  refine ⟨h.last, ?_, fun T hT => ?_, h.hn, h.h1, h.h2, h.qu, fun m => ?_, Nat.le_succ_of_le h.hl, Nat.le_succ_of_le h.ql, ?_⟩
  · show (Z.tasks.map (ZT.opn n)).map ZT.n = S.keys
    rw [List.map_map, ← h.keys]
    refine List.map_congr_left fun T _ => ?_
    show (T.opn n).n = T.n
    unfold ZT.opn; split <;> rfl
  · obtain ⟨T0, hT0, rfl⟩ := List.mem_map.1 (show T ∈ Z.tasks.map (ZT.opn n) from hT)
    obtain ⟨Q, hQ, hm⟩ := h.task T0 hT0
    have hn : (T0.opn n).n = T0.n := by unfold ZT.opn; split <;> rfl
    have hin : T0.n ∈ S.those (onLatch n) ↔ T0.hit n = true := by
      unfold SS.those
      rw [List.mem_filter, hQ, ← h.keys]
      simp only [Option.any_some]
      rw [mt_hit hm]
      exact ⟨fun h => h.2, fun h => ⟨List.mem_map.2 ⟨T0, hT0, rfl⟩, h⟩⟩
    show ∃ Q, (if (T0.opn n).n ∈ _ then _ else _) = some Q ∧ _
    rw [hn]
    by_cases hh : T0.hit n = true
    · refine ⟨Q.woken, by rw [if_pos (hin.2 hh)]; show (S.task T0.n).map _ = _; rw [hQ]; rfl, ?_⟩
      unfold ZT.opn; rw [if_pos hh]
      exact ⟨rfl, hm.picks, fun h => absurd rfl h⟩
    · refine ⟨Q, by rw [if_neg (fun h => hh (hin.1 h))]; exact hQ, ?_⟩
      unfold ZT.opn; rw [if_neg hh]
      exact hm
  · show m ∈ Z.opens ++ [n] ↔ upd S.opens n true m = true
    rw [List.mem_append, List.mem_singleton, h.op m]
    by_cases e : m = n
    · subst e; rw [upd_same]; simp
    · rw [upd_other _ _ e]; simp [e]
  · show (Z.opens ++ [n]).length ≤ S.used + 1
    have := h.ol; simp; omega
end

end Go.Proofs.Ytnonidoeakhfdaa
