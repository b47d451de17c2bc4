/- The document's own scheduler: each call by the plain state of the landed one. -/
import Derived.Test.YtnonidoeakhfdaaH4
namespace Go.Proofs.Ytnonidoeakhfdaa
open Go.RowKit Go.Maps Go.Sort
set_option linter.unusedVariables false

/-- What a call leaves: the document's scheduler, of the state T'. -/
def Left (r : Nat) (V : Nat → Value) (w : World) (T' : SS) (w' : World) : Prop := ∃ Z', Sim T' Z' ∧ Postr r V w Z' w'

section
variable {w : World} {r : Nat} {V : Nat → Value} {Z : ZS} {S : SS}
theorem left_same (h : RAt w r V Z) (hS : Sim S Z) {w' : World} (e : w = w') : Left r V w S w' := by subst e; exact ⟨Z, hS, Postr.refl h⟩

theorem r_start (h : RAt w r V Z) (hS : Sim S Z) (hW : WF S) : Calls Try.prog 27 #[.pointer (some ⟨r, 0, none⟩)] w fun e w' => e = .returned (.tuple #[.int .i64 S.started.1.1, .int .i64 S.started.1.2]) ∧ Left r V w S.started.2 w' := by
  have hl := hS.len
  by_cases h8 : 64 ≤ S.keys.length
  · have e : S.started = ((0, 12), S) := by unfold SS.started; rw [if_pos h8]
    rw [e]
    exact (zstart_full r V Z w h (by omega)).mono fun e w' ⟨h1, h2⟩ => ⟨h1, left_same h hS h2⟩
  · have e : S.started = ((S.last + 1, 0), S.made) := by unfold SS.started; rw [if_neg h8]
    have hlast := hS.last
    have h1 := hW.last
    have h2 := hW.used
    rw [e, ← hlast]
    refine (zstart_made r V Z w h (by omega) (by omega) (by omega)).mono fun e w' ⟨h1, h2⟩ => ⟨h1, Z.begun, ?_, h2⟩
    exact hS.made hW

theorem r_pick (h : RAt w r V Z) (hS : Sim S Z) (hW : WF S) (n : Int) (hn : -9223372036854775808 ≤ n ∧ n ≤ 9223372036854775807) : Calls Try.prog 29 #[.pointer (some ⟨r, 0, none⟩), .int .i64 n] w fun e w' => e = .returned (.tuple #[.int .i64 (S.pick n).1.1, .bool (S.pick n).1.2]) ∧ Left r V w (S.pick n).2 w' := by
  have hl : Z.tasks.length ≤ 64 := by rw [hS.len]; exact hW.n64
  have hr := hS.ready
  cases he : S.ready.isEmpty
  · have e : S.pick n = ((S.pickT n, true), S.picked (S.pickT n)) := by unfold SS.pick; rw [he]; rfl
    rw [e]
    have hpos : 0 < S.ready.length := by cases hq : S.ready with
      | nil => rw [hq] at he; cases he
      | cons => simp
    have hget := pickT_get hpos n
    have hm0 : 0 ≤ pk n % (S.ready.length : Int) := Int.emod_nonneg _ (by omega)
    obtain ⟨Q, hQ, hk⟩ := ready_mem hW.rt (List.mem_of_getElem? hget)
    obtain ⟨p, P, hP, hm⟩ := hS.has hW hQ
    have hpk := hW.picks _ Q hQ
    have hus := hW.used
    refine (zpick_some r p V Z P n (S.pickT n) (pk n % (S.ready.length : Int)).toNat w h hl hn (by rw [hr]; omega) (by rw [hr]; exact hget) hP (by rw [hm.picks]; omega)).mono fun e w' ⟨h1, h2⟩ => ⟨h1, _, hS.picked hW hQ hP hm, h2⟩
  · have e : S.pick n = ((0, false), S) := by unfold SS.pick; rw [he]; rfl
    rw [e]
    exact (zpick_none r V Z n w h hl (by rw [hr]; exact List.isEmpty_iff.1 he)).mono fun e w' ⟨h1, h2⟩ => ⟨h1, Z, hS, h2⟩

theorem r_lock (h : RAt w r V Z) (hS : Sim S Z) (hW : WF S) (t n : Int) : Calls Try.prog 30 #[.pointer (some ⟨r, 0, none⟩), .int .i64 t, .int .i64 n] w fun e w' => e = .returned (.tuple #[.bool (S.lockC t n).1.1, .int .i64 (S.lockC t n).1.2]) ∧ Left r V w (S.lockC t n).2 w' := by
  have hus := hW.used
  have hho := hS.holder n
  by_cases h0 : n < 0
  · have e : S.lockC t n = ((false, 1), S) := by unfold SS.lockC; rw [if_pos h0]
    rw [e]
    exact (zlock_neg r V Z t n w h h0).mono fun e w' ⟨h1, h2⟩ => ⟨h1, left_same h hS h2⟩
  · cases hQ : S.task t with
    | none =>
      have e : S.lockC t n = ((false, 18), S) := by unfold SS.lockC; rw [if_neg h0, hQ]
      rw [e]
      exact (zlock_no r V Z t n w h (by omega) (hS.hasnt hQ)).mono fun e w' ⟨h1, h2⟩ => ⟨h1, left_same h hS h2⟩
    | some Q =>
      obtain ⟨p, P, hP, hm⟩ := hS.has hW hQ
      have hk1 := (hW.key hQ).1
      by_cases hk : Q.kind = 0
      · cases hH : S.lock n with
        | none =>
          have e : S.lockC t n = ((true, 0), S.taken t n) := by unfold SS.lockC; rw [if_neg h0, hQ]; simp [hk, hH]
          rw [e]
          have hg : hget Z.held n = 0 := by rw [hho]; unfold SS.holderC; rw [hH]
          exact (zlock_free r p V Z P t n w h (by omega) hP (by rw [hm.kind]; exact hk) hg (by omega) (Nat.le_trans hS.hl hus)).mono fun e w' ⟨h1, h2⟩ => ⟨h1, _, hS.taken hH hk1, h2⟩
        | some H =>
          have hg : hget Z.held n = H.holder := by rw [hho]; unfold SS.holderC; rw [hH]
          have hh1 := (hS.h2 n H hH).2
          by_cases hmi : H.holder = t
          · have e : S.lockC t n = ((true, 0), S) := by unfold SS.lockC; rw [if_neg h0, hQ]; simp [hk, hH, hmi]
            rw [e]
            exact (zlock_mine r p V Z P t n w h (by omega) hP (by rw [hm.kind]; exact hk) (by rw [hg, hmi])).mono fun e w' ⟨h1, h2⟩ => ⟨h1, left_same h hS h2⟩
          · have e : S.lockC t n = ((false, 0), S.waits t n H Q) := by unfold SS.lockC; rw [if_neg h0, hQ]; simp [hk, hH, hmi]
            rw [e]
            exact (zlock_wait r p V Z P t n w h (by omega) hP (by rw [hm.kind]; exact hk) (by rw [hg]; omega) (by rw [hg]; exact hmi) (Nat.le_trans hS.ql hus)).mono fun e w' ⟨h1, h2⟩ => ⟨h1, _, hS.waits hW hQ hH hP hm, h2⟩
      · have e : S.lockC t n = ((false, 51), S) := by unfold SS.lockC; rw [if_neg h0, hQ]; simp [hk]
        rw [e]
        exact (zlock_busy r p V Z P t n w h (by omega) hP (by rw [hm.kind]; exact hk)).mono fun e w' ⟨h1, h2⟩ => ⟨h1, left_same h hS h2⟩

theorem r_await (h : RAt w r V Z) (hS : Sim S Z) (hW : WF S) (t n : Int) : Calls Try.prog 32 #[.pointer (some ⟨r, 0, none⟩), .int .i64 t, .int .i64 n] w fun e w' => e = .returned (.tuple #[.bool (S.awaitC t n).1.1, .int .i64 (S.awaitC t n).1.2]) ∧ Left r V w (S.awaitC t n).2 w' := by
  by_cases h0 : n < 0
  · have e : S.awaitC t n = ((false, 1), S) := by unfold SS.awaitC; rw [if_pos h0]
    rw [e]
    exact (zawait_neg r V Z t n w h h0).mono fun e w' ⟨h1, h2⟩ => ⟨h1, left_same h hS h2⟩
  · cases hQ : S.task t with
    | none =>
      have e : S.awaitC t n = ((false, 18), S) := by unfold SS.awaitC; rw [if_neg h0, hQ]
      rw [e]
      exact (zawait_no r V Z t n w h (by omega) (hS.hasnt hQ)).mono fun e w' ⟨h1, h2⟩ => ⟨h1, left_same h hS h2⟩
    | some Q =>
      obtain ⟨p, P, hP, hm⟩ := hS.has hW hQ
      by_cases hk : Q.kind = 0
      · cases ho : S.opens n
        · have e : S.awaitC t n = ((false, 0), S.setT t { Q with kind := 2, num := n }) := by unfold SS.awaitC; rw [if_neg h0, hQ]; simp [hk, ho]
          rw [e]
          exact (zawait_wait r p V Z P t n w h (by omega) hP (by rw [hm.kind]; exact hk) (fun hx => by rw [(hS.op n).1 hx] at ho; cases ho)).mono fun e w' ⟨h1, h2⟩ => ⟨h1, _, hS.awaits hW hQ hP hm, h2⟩
        · have e : S.awaitC t n = ((true, 0), S) := by unfold SS.awaitC; rw [if_neg h0, hQ]; simp [hk, ho]
          rw [e]
          exact (zawait_open r p V Z P t n w h (by omega) hP (by rw [hm.kind]; exact hk) ((hS.op n).2 ho)).mono fun e w' ⟨h1, h2⟩ => ⟨h1, left_same h hS h2⟩
      · have e : S.awaitC t n = ((false, 51), S) := by unfold SS.awaitC; rw [if_neg h0, hQ]; simp [hk]
        rw [e]
        exact (zawait_busy r p V Z P t n w h (by omega) hP (by rw [hm.kind]; exact hk)).mono fun e w' ⟨h1, h2⟩ => ⟨h1, left_same h hS h2⟩

theorem r_unlock (h : RAt w r V Z) (hS : Sim S Z) (hW : WF S) (hu : S.used ≤ 100000) (t n : Int) : Calls Try.prog 31 #[.pointer (some ⟨r, 0, none⟩), .int .i64 t, .int .i64 n] w fun e w' => e = .returned (.int .i64 (S.unlockC t n).1) ∧ Left r V w (S.unlockC t n).2 w' := by
  have hho := hS.holder n
  by_cases h0 : n < 0
  · have e : S.unlockC t n = (1, S) := by unfold SS.unlockC; rw [if_pos h0]
    rw [e]
    exact (zunlock_neg r t n w h0).mono fun e w' ⟨h1, h2⟩ => ⟨h1, left_same h hS h2⟩
  · cases hQ : S.task t with
    | none =>
      have e : S.unlockC t n = (18, S) := by unfold SS.unlockC; rw [if_neg h0, hQ]
      rw [e]
      exact (zunlock_no r V Z t n w h (by omega) (hS.hasnt hQ)).mono fun e w' ⟨h1, h2⟩ => ⟨h1, left_same h hS h2⟩
    | some Q =>
      obtain ⟨p, P, hP, hm⟩ := hS.has hW hQ
      have hk1 := (hW.key hQ).1
      by_cases hmi : S.holderC n = t
      · have e : S.unlockC t n = (0, S.pass n) := by unfold SS.unlockC; rw [if_neg h0, hQ]; simp [hmi]
        rw [e]
        cases hH : S.lock n with
        | none => unfold SS.holderC at hmi; rw [hH] at hmi; simp at hmi; omega
        | some H =>
          exact (zunlock_mine r p V Z P t n w h (by omega) hP (by rw [hho, hmi]) (zfree r V Z n w h (Nat.le_trans hS.hl hu) (Nat.le_trans hS.ql hu) fun q hq => hS.queued hW hq)).mono fun e w' ⟨h1, Z', hF, h2⟩ => ⟨h1, Z', hS.pass hW hH hF, h2⟩
      · have e : S.unlockC t n = (19, S) := by unfold SS.unlockC; rw [if_neg h0, hQ]; simp [hmi]
        rw [e]
        exact (zunlock_other r p V Z P t n w h (by omega) hP (by rw [hho]; exact hmi)).mono fun e w' ⟨h1, h2⟩ => ⟨h1, left_same h hS h2⟩

theorem r_end (h : RAt w r V Z) (hS : Sim S Z) (hW : WF S) (hu : S.used ≤ 100000) (t : Int) : Calls Try.prog 28 #[.pointer (some ⟨r, 0, none⟩), .int .i64 t] w fun e w' => e = .returned (.int .i64 (S.endC t).1) ∧ Left r V w (S.endC t).2 w' := by
  cases hQ : S.task t with
  | none =>
    have e : S.endC t = (18, S) := by unfold SS.endC; rw [hQ]
    rw [e]
    exact (zend_no r V Z t w h (hS.hasnt hQ)).mono fun e w' ⟨h1, h2⟩ => ⟨h1, left_same h hS h2⟩
  | some Q =>
    obtain ⟨p, P, hP, hm⟩ := hS.has hW hQ
    by_cases hk : Q.kind = 0
    · have e : S.endC t = (0, (S.gone t).passAll (S.holdsOf t)) := by unfold SS.endC; rw [hQ]; simp [hk]
      rw [e]
      have hg := hS.gone hW hP
      have hWg := hW.gone hQ hk
      have hng : (S.gone t).task t = none := upd_same _ _ _
      refine (zend_run r p V Z P t w h hP (by rw [hm.kind]; exact hk) (by rw [hS.len]; exact hW.n64) (endI_ok t) ⟨S.gone t, hg, hWg, hu, hng⟩).mono fun e w' ⟨h1, Z', hE, h2⟩ => ⟨h1, Z', ended_sim hE hg hWg hng, h2⟩
    · have e : S.endC t = (51, S) := by unfold SS.endC; rw [hQ]; simp [hk]
      rw [e]
      exact (zend_busy r p V Z P t w h hP (by rw [hm.kind]; exact hk)).mono fun e w' ⟨h1, h2⟩ => ⟨h1, left_same h hS h2⟩

theorem r_opens (h : RAt w r V Z) (hS : Sim S Z) (hW : WF S) (hu : S.used ≤ 100000) (n : Int) : Calls Try.prog 33 #[.pointer (some ⟨r, 0, none⟩), .int .i64 n] w fun e w' => e = .returned (.int .i64 (S.openC n).1) ∧ Left r V w (S.openC n).2 w' := by
  by_cases h0 : n < 0
  · have e : S.openC n = (0, S) := by unfold SS.openC; rw [if_pos h0]
    rw [e]
    exact (zopens_neg r n w h0).mono fun e w' ⟨h1, h2⟩ => ⟨h1, left_same h hS h2⟩
  · obtain ⟨e1, h2⟩ := hS.opened (n := n) (by omega)
    rw [e1]
    exact (zopens r V Z n w h (by omega) (by rw [hS.len]; exact hW.n64) (Nat.le_trans hS.ol hu)).mono fun e w' ⟨h3, h4⟩ => ⟨h3, _, h2, h4⟩

theorem r_ready (h : RAt w r V Z) (hS : Sim S Z) (hW : WF S) : Calls Try.prog 13 #[.pointer (some ⟨r, 0, none⟩)] w fun e w' => ∃ v, e = .returned v ∧ Own w w' v S.ready ∧ Fr No w w' := by
  have := zready r V Z w h (by rw [hS.len]; exact hW.n64)
  rwa [hS.ready] at this
theorem r_stuck (h : RAt w r V Z) (hS : Sim S Z) (hW : WF S) : Calls Try.prog 15 #[.pointer (some ⟨r, 0, none⟩)] w fun e w' => e = .returned (.bool S.stuck) ∧ Fr No w w' := by
  have := zstuck r V Z w h (by rw [hS.len]; exact hW.n64)
  rwa [hS.stuck] at this
theorem r_holder (h : RAt w r V Z) (hS : Sim S Z) (n : Int) : Calls Try.prog 17 #[.pointer (some ⟨r, 0, none⟩), .int .i64 n] w fun e w' => e = .returned (.int .i64 (S.holderC n)) ∧ w = w' := by
  have := zholder r V Z n w h
  rwa [hS.holder] at this
theorem r_picks (h : RAt w r V Z) (hS : Sim S Z) (hW : WF S) (t : Int) : Calls Try.prog 19 #[.pointer (some ⟨r, 0, none⟩), .int .i64 t] w fun e w' => e = .returned (.int .i64 (S.picksC t)) ∧ w = w' := by
  unfold SS.picksC
  cases hQ : S.task t with
  | none => exact zpicks_no r V Z t w h (hS.hasnt hQ)
  | some Q =>
    obtain ⟨p, P, hP, hm⟩ := hS.has hW hQ
    have := zpicks_yes r V Z t p P w h hP
    rwa [hm.picks] at this
end

end Go.Proofs.Ytnonidoeakhfdaa
