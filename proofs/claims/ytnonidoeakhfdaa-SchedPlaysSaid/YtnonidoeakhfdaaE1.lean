/- SchedRising: what the law keeps; nobody is stuck. -/
import Derived.Test.YtnonidoeakhfdaaD5
namespace Go.Proofs.Ytnonidoeakhfdaa
open Go.RowKit Go.Maps Go.Sort
set_option linter.unusedVariables false

/-- A list of locks that rise. -/
structure Rising (l : List Int) : Prop where
  up : l.Pairwise (· < ·)
  len : l.length ≤ 4
  bd : ∀ x ∈ l, 0 ≤ x ∧ x < 6

/-- m tasks, of which some (al) are there yet; todo: their locks, d: how many of them each has; pot: how many picks each may take at most. ex: locks that one who is gone holds yet. -/
structure MI (S : SS) (m : Nat) (todo : Nat → List Int) (d : Nat → Nat) (al : Nat → Bool) (pot : Nat → Nat) (ex : Int → Prop) : Prop where
  tk : ∀ x T, S.task x = some T → ∃ k : Nat, k < m ∧ al k = true ∧ x = (k : Int) + 1
  ta : ∀ k : Nat, k < m → al k = true → ∃ T, S.task ((k : Int) + 1) = some T ∧ d k ≤ (todo k).length ∧ (T.kind = 0 ∨ (T.kind = 1 ∧ (todo k)[d k]? = some T.num))
  wq : ∀ x T, S.task x = some T → T.kind = 1 → ∃ H, S.lock T.num = some H ∧ x ∈ H.queue
  lk : ∀ n H, S.lock n = some H → ex n ∨ ∃ (k j : Nat) (T : TS), k < m ∧ al k = true ∧ H.holder = (k : Int) + 1 ∧ (todo k)[j]? = some n ∧ S.task ((k : Int) + 1) = some T ∧ (j < d k ∨ (j = d k ∧ T.kind = 0))
  pt : ∀ k : Nat, k < m → al k = true → 2 * ((todo k).length - d k) ≤ pot k ∧
    ∀ T, S.task ((k : Int) + 1) = some T → T.kind = 0 → (∀ n H, (todo k)[d k]? = some n → S.lock n = some H → H.holder ≠ (k : Int) + 1) → 2 * ((todo k).length - d k) + 1 ≤ pot k
  td : ∀ k, k < m → Rising (todo k)

def nobody (n : Int) : Prop := False

section
variable {S : SS} {m : Nat} {todo : Nat → List Int} {d : Nat → Nat} {al : Nat → Bool} {pot : Nat → Nat} {ex : Int → Prop}

theorem rising_lt {l : List Int} (h : Rising l) {i j : Nat} {x y : Int} (hi : l[i]? = some x) (hj : l[j]? = some y) (hij : i < j) : x < y := by
  obtain ⟨h1, rfl⟩ := List.getElem?_eq_some_iff.1 hi
  obtain ⟨h2, rfl⟩ := List.getElem?_eq_some_iff.1 hj
  exact List.pairwise_iff_getElem.1 h.up i j h1 h2 hij

/-- Some task that is there is ready. -/
theorem MI.some_ready (h : MI S m todo d al pot nobody) {k : Nat} (hk : k < m) (ha : al k = true) : ∃ k' T, k' < m ∧ al k' = true ∧ S.task ((k' : Int) + 1) = some T ∧ T.kind = 0 := by
  have key : ∀ (b : Nat) (k : Nat) (T : TS), k < m → al k = true → S.task ((k : Int) + 1) = some T → T.kind = 1 → (6 : Int) - T.num ≤ b → ∃ k' T', k' < m ∧ al k' = true ∧ S.task ((k' : Int) + 1) = some T' ∧ T'.kind = 0 := by
    intro b
    induction b with
    | zero =>
      intro k T hk ha hT hkd hb
      obtain ⟨T2, hT2, _, h0 | ⟨_, hn⟩⟩ := h.ta k hk ha
      · rw [hT] at hT2; cases hT2; rw [hkd] at h0; cases h0
      · rw [hT] at hT2; cases hT2
        have := ((h.td k hk).bd T.num (List.mem_of_getElem? hn)).2
        omega
    | succ b ih =>
      intro k T hk ha hT hkd hb
      obtain ⟨T2, hT2, _, h0 | ⟨_, hn⟩⟩ := h.ta k hk ha
      · rw [hT] at hT2; cases hT2; rw [hkd] at h0; cases h0
      · rw [hT] at hT2; cases hT2
        obtain ⟨H, hH, hq⟩ := h.wq _ T hT hkd
        obtain hx | ⟨k1, j, T1, hk1, ha1, _, hj, hT1, hjd⟩ := h.lk T.num H hH
        · exact hx.elim
        · obtain ⟨T3, hT3, _, h0 | ⟨hk3, hn3⟩⟩ := h.ta k1 hk1 ha1
          · exact ⟨k1, T3, hk1, ha1, hT3, h0⟩
          · rw [hT1] at hT3; cases hT3
            have hjlt : j < d k1 := by
              rcases hjd with h | ⟨_, h⟩
              · exact h
              · rw [h] at hk3; cases hk3
            have := rising_lt (h.td k1 hk1) hj hn3 hjlt
            exact ih k1 T1 hk1 ha1 hT1 hk3 (by omega)
  obtain ⟨T, hT, _, h0 | ⟨h1, _⟩⟩ := h.ta k hk ha
  · exact ⟨k, T, hk, ha, hT, h0⟩
  · have := key ((6 : Int) - T.num).toNat k T hk ha hT h1 (by omega)
    exact this

theorem MI.ready_ne (h : MI S m todo d al pot nobody) (hW : WF S) {k : Nat} (hk : k < m) (ha : al k = true) : S.ready.isEmpty = false := by
  obtain ⟨k', T, hk', ha', hT, h0⟩ := h.some_ready hk ha
  have : ((k' : Int) + 1) ∈ S.ready := by
    unfold SS.ready SS.those
    rw [List.mem_filter]
    exact ⟨(hW.rt.2 _).2 (by rw [hT]; rfl), by rw [hT]; simp [rdy, h0]⟩
  cases hr : S.ready with
  | nil => rw [hr] at this; cases this
  | cons => rfl
theorem MI.not_stuck (h : MI S m todo d al pot nobody) (hW : WF S) {k : Nat} (hk : k < m) (ha : al k = true) : S.stuck = false := by
  unfold SS.stuck
  rw [h.ready_ne hW hk ha]; simp
theorem MI.all_gone (h : MI S m todo d al pot nobody) (hW : WF S) (h0 : ∀ k, k < m → al k = false) : S.ready = [] ∧ S.stuck = false := by
  have hk : S.keys = [] := by
    cases hk : S.keys with
    | nil => rfl
    | cons x l =>
      have hs := (hW.rt.2 x).1 (by rw [hk]; simp)
      obtain ⟨T, hT⟩ := Option.isSome_iff_exists.1 hs
      obtain ⟨k, hkm, ha, _⟩ := h.tk x T hT
      rw [h0 k hkm] at ha; cases ha
  constructor
  · unfold SS.ready SS.those; rw [hk]; rfl
  · unfold SS.stuck; rw [hk]; rfl

/-- Whoever is picked is there, and ready. -/
theorem MI.pick (h : MI S m todo d al pot nobody) (hW : WF S) {k : Nat} (hk : k < m) (ha : al k = true) (p : Int) :
    ∃ (k' : Nat), k' < m ∧ al k' = true ∧ (S.pick p).1 = ((k' : Int) + 1, true) ∧ (∃ T, (S.pick p).2.task ((k' : Int) + 1) = some T ∧ T.kind = 0) ∧ MI (S.pick p).2 m todo d al pot nobody := by
  have hne := h.ready_ne hW hk ha
  have hpos : 0 < S.ready.length := by cases hq : S.ready with
    | nil => rw [hq] at hne; cases hne
    | cons => simp
  obtain ⟨T, hT, h0⟩ := ready_mem hW.rt (List.mem_of_getElem? (pickT_get hpos p))
  obtain ⟨k', hk', ha', hx⟩ := h.tk _ T hT
  have e : S.pick p = ((S.pickT p, true), S.picked (S.pickT p)) := by unfold SS.pick; rw [hne]; rfl
  have e2 : S.picked (S.pickT p) = { S.setT (S.pickT p) { T with picks := T.picks + 1 } with used := S.used + 1 } := by unfold SS.picked; rw [hT]
  rw [e, e2, hx]
  rw [hx] at hT
  have tget : ∀ y Q, upd S.task ((k' : Int) + 1) (some { T with picks := T.picks + 1 }) y = some Q → ∃ Q0, S.task y = some Q0 ∧ Q0.kind = Q.kind ∧ Q0.num = Q.num := fun y Q hQ => by
    by_cases ey : y = (k' : Int) + 1
    · subst ey; rw [upd_same] at hQ; cases hQ; exact ⟨T, hT, rfl, rfl⟩
    · rw [upd_other _ _ ey] at hQ; exact ⟨Q, hQ, rfl, rfl⟩
  have tput : ∀ y Q0, S.task y = some Q0 → ∃ Q, upd S.task ((k' : Int) + 1) (some { T with picks := T.picks + 1 }) y = some Q ∧ Q.kind = Q0.kind ∧ Q.num = Q0.num := fun y Q0 hQ => by
    by_cases ey : y = (k' : Int) + 1
    · subst ey; rw [hT] at hQ; cases hQ; exact ⟨_, upd_same _ _ _, rfl, rfl⟩
    · exact ⟨Q0, by rw [upd_other _ _ ey]; exact hQ, rfl, rfl⟩
  refine ⟨k', hk', ha', rfl, ⟨_, upd_same _ _ _, h0⟩, ⟨fun x Q hQ => ?_, fun j hj hja => ?_, fun x Q hQ hkq => ?_, fun n H hH => ?_, fun j hj hja => ⟨(h.pt j hj hja).1, fun Q hQ hkq hn => ?_⟩, h.td⟩⟩
  · obtain ⟨Q0, hQ0, _⟩ := tget x Q hQ; exact h.tk x Q0 hQ0
  · obtain ⟨Q0, hQ0, hd, hor⟩ := h.ta j hj hja
    obtain ⟨Q, hQ, e1, e2⟩ := tput _ _ hQ0
    exact ⟨Q, hQ, hd, by rw [e1, e2]; exact hor⟩
  · obtain ⟨Q0, hQ0, e1, e2⟩ := tget x Q hQ
    have := h.wq x Q0 hQ0 (by rw [e1]; exact hkq)
    rw [e2] at this; exact this
  · obtain hx | ⟨k1, j, Q0, a1, a2, a3, a4, a5, a6⟩ := h.lk n H hH
    · exact .inl hx
    · obtain ⟨Q, hQ, e1, _⟩ := tput _ _ a5
      exact .inr ⟨k1, j, Q, a1, a2, a3, a4, hQ, by rw [e1]; exact a6⟩
  · obtain ⟨Q0, hQ0, e1, e2⟩ := tget _ Q hQ
    exact (h.pt j hj hja).2 Q0 hQ0 (by rw [e1]; exact hkq) hn

def upN {α : Type} (f : Nat → α) (k : Nat) (x : α) (j : Nat) : α := if j = k then x else f j
theorem upN_same {α : Type} (f : Nat → α) (k : Nat) (x : α) : upN f k x k = x := by simp [upN]
theorem upN_other {α : Type} (f : Nat → α) {k j : Nat} (x : α) (h : j ≠ k) : upN f k x j = f j := by simp [upN, h]

/-- A task that is ready takes its next lock, or waits for it. -/
theorem MI.lock (h : MI S m todo d al pot nobody) {k : Nat} (hk : k < m) (ha : al k = true) {T : TS} (hT : S.task ((k : Int) + 1) = some T) (h0 : T.kind = 0) {n : Int} (hn : (todo k)[d k]? = some n) :
    (∃ b, (S.lockC ((k : Int) + 1) n).1 = (b, 0) ∧ 1 ≤ pot k ∧ MI (S.lockC ((k : Int) + 1) n).2 m todo (if b then upN d k (d k + 1) else d) al (upN pot k (pot k - 1)) nobody) := by
  have hr := h.td k hk
  have hnb := hr.bd n (List.mem_of_getElem? hn)
  have hdl : d k < (todo k).length := (List.getElem?_eq_some_iff.1 hn).1
  obtain ⟨hp1, hp2⟩ := h.pt k hk ha
  cases hH : S.lock n with
  | none =>
    have e : S.lockC ((k : Int) + 1) n = ((true, 0), S.taken ((k : Int) + 1) n) := by unfold SS.lockC; rw [if_neg (by omega), hT]; simp [h0, hH]
    rw [e]
    refine ⟨true, rfl, by omega, h.tk, fun j hj hja => ?_, fun x Q hQ hkq => ?_, fun n' H hH' => ?_, fun j hj hja => ?_, h.td⟩
    · obtain ⟨Q, hQ, hd, hor⟩ := h.ta j hj hja
      simp only [if_true]
      by_cases ej : j = k
      · subst ej; rw [upN_same]
        have hQ2 : S.task ((j : Int) + 1) = some Q := hQ
        rw [hT] at hQ2; cases hQ2
        exact ⟨T, hT, by omega, .inl h0⟩
      · rw [upN_other _ _ ej]; exact ⟨Q, hQ, hd, hor⟩
    · obtain ⟨H, hH2, hq⟩ := h.wq x Q hQ hkq
      have hne : Q.num ≠ n := by rintro e; rw [e, hH] at hH2; cases hH2
      exact ⟨H, by show upd S.lock _ _ _ = _; rw [upd_other _ _ hne]; exact hH2, hq⟩
    · right
      have hH2 : upd S.lock n (some ⟨(k : Int) + 1, []⟩) n' = some H := hH'
      simp only [if_true]
      by_cases en : n' = n
      · subst en; rw [upd_same] at hH2; cases hH2
        exact ⟨k, d k, T, hk, ha, rfl, hn, hT, .inl (by rw [upN_same]; omega)⟩
      · rw [upd_other _ _ en] at hH2
        obtain hx | ⟨k1, j, Q, a1, a2, a3, a4, a5, a6⟩ := h.lk n' H hH2
        · exact hx.elim
        · refine ⟨k1, j, Q, a1, a2, a3, a4, a5, ?_⟩
          by_cases ek : k1 = k
          · subst ek; rw [upN_same]; left; omega
          · rw [upN_other _ _ ek]; exact a6
    · obtain ⟨b1, b2⟩ := h.pt j hj hja
      simp only [if_true]
      by_cases ej : j = k
      · subst ej; rw [upN_same, upN_same]
        exact ⟨by omega, fun _ _ _ _ => by omega⟩
      · rw [upN_other _ _ ej, upN_other _ _ ej]
        refine ⟨b1, fun Q hQ hkq hnx => b2 Q hQ hkq fun n' H hn' hH' => ?_⟩
        refine hnx n' H hn' ?_
        show upd S.lock _ _ _ = _
        have en : n' ≠ n := by rintro rfl; rw [hH] at hH'; cases hH'
        rw [upd_other _ _ en]; exact hH'
  | some H0 =>
    by_cases hm : H0.holder = (k : Int) + 1
    · have e : S.lockC ((k : Int) + 1) n = ((true, 0), S) := by unfold SS.lockC; rw [if_neg (by omega), hT]; simp [h0, hH, hm]
      rw [e]
      refine ⟨true, rfl, by omega, h.tk, fun j hj hja => ?_, h.wq, fun n' H hH' => ?_, fun j hj hja => ?_, h.td⟩
      · obtain ⟨Q, hQ, hd, hor⟩ := h.ta j hj hja
        simp only [if_true]
        by_cases ej : j = k
        · subst ej; rw [upN_same]
          rw [hT] at hQ; cases hQ
          exact ⟨T, hT, by omega, .inl h0⟩
        · rw [upN_other _ _ ej]; exact ⟨Q, hQ, hd, hor⟩
      · right
        simp only [if_true]
        obtain hx | ⟨k1, j, Q, a1, a2, a3, a4, a5, a6⟩ := h.lk n' H hH'
        · exact hx.elim
        · refine ⟨k1, j, Q, a1, a2, a3, a4, a5, ?_⟩
          by_cases ek : k1 = k
          · subst ek; rw [upN_same]; left; omega
          · rw [upN_other _ _ ek]; exact a6
      · obtain ⟨b1, b2⟩ := h.pt j hj hja
        simp only [if_true]
        by_cases ej : j = k
        · subst ej; rw [upN_same, upN_same]
          exact ⟨by omega, fun _ _ _ _ => by omega⟩
        · rw [upN_other _ _ ej, upN_other _ _ ej]
          exact ⟨b1, b2⟩
    · have e : S.lockC ((k : Int) + 1) n = ((false, 0), S.waits ((k : Int) + 1) n H0 T) := by unfold SS.lockC; rw [if_neg (by omega), hT]; simp [h0, hH, hm]
      rw [e]
      have hfr : 2 * ((todo k).length - d k) + 1 ≤ pot k := hp2 T hT h0 fun n' H hn' hH' => by
        rw [hn] at hn'; cases hn'; rw [hH] at hH'; cases hH'; exact hm
      have tother : ∀ y, y ≠ (k : Int) + 1 → (S.waits ((k : Int) + 1) n H0 T).task y = S.task y := fun y hy => upd_other _ _ hy
      have tself : (S.waits ((k : Int) + 1) n H0 T).task ((k : Int) + 1) = some { T with kind := 1, num := n } := upd_same _ _ _
      have lother : ∀ n', n' ≠ n → (S.waits ((k : Int) + 1) n H0 T).lock n' = S.lock n' := fun n' hn => upd_other _ _ hn
      have lself : (S.waits ((k : Int) + 1) n H0 T).lock n = some ⟨H0.holder, H0.queue ++ [(k : Int) + 1]⟩ := upd_same _ _ _
      refine ⟨false, rfl, by omega, fun x Q hQ => ?_, fun j hj hja => ?_, fun x Q hQ hkq => ?_, fun n' H hH' => ?_, fun j hj hja => ?_, h.td⟩
      · by_cases ex : x = (k : Int) + 1
        · exact ⟨k, hk, ha, ex⟩
        · rw [tother x ex] at hQ; exact h.tk x Q hQ
      · obtain ⟨Q, hQ, hd, hor⟩ := h.ta j hj hja
        by_cases ej : j = k
        · subst ej
          exact ⟨_, tself, hd, .inr ⟨rfl, hn⟩⟩
        · exact ⟨Q, by rw [tother _ (by omega)]; exact hQ, hd, hor⟩
      · by_cases ex : x = (k : Int) + 1
        · subst ex
          rw [tself] at hQ; cases hQ
          exact ⟨_, lself, by simp⟩
        · rw [tother x ex] at hQ
          obtain ⟨H, hH2, hq⟩ := h.wq x Q hQ hkq
          by_cases en : Q.num = n
          · rw [en] at hH2 ⊢; rw [hH] at hH2; cases hH2
            exact ⟨_, lself, List.mem_append_left _ hq⟩
          · exact ⟨H, by rw [lother _ en]; exact hH2, hq⟩
      · right
        have main : ∀ n' H0', S.lock n' = some H0' → (n' = n → H0'.holder ≠ (k : Int) + 1) → ∃ (k1 j : Nat) (T1 : TS), k1 < m ∧ al k1 = true ∧ H0'.holder = (k1 : Int) + 1 ∧ (todo k1)[j]? = some n' ∧ (S.waits ((k : Int) + 1) n H0 T).task ((k1 : Int) + 1) = some T1 ∧ (j < d k1 ∨ (j = d k1 ∧ T1.kind = 0)) := by
          intro n' H0' hl hne
          obtain hx | ⟨k1, j, Q, a1, a2, a3, a4, a5, a6⟩ := h.lk n' H0' hl
          · exact hx.elim
          · by_cases ek : k1 = k
            · subst ek
              rcases a6 with a6 | ⟨a6, _⟩
              · exact ⟨k1, j, _, a1, a2, a3, a4, tself, .inl a6⟩
              · subst a6
                rw [hn] at a4; cases a4
                exact absurd a3 (hne rfl)
            · exact ⟨k1, j, Q, a1, a2, a3, a4, by rw [tother _ (by omega)]; exact a5, a6⟩
        by_cases en : n' = n
        · subst en; rw [lself] at hH'; cases hH'
          exact main n' H0 hH fun _ => hm
        · rw [lother _ en] at hH'
          exact main n' H hH' fun e => absurd e en
      · obtain ⟨b1, b2⟩ := h.pt j hj hja
        by_cases ej : j = k
        · subst ej; rw [upN_same]
          refine ⟨by show 2 * ((todo j).length - d j) ≤ _; omega, fun Q hQ hkq => ?_⟩
          rw [tself] at hQ; cases hQ; cases hkq
        · rw [upN_other _ _ ej]
          refine ⟨b1, fun Q hQ hkq hnx => ?_⟩
          rw [tother _ (by omega)] at hQ
          refine b2 Q hQ hkq fun n' H hn' hH' => ?_
          by_cases en : n' = n
          · subst en; rw [hH] at hH'; cases hH'
            exact hnx n' ⟨H0.holder, H0.queue ++ [(k : Int) + 1]⟩ hn' lself
          · exact hnx n' H hn' (by rw [lother _ en]; exact hH')
end

end Go.Proofs.Ytnonidoeakhfdaa
