/- SchedLatches: what the law keeps. -/
import Derived.Test.YtnonidoeakhfdaaD2
import Derived.Test.YtnonidoeakhfdaaC2
namespace Go.Proofs.Ytnonidoeakhfdaa
open Go.RowKit Go.Maps Go.Sort
set_option linter.unusedVariables false

def wk (T : TS) : TS := { T with kind := 0, num := 0 }
theorem wake_get (S : SS) (x y : Int) : (S.wake x).task y = if y = x then (S.task y).map wk else S.task y := by
  by_cases e : y = x
  · subst e
    rw [if_pos rfl]
    unfold SS.wake
    cases hT : S.task y with
    | none => simp only; rw [hT]; rfl
    | some T => exact upd_same _ _ _
  · rw [if_neg e]; exact wake_other S e
theorem wakeAll_get (S : SS) (l : List Int) (y : Int) : (S.wakeAll l).task y = if y ∈ l then (S.task y).map wk else S.task y := by
  unfold SS.wakeAll
  induction l generalizing S with
  | nil => simp
  | cons x l ih =>
    rw [List.foldl_cons, ih, wake_get]
    by_cases e : y = x
    · subst e
      cases S.task y <;> simp [wk]
    · simp [e]
structure SameBut (S S' : SS) : Prop where
  keys : S'.keys = S.keys
  last : S'.last = S.last
  opens : S'.opens = S.opens
  used : S'.used = S.used
  lock : S'.lock = S.lock
  locks : S'.locks = S.locks
theorem wakeAll_same (S : SS) (l : List Int) : SameBut S (S.wakeAll l) := by
  unfold SS.wakeAll
  induction l generalizing S with
  | nil => exact ⟨rfl, rfl, rfl, rfl, rfl, rfl⟩
  | cons x l ih =>
    rw [List.foldl_cons]
    have h1 : SameBut S (S.wake x) := by
      unfold SS.wake
      cases S.task x <;> exact ⟨rfl, rfl, rfl, rfl, rfl, rfl⟩
    have h2 := ih (S := S.wake x)
    exact ⟨h2.keys.trans h1.keys, h2.last.trans h1.last, h2.opens.trans h1.opens, h2.used.trans h1.used, h2.lock.trans h1.lock, h2.locks.trans h1.locks⟩

theorem TI.set {S : SS} {n u : Nat} {T : Nat → TS} (h : TI S n T u) {m : Nat} (hm : m < n) (X : TS) : TI (S.setT ((m : Int) + 1) X) n (fun k => if k = m then X else T k) u := by
  refine ⟨h.keys, h.last, fun k hk => ?_, h.used⟩
  show upd S.task _ _ _ = _
  by_cases e : k = m
  · subst e; rw [upd_same, if_pos rfl]
  · rw [upd_other _ _ (by omega), if_neg e]; exact h.task k hk

def lateB (late : List Bool) (m : Nat) : Bool := late.getD m false
/-- The tasks: who came late is ready, the others wait for the latch. -/
def TL (late : List Bool) (latch : Int) (m : Nat) : TS := if lateB late m then ⟨0, 0, 0⟩ else ⟨0, 2, latch⟩
structure LI (late : List Bool) (latch : Int) (S : SS) (i u : Nat) : Prop where
  ti : TI S i (TL late latch) u
  op : ∀ n, S.opens n = false
theorem LI.late {late : List Bool} {latch : Int} {S : SS} {i u : Nat} (h : LI late latch S i u) (hi : i < 64) (hl : lateB late i = true) : S.started.1 = ((i : Int) + 1, 0) ∧ LI late latch S.started.2 (i + 1) (u + 1) := by
  obtain ⟨e, h2⟩ := h.ti.start hi
  refine ⟨e, ⟨h2.congr (fun m hm => ?_) (Nat.le_refl _), fun n => ?_⟩⟩
  · by_cases e : m = i
    · subst e; rw [if_pos rfl]; unfold TL; rw [hl]; rfl
    · rw [if_neg e]
  · have := h.op n
    unfold SS.started; split <;> exact this
/-- One that does not come late waits. -/
theorem LI.early {late : List Bool} {latch : Int} {S : SS} {i u : Nat} (h : LI late latch S i u) (hi : i < 64) (h0 : 0 ≤ latch) (hl : lateB late i = false) :
    S.started.1 = ((i : Int) + 1, 0) ∧ (S.started.2.awaitC ((i : Int) + 1) latch).1 = (false, 0) ∧ LI late latch (S.started.2.awaitC ((i : Int) + 1) latch).2 (i + 1) (u + 1) ∧
      ((S.started.2.awaitC ((i : Int) + 1) latch).2.endC ((i : Int) + 1)) = (51, (S.started.2.awaitC ((i : Int) + 1) latch).2) := by
  obtain ⟨e, h2⟩ := h.ti.start hi
  have hop : ∀ n, S.started.2.opens n = false := fun n => by have := h.op n; unfold SS.started; split <;> exact this
  have hT := h2.task i (by omega)
  rw [if_pos rfl] at hT
  have ea : S.started.2.awaitC ((i : Int) + 1) latch = ((false, 0), S.started.2.setT ((i : Int) + 1) ⟨0, 2, latch⟩) := by
    unfold SS.awaitC
    rw [if_neg (by omega), hT]
    simp [hop]
  rw [ea]
  have h3 := h2.set (m := i) (by omega) ⟨0, 2, latch⟩
  refine ⟨e, rfl, ⟨h3.congr (fun m hm => ?_) (Nat.le_refl _), fun n => hop n⟩, ?_⟩
  · by_cases e : m = i
    · subst e; rw [if_pos rfl]; unfold TL; rw [hl]; rfl
    · rw [if_neg e, if_neg e]
  · have hT3 := h3.task i (by omega)
    rw [if_pos rfl] at hT3
    unfold SS.endC; rw [hT3]; rfl

/-- How many of the first i don't come late. -/
def cF (late : List Bool) (i : Nat) : Nat := ((List.range i).filter fun m => !(lateB late m)).length
theorem cF_late {late : List Bool} {i : Nat} (h : lateB late i = true) : cF late (i + 1) = cF late i := by
  unfold cF; rw [List.range_succ, List.filter_append]; simp [h]
theorem cF_early {late : List Bool} {i : Nat} (h : lateB late i = false) : cF late (i + 1) = cF late i + 1 := by
  unfold cF; rw [List.range_succ, List.filter_append]; simp [h]
theorem cF_le (late : List Bool) (i : Nat) : cF late i ≤ i := by
  unfold cF
  exact Nat.le_trans (List.length_filter_le _ _) (by simp)

/-- All are ready, and the latch is open. -/
structure LO (latch : Int) (S : SS) (i u : Nat) : Prop where
  ti : TI S i T0 u
  op : S.opens latch = true
theorem LI.open {late : List Bool} {latch : Int} {S : SS} {i u : Nat} (h : LI late latch S i u) (h0 : 0 ≤ latch) : (S.openC latch).1 = cF late i ∧ LO latch (S.openC latch).2 i (u + 1) := by
  have e : S.openC latch = ((((S.those (onLatch latch)).length : Nat) : Int), (S.opened latch).wakeAll (S.those (onLatch latch))) := by unfold SS.openC; rw [if_neg (by omega)]
  have hs := wakeAll_same (S.opened latch) (S.those (onLatch latch))
  have hm : ∀ m, m < i → (((m : Int) + 1 ∈ S.those (onLatch latch)) ↔ lateB late m = false) := fun m hm => by
    unfold SS.those
    rw [List.mem_filter, h.ti.keys, h.ti.task m hm]
    have : (m : Int) + 1 ∈ rng i := rng_mem.2 ⟨m, hm, rfl⟩
    cases hl : lateB late m <;> simp [this, TL, hl, onLatch]
  rw [e]
  refine ⟨?_, ⟨⟨?_, ?_, fun m hmi => ?_, ?_⟩, ?_⟩⟩
  · show ((S.those (onLatch latch)).length : Int) = _
    unfold SS.those cF
    rw [h.ti.keys, rng, List.filter_map, List.length_map]
    congr 2
    apply List.filter_congr
    intro m hmr
    have hmi : m < i := List.mem_range.1 hmr
    show (S.task ((m : Int) + 1)).any _ = _
    rw [h.ti.task m hmi]
    cases hl : lateB late m <;> simp [TL, hl, onLatch]
  · rw [hs.keys]; exact h.ti.keys
  · rw [hs.last]; exact h.ti.last
  · rw [wakeAll_get]
    have ht : (S.opened latch).task ((m : Int) + 1) = some (TL late latch m) := h.ti.task m hmi
    rw [ht]
    cases hl : lateB late m
    · rw [if_pos ((hm m hmi).2 hl)]; simp [TL, hl, wk, T0]
    · rw [if_neg (fun hx => by rw [(hm m hmi).1 hx] at hl; cases hl)]; simp [TL, hl, T0]
  · rw [hs.used]
    have := h.ti.used
    show S.used + 1 ≤ u + 1; omega
  · rw [hs.opens]; exact upd_same _ _ _
theorem LO.await {latch : Int} {S : SS} {i u m : Nat} (h : LO latch S i u) (h0 : 0 ≤ latch) (hm : m < i) : S.awaitC ((m : Int) + 1) latch = ((true, 0), S) := by
  unfold SS.awaitC
  rw [if_neg (by omega), h.ti.task m hm]
  simp [T0, h.op]
theorem LO.open {latch : Int} {S : SS} {i u : Nat} (h : LO latch S i u) (h0 : 0 ≤ latch) : (S.openC latch).1 = 0 := by
  have : S.those (onLatch latch) = [] := by
    unfold SS.those
    rw [List.filter_eq_nil_iff, h.ti.keys]
    intro x hx
    obtain ⟨m, hm, rfl⟩ := rng_mem.1 hx
    rw [h.ti.task m hm]
    simp [T0, onLatch]
  unfold SS.openC; rw [if_neg (by omega), this]; rfl

end Go.Proofs.Ytnonidoeakhfdaa
