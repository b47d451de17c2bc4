/- Tasks 1 to n, as they were started. -/
import Derived.Test.YtnonidoeakhfdaaB8
namespace Go.Proofs.Ytnonidoeakhfdaa
open Go.RowKit Go.Maps Go.Sort
set_option linter.unusedVariables false

def rng (n : Nat) : List Int := (List.range n).map fun (i : Nat) => (i : Int) + 1
theorem rng_len (n : Nat) : (rng n).length = n := by simp [rng]
theorem rng_succ (n : Nat) : rng (n + 1) = rng n ++ [(n : Int) + 1] := by simp [rng, List.range_succ]
theorem rng_get {n k : Nat} (h : k < n) : (rng n)[k]? = some ((k : Int) + 1) := by simp [rng, h]
theorem rng_mem {n : Nat} {x : Int} : x ∈ rng n ↔ ∃ k : Nat, k < n ∧ x = (k : Int) + 1 := by
  simp only [rng, List.mem_map, List.mem_range]
  constructor
  · rintro ⟨k, hk, rfl⟩; exact ⟨k, hk, rfl⟩
  · rintro ⟨k, hk, rfl⟩; exact ⟨k, hk, rfl⟩

/-- n tasks are there, and no other one. -/
structure TI (S : SS) (n : Nat) (T : Nat → TS) (u : Nat) : Prop where
  keys : S.keys = rng n
  last : S.last = n
  task : ∀ m : Nat, m < n → S.task ((m : Int) + 1) = some (T m)
  used : S.used ≤ u

theorem TI.zero (T : Nat → TS) : TI SS.zero 0 T 0 := ⟨rfl, rfl, fun m hm => by omega, Nat.le_refl _⟩
theorem TI.start {S : SS} {n u : Nat} {T : Nat → TS} (h : TI S n T u) (hn : n < 64) : S.started.1 = ((n : Int) + 1, 0) ∧ TI S.started.2 (n + 1) (fun m => if m = n then ⟨0, 0, 0⟩ else T m) (u + 1) := by
  have hl : S.keys.length = n := by rw [h.keys, rng_len]
  have e : S.started = ((S.last + 1, 0), S.made) := by unfold SS.started; rw [if_neg (by omega)]
  rw [e]
  refine ⟨by rw [h.last], ?_, ?_, fun m hm => ?_, ?_⟩
  · show S.keys ++ [S.last + 1] = _
    rw [h.keys, h.last, rng_succ]
  · show S.last + 1 = ((n + 1 : Nat) : Int); rw [h.last]; omega
  · show upd S.task (S.last + 1) _ _ = _
    by_cases e : m = n
    · subst e; rw [h.last, upd_same, if_pos rfl]
    · rw [h.last, upd_other _ _ (by omega), if_neg e]; exact h.task m (by omega)
  · have := h.used; show S.used + 1 ≤ u + 1; omega

theorem TI.ready {S : SS} {n u : Nat} {T : Nat → TS} (h : TI S n T u) (h0 : ∀ m, m < n → (T m).kind = 0) : S.ready = rng n := by
  unfold SS.ready SS.those
  rw [h.keys, List.filter_eq_self]
  intro x hx
  obtain ⟨k, hk, rfl⟩ := rng_mem.1 hx
  rw [h.task k hk]
  simp [rdy, h0 k hk]

theorem TI.picks {S : SS} {n u : Nat} {T : Nat → TS} (h : TI S n T u) {m : Nat} (hm : m < n) : S.picksC ((m : Int) + 1) = (T m).picks := by
  unfold SS.picksC; rw [h.task m hm]

theorem TI.pick0 {S : SS} {u : Nat} {T : Nat → TS} (h : TI S 0 T u) (i : Int) : S.pick i = ((0, false), S) := by
  have : S.ready = [] := h.ready fun m hm => by omega
  unfold SS.pick; rw [this]; rfl

theorem TI.pick {S : SS} {n u : Nat} {T : Nat → TS} (h : TI S n T u) (h0 : ∀ m, m < n → (T m).kind = 0) (hn : 0 < n) (i : Nat) :
    (S.pick i).1 = (((i % n : Nat) : Int) + 1, true) ∧ TI (S.pick i).2 n (fun m => if m = i % n then { T m with picks := (T m).picks + 1 } else T m) (u + 1) := by
  have hr := h.ready h0
  have hlt : i % n < n := Nat.mod_lt _ hn
  have hne : S.ready.isEmpty = false := by
    rw [hr]; cases n with
    | zero => omega
    | succ n => rw [rng_succ]; simp
  have hpk : pk (i : Int) = (i : Int) := by unfold pk; rw [if_neg (by omega)]
  have ht : S.pickT i = ((i % n : Nat) : Int) + 1 := by
    unfold SS.pickT
    rw [hr, rng_len, hpk, show ((i : Int) % (n : Int)).toNat = i % n by rw [← Int.natCast_emod]; rfl, List.getD_eq_getElem?_getD, rng_get hlt]; rfl
  have e : S.pick i = ((S.pickT i, true), S.picked (S.pickT i)) := by unfold SS.pick; rw [hne]; rfl
  rw [e, ht]
  have hT := h.task (i % n) hlt
  have e2 : S.picked (((i % n : Nat) : Int) + 1) = { S.setT (((i % n : Nat) : Int) + 1) { T (i % n) with picks := (T (i % n)).picks + 1 } with used := S.used + 1 } := by unfold SS.picked; rw [hT]
  rw [e2]
  refine ⟨rfl, h.keys, h.last, fun m hm => ?_, ?_⟩
  · show upd S.task _ _ _ = _
    by_cases e : m = i % n
    · subst e; rw [upd_same, if_pos rfl]
    · rw [upd_other _ _ (by omega), if_neg e]; exact h.task m hm
  · have := h.used; show S.used + 1 ≤ u + 1; omega

/-- How often each was picked, after i picks by turns. -/
def cnt (n i m : Nat) : Int := ((i / n + if m < i % n then 1 else 0 : Nat) : Int)
theorem cnt_step {n i m : Nat} (hn : 0 < n) (hm : m < n) : cnt n (i + 1) m = cnt n i m + if m = i % n then 1 else 0 := by
  have h1 : i = n * (i / n) + i % n := (Nat.div_add_mod i n).symm
  have h2 : i % n < n := Nat.mod_lt _ hn
  generalize hq : i / n = q at *
  generalize hr : i % n = r at *
  have e : i + 1 = n * q + (r + 1) := by omega
  unfold cnt
  rw [hq, hr]
  by_cases hlt : r + 1 < n
  · have e1 : (i + 1) / n = q := by rw [e, Nat.mul_add_div hn, Nat.div_eq_of_lt hlt]; rfl
    have e2 : (i + 1) % n = r + 1 := by rw [e, Nat.mul_add_mod, Nat.mod_eq_of_lt hlt]
    rw [e1, e2]
    by_cases a : m = r
    · subst a; simp
    · by_cases b : m < r
      · simp [a, b, show m < r + 1 by omega]
      · simp [a, b, show ¬ m < r + 1 by omega]
  · have hrn : r + 1 = n := by omega
    have e3 : i + 1 = n * (q + 1) := by rw [e, hrn, Nat.mul_add, Nat.mul_one]
    have e1 : (i + 1) / n = q + 1 := by rw [e3, Nat.mul_div_cancel_left _ hn]
    have e2 : (i + 1) % n = 0 := by rw [e3, Nat.mul_mod_right]
    rw [e1, e2]
    by_cases a : m = r
    · subst a; simp
    · simp [a, show m < r by omega]

end Go.Proofs.Ytnonidoeakhfdaa
