/- Reading keeps the words' end, plain. -/
import Derived.Test.YtpdfenpmnpoehaaGreatDoorP3
namespace Go.Proofs.YtpdfenpmnpoehaaGreatDoor
set_option linter.unusedVariables false

/-- What ends the words is left. -/
def Ended (r : List Wd) : Prop := ∃ a e, r = a ++ [e] ∧ e.kind = 6 ∧ ∀ x ∈ a, x.kind ≠ 6
theorem Ended.cons {r : List Wd} (h : Ended r) : ∃ x l, r = x :: l := by
  obtain ⟨a, e, rfl, _⟩ := h
  cases a with
  | nil => exact ⟨e, [], rfl⟩
  | cons x a => exact ⟨x, a ++ [e], rfl⟩
theorem Ended.tail {x : Wd} {l : List Wd} (h : Ended (x :: l)) (hx : x.kind ≠ 6) : Ended l := by
  obtain ⟨a, e, h1, h2, h3⟩ := h
  cases a with
  | nil => cases h1; exact absurd h2 hx
  | cons y a =>
    cases h1
    exact ⟨a, e, rfl, h2, fun z hz => h3 z (by simp [hz])⟩
/-- A word that is meant is not the end. -/
def Inner (m : Wd → Bool) : Prop := ∀ x, m x = true → x.kind ≠ 6
theorem inner_of {k : Nat} (h : k ≠ 6) : Inner (ofW k) := fun x hx => by unfold ofW at hx; simp at hx; omega
theorem fix_inner {x : Wd} (h : fixW x = true) : x.kind ≠ 6 := by unfold fixW at h; simp at h; omega
theorem inner_says (t : Tx) : Inner (saysW t) := fun x hx => by unfold saysW at hx; simp at hx; exact fix_inner hx.1
theorem inner_among (t : List Tx) : Inner (amongW t) := fun x hx => by unfold amongW at hx; simp at hx; exact fix_inner hx.1
theorem Ended.sees {r : List Wd} (h : Ended r) {m : Wd → Bool} (hm : Inner m) (hs : seesW m r = true) : Ended r.tail ∧ r.tail.length < r.length := by
  obtain ⟨x, l, rfl⟩ := h.cons
  exact ⟨h.tail (hm x hs), by simp⟩
def Keeps {α : Type} (p : Pa α) : Prop := ∀ r b a r' b', Ended r → p r b = .ok a r' b' → Ended r' ∧ r'.length ≤ r.length
section
variable {α β : Type}
theorem Keeps.then {p : Pa α} {f : α → Pa β} (hp : Keeps p) (hf : ∀ a, Keeps (f a)) : Keeps (fun r b => (p r b).then f) := by
  intro r b a r' b' he h
  simp only [PR.then] at h
  split at h
  · rename_i x r1 b1 h1
    obtain ⟨i1, i2⟩ := hp _ _ _ _ _ he h1
    obtain ⟨j1, j2⟩ := hf x _ _ _ _ _ i1 h
    exact ⟨j1, by omega⟩
  · cases h
theorem keeps_ok (a : α) : Keeps (fun r b => PR.ok a r b) := by
  intro r b x r' b' he h
  cases h
  exact ⟨he, Nat.le_refl _⟩
theorem Keeps.map {p : Pa α} {f : α → β} (hp : Keeps p) : Keeps (fun r b => (p r b).map f) := hp.then fun a => keeps_ok (f a)
theorem keeps_need {m : Wd → Bool} (hm : Inner m) : Keeps (needW m) := by
  intro r b a r' b' he h
  obtain ⟨x, l, rfl⟩ := he.cons
  have h : (if m x then PR.ok x l b else .bad 41 x.pos) = .ok a r' b' := h
  split at h
  · rename_i hx
    cases h
    exact ⟨he.tail (hm _ hx), by simp⟩
  · cases h
theorem Keeps.ite {p q : Pa α} {m : Wd → Bool} (hm : Inner m) (hp : Keeps p) (hq : Keeps q) : Keeps (fun r b => if seesW m r then p r.tail b else q r b) := by
  intro r b a r' b' he h
  simp only at h
  split at h
  · rename_i hs
    obtain ⟨i1, i2⟩ := he.sees hm hs
    obtain ⟨j1, j2⟩ := hp _ _ _ _ _ i1 h
    exact ⟨j1, by omega⟩
  · exact hq _ _ _ _ _ he h
theorem Keeps.ite0 {p q : Pa α} {m : Wd → Bool} (hp : Keeps p) (hq : Keeps q) : Keeps (fun r b => if seesW m r then p r b else q r b) := by
  intro r b a r' b' he h
  simp only at h
  split at h
  · exact hp _ _ _ _ _ he h
  · exact hq _ _ _ _ _ he h
theorem keeps_name : Keeps nameW := (keeps_need (inner_of (by decide))).map
theorem keeps_all : ∀ ts : List Tx, Keeps (allW ts)
  | [] => keeps_ok ()
  | t :: ts => (keeps_need (inner_says t)).then fun _ => keeps_all ts
theorem keeps_more {one : Pa α} (h : Keeps one) : ∀ (f : Nat) (l : List α), Keeps (moreW one f l)
  | 0, l => by intro r b a r' b' he h; cases h
  | f + 1, l => Keeps.ite (p := fun r b => (one r b).then fun a => moreW one f (l ++ [a])) (q := fun r b => .ok l r b) (inner_says _) (h.then fun a => keeps_more h f (l ++ [a])) (keeps_ok l)
theorem keeps_list {one : Pa α} {most : Nat} (h : Keeps one) : Keeps (listW most one) := by
  intro r b a r' b' he hh
  unfold listW at hh
  simp only [PR.then] at hh
  cases h1 : one r b with
  | bad c p => rw [h1] at hh; cases hh
  | ok x r1 b1 =>
    rw [h1] at hh
    simp only at hh
    obtain ⟨i1, i2⟩ := h _ _ _ _ _ he h1
    cases h2 : moreW one (r1.length + 1) [x] r1 b1 with
    | bad c p => rw [h2] at hh; cases hh
    | ok y r2 b2 =>
      rw [h2] at hh
      cases hh
      obtain ⟨j1, j2⟩ := keeps_more h _ _ _ _ _ _ _ i1 h2
      exact ⟨j1, by omega⟩
end
theorem keeps_item : Keeps itemW := by
  refine Keeps.ite0 (m := ofW 1) (p := fun r b => (nameW r b).map fun t => It.mk 1 t) keeps_name.map ?_
  refine Keeps.then (p := needW (amongW callsT)) (keeps_need (inner_among _)) fun x => ?_
  refine Keeps.then (p := allW [[40]]) (keeps_all _) fun _ => ?_
  intro r b a r' b' he h
  simp only at h
  split at h
  · exact (Keeps.map (keeps_all [[42], [41]])) r b a r' b' he h
  · exact (Keeps.then keeps_name fun t => (keeps_all [[41]]).map) r b a r' b' he h
theorem keeps_val : Keeps valW := by
  refine Keeps.ite0 (m := ofW 4) (p := fun r b => (needW (ofW 4) r b).map fun x => Vl.mk true x.text 0) (keeps_need (inner_of (by decide))).map ?_
  intro r b a r' b' he h
  simp only at h
  have key : ∀ (s : Tx), Keeps (fun r b => (needW (ofW 3) r b).then fun x r1 b1 => match numW (s ++ x.text) with | some n => PR.ok (Vl.mk false [] n) r1 b1 | none => .bad 45 x.pos) := fun s => by
    refine (keeps_need (inner_of (by decide))).then fun x => ?_
    intro r b a r' b' he h
    simp only at h
    split at h
    · cases h; exact ⟨he, Nat.le_refl _⟩
    · cases h
  cases hs : seesW (saysW [45]) r with
  | true =>
    rw [hs] at h
    obtain ⟨i1, i2⟩ := he.sees (inner_says _) hs
    obtain ⟨j1, j2⟩ := key [45] _ _ _ _ _ i1 h
    exact ⟨j1, by omega⟩
  | false =>
    rw [hs] at h
    exact key [] _ _ _ _ _ he h
theorem keeps_test : Keeps testW := by
  refine Keeps.then (p := nameW) keeps_name fun t => ?_
  refine Keeps.ite (m := saysW [73, 78]) (p := fun r b => (allW [[40]] r b).then fun _ r2 b2 => (listW 64 valW r2 b2).then fun vs r3 b3 => (allW [[41]] r3 b3).map fun _ => Cd.node 5 .none .none t 0 vs) (inner_says _) ?_ ?_
  · exact Keeps.then (keeps_all _) fun _ => Keeps.then (keeps_list keeps_val) fun vs => (keeps_all _).map
  · exact Keeps.then (keeps_need (inner_among _)) fun x => keeps_val.map
theorem keeps_link {k : Int} {kw : Tx} {one : Pa Cd} (h : Keeps one) : ∀ (f : Nat) (c : Cd), Keeps (linkW k kw one f c)
  | 0, c => by intro r b a r' b' he h; cases h
  | f + 1, c => Keeps.ite (p := fun r b => (one r b).then fun d => linkW k kw one f (.node k c d [] 0 [])) (q := fun r b => .ok c r b) (inner_says _) (h.then fun d => keeps_link h f _) (keeps_ok c)
theorem keeps_chain {k : Int} {kw : Tx} {one : Pa Cd} (h : Keeps one) : Keeps (chainW k kw one) := by
  intro r b a r' b' he hh
  unfold chainW at hh
  simp only [PR.then] at hh
  cases h1 : one r b with
  | bad c p => rw [h1] at hh; cases hh
  | ok x r1 b1 =>
    rw [h1] at hh
    obtain ⟨i1, i2⟩ := h _ _ _ _ _ he h1
    obtain ⟨j1, j2⟩ := keeps_link h _ _ _ _ _ _ _ i1 hh
    exact ⟨j1, by omega⟩
theorem keeps_not : ∀ f : Nat, Keeps (notW f)
  | 0 => by intro r b a r' b' he h; cases h
  | f + 1 => by
    have ih := keeps_not f
    refine Keeps.ite (m := saysW [78, 79, 84]) (p := fun r b => (notW f r b).map fun c => Cd.node 3 c .none [] 0 []) (inner_says _) ih.map ?_
    refine Keeps.ite (m := saysW [40]) (p := fun r b => (orW (notW f) r b).then fun c r1 b1 => (allW [[41]] r1 b1).map fun _ => c) (inner_says _) ?_ keeps_test
    exact Keeps.then (keeps_chain (keeps_chain ih)) fun c => (keeps_all _).map
theorem keeps_or (f : Nat) : Keeps (orW (notW f)) := keeps_chain (keeps_chain (keeps_not f))
theorem keeps_names : Keeps namesW := Keeps.then (keeps_list keeps_name) fun l => (keeps_all _).map
theorem keeps_lst : Keeps lstW := Keeps.then (keeps_all _) fun _ => keeps_names
theorem keeps_set : Keeps setW := by
  refine Keeps.ite0 (m := ofW 1) (p := fun r b => (nameW r b).map fun t => [t]) keeps_name.map ?_
  exact Keeps.then (keeps_all _) fun _ => Keeps.ite (m := saysW [41]) (p := fun r b => .ok [] r b) (inner_says _) (keeps_ok _) keeps_names
theorem keeps_elt : Keeps eltW := by
  refine Keeps.ite0 (m := ofW 1) (p := fun r b => (nameW r b).map fun t => Gp.mk 1 [t] []) keeps_name.map ?_
  refine Keeps.ite (m := saysW [82, 79, 76, 76, 85, 80]) (p := fun r b => (lstW r b).map fun l => Gp.mk 2 l []) (inner_says _) keeps_lst.map ?_
  refine Keeps.ite (m := saysW [67, 85, 66, 69]) (p := fun r b => (lstW r b).map fun l => Gp.mk 3 l []) (inner_says _) keeps_lst.map ?_
  exact Keeps.then (keeps_all _) fun _ => Keeps.then (keeps_list keeps_set) fun ss => (keeps_all _).map
end Go.Proofs.YtpdfenpmnpoehaaGreatDoor
