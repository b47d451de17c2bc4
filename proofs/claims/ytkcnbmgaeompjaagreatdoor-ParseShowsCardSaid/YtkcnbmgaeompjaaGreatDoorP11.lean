/- Reading keeps the words' end and takes what they weigh, plain. -/
import Derived.Test.YtkcnbmgaeompjaaGreatDoorGF
namespace Go.Proofs.YtkcnbmgaeompjaaGreatDoor
set_option linter.unusedVariables false

/-- What a word weighs: the words that join conditions two, the end nothing, each other one. -/
def wgt (x : Wd) : Nat := if x.kind = 6 then 0 else if fixW x && (x.text == [65, 78, 68] || x.text == [79, 82] || x.text == [78, 79, 84]) then 2 else 1
def wsum (r : List Wd) : Nat := (r.map wgt).sum
theorem wsum_cons (x : Wd) (r : List Wd) : wsum (x :: r) = wgt x + wsum r := by simp [wsum]
theorem wgt_one {x : Wd} (h : x.kind ≠ 6) : 1 ≤ wgt x := by
  unfold wgt
  rw [if_neg h]
  split <;> omega
theorem Ended.goW1 {r : List Wd} (h : Ended r) {m : Wd → Bool} (hm : Inner m) (hs : seesW m r = true) : Ended r.tail ∧ (r.tail.length < r.length ∧ wsum r.tail + 1 ≤ wsum r) := by
  obtain ⟨x, l, rfl⟩ := h.cons
  refine ⟨h.tail (hm x hs), by simp, ?_⟩
  have := wgt_one (hm x hs)
  rw [wsum_cons]; show wsum l + 1 ≤ _; omega
/-- One of the words that join conditions. -/
theorem Ended.sees2 {r : List Wd} (h : Ended r) {t : Tx} (ht : t = [65, 78, 68] ∨ t = [79, 82] ∨ t = [78, 79, 84]) (hs : seesW (saysW t) r = true) : Ended r.tail ∧ (r.tail.length < r.length ∧ wsum r.tail + 2 ≤ wsum r) := by
  obtain ⟨x, l, rfl⟩ := h.cons
  have hx : saysW t x = true := hs
  have h6 := inner_says t x hx
  refine ⟨h.tail h6, by simp, ?_⟩
  have : wgt x = 2 := by
    unfold saysW at hx
    simp only [Bool.and_eq_true, beq_iff_eq] at hx
    unfold wgt
    rw [if_neg h6, hx.1, hx.2]
    rcases ht with rfl | rfl | rfl <;> rfl
  rw [wsum_cons]; show wsum l + 2 ≤ _; omega
def KeepW {α : Type} (p : Pa α) : Prop := ∀ r b a r' b', Ended r → p r b = .ok a r' b' → Ended r' ∧ (r'.length ≤ r.length ∧ wsum r' ≤ wsum r)
section
variable {α β : Type}
theorem KeepW.then {p : Pa α} {f : α → Pa β} (hp : KeepW p) (hf : ∀ a, KeepW (f a)) : KeepW (fun r b => (p r b).then f) := by
  intro r b a r' b' he h
  simp only [PR.then] at h
  split at h
  · rename_i x r1 b1 h1
    obtain ⟨i1, i2⟩ := hp _ _ _ _ _ he h1
    obtain ⟨j1, j2⟩ := hf x _ _ _ _ _ i1 h
    exact ⟨j1, by omega⟩
  · cases h
theorem keepw_ok (a : α) : KeepW (fun r b => PR.ok a r b) := by
  intro r b x r' b' he h
  cases h
  exact ⟨he, Nat.le_refl _, Nat.le_refl _⟩
theorem KeepW.map {p : Pa α} {f : α → β} (hp : KeepW p) : KeepW (fun r b => (p r b).map f) := hp.then fun a => keepw_ok (f a)
theorem keepw_need {m : Wd → Bool} (hm : Inner m) : KeepW (needW m) := by
  intro r b a r' b' he h
  obtain ⟨x, l, rfl⟩ := he.cons
  have h : (if m x then PR.ok x l b else .bad 41 x.pos) = .ok a r' b' := h
  split at h
  · rename_i hx
    cases h
    exact ⟨he.tail (hm _ hx), by simp, by simp [wsum]⟩
  · cases h
theorem KeepW.ite {p q : Pa α} {m : Wd → Bool} (hm : Inner m) (hp : KeepW p) (hq : KeepW q) : KeepW (fun r b => if seesW m r then p r.tail b else q r b) := by
  intro r b a r' b' he h
  simp only at h
  split at h
  · rename_i hs
    obtain ⟨i1, i2⟩ := he.goW1 hm hs
    obtain ⟨j1, j2⟩ := hp _ _ _ _ _ i1 h
    exact ⟨j1, by omega⟩
  · exact hq _ _ _ _ _ he h
theorem KeepW.ite0 {p q : Pa α} {m : Wd → Bool} (hp : KeepW p) (hq : KeepW q) : KeepW (fun r b => if seesW m r then p r b else q r b) := by
  intro r b a r' b' he h
  simp only at h
  split at h
  · exact hp _ _ _ _ _ he h
  · exact hq _ _ _ _ _ he h
theorem keepw_name : KeepW nameW := (keepw_need (inner_of (by decide))).map
theorem keepw_all : ∀ ts : List Tx, KeepW (allW ts)
  | [] => keepw_ok ()
  | t :: ts => (keepw_need (inner_says t)).then fun _ => keepw_all ts
theorem keepw_more {one : Pa α} (h : KeepW one) : ∀ (f : Nat) (l : List α), KeepW (moreW one f l)
  | 0, l => by intro r b a r' b' he h; cases h
  | f + 1, l => KeepW.ite (p := fun r b => (one r b).then fun a => moreW one f (l ++ [a])) (q := fun r b => .ok l r b) (inner_says _) (h.then fun a => keepw_more h f (l ++ [a])) (keepw_ok l)
theorem keepw_list {one : Pa α} {most : Nat} (h : KeepW one) : KeepW (listW most one) := by
  intro r b a r' b' he hh
  unfold listW at hh
  simp only [PR.then] at hh
  cases h1 : one r b with
  | bad c p => rw [h1] at hh; cases hh
  | ok x r1 b1 =>
    rw [h1] at hh
    simp only at hh
    obtain ⟨i1, i2⟩ := h _ _ _ _ _ he h1
    cases h2 : moreW one (r1.length + 1) [x] r1 b1 with
    | bad c p => rw [h2] at hh; cases hh
    | ok y r2 b2 =>
      rw [h2] at hh
      cases hh
      obtain ⟨j1, j2⟩ := keepw_more h _ _ _ _ _ _ _ i1 h2
      exact ⟨j1, by omega⟩
end
theorem keepw_item : KeepW itemW := by
  refine KeepW.ite0 (m := ofW 1) (p := fun r b => (nameW r b).map fun t => It.mk 1 t) keepw_name.map ?_
  refine KeepW.then (p := needW (amongW callsT)) (keepw_need (inner_among _)) fun x => ?_
  refine KeepW.then (p := allW [[40]]) (keepw_all _) fun _ => ?_
  intro r b a r' b' he h
  simp only at h
  split at h
  · exact (KeepW.map (keepw_all [[42], [41]])) r b a r' b' he h
  · exact (KeepW.then keepw_name fun t => (keepw_all [[41]]).map) r b a r' b' he h
theorem keepw_val : KeepW valW := by
  refine KeepW.ite0 (m := ofW 4) (p := fun r b => (needW (ofW 4) r b).map fun x => Vl.mk true x.text 0) (keepw_need (inner_of (by decide))).map ?_
  intro r b a r' b' he h
  simp only at h
  have key : ∀ (s : Tx), KeepW (fun r b => (needW (ofW 3) r b).then fun x r1 b1 => match numW (s ++ x.text) with | some n => PR.ok (Vl.mk false [] n) r1 b1 | none => .bad 45 x.pos) := fun s => by
    refine (keepw_need (inner_of (by decide))).then fun x => ?_
    intro r b a r' b' he h
    simp only at h
    split at h
    · cases h; exact ⟨he, Nat.le_refl _, Nat.le_refl _⟩
    · cases h
  cases hs : seesW (saysW [45]) r with
  | true =>
    rw [hs] at h
    obtain ⟨i1, i2⟩ := he.goW1 (inner_says _) hs
    obtain ⟨j1, j2⟩ := key [45] _ _ _ _ _ i1 h
    exact ⟨j1, by omega⟩
  | false =>
    rw [hs] at h
    exact key [] _ _ _ _ _ he h
theorem keepw_test : KeepW testW := by
  refine KeepW.then (p := nameW) keepw_name fun t => ?_
  refine KeepW.ite (m := saysW [73, 78]) (p := fun r b => (allW [[40]] r b).then fun _ r2 b2 => (listW 64 valW r2 b2).then fun vs r3 b3 => (allW [[41]] r3 b3).map fun _ => Cd.node 5 .none .none t 0 vs) (inner_says _) ?_ ?_
  · exact KeepW.then (keepw_all _) fun _ => KeepW.then (keepw_list keepw_val) fun vs => (keepw_all _).map
  · exact KeepW.then (keepw_need (inner_among _)) fun x => keepw_val.map
theorem keepw_link {k : Int} {kw : Tx} {one : Pa Cd} (h : KeepW one) : ∀ (f : Nat) (c : Cd), KeepW (linkW k kw one f c)
  | 0, c => by intro r b a r' b' he h; cases h
  | f + 1, c => KeepW.ite (p := fun r b => (one r b).then fun d => linkW k kw one f (.node k c d [] 0 [])) (q := fun r b => .ok c r b) (inner_says _) (h.then fun d => keepw_link h f _) (keepw_ok c)
theorem keepw_chain {k : Int} {kw : Tx} {one : Pa Cd} (h : KeepW one) : KeepW (chainW k kw one) := by
  intro r b a r' b' he hh
  unfold chainW at hh
  simp only [PR.then] at hh
  cases h1 : one r b with
  | bad c p => rw [h1] at hh; cases hh
  | ok x r1 b1 =>
    rw [h1] at hh
    obtain ⟨i1, i2⟩ := h _ _ _ _ _ he h1
    obtain ⟨j1, j2⟩ := keepw_link h _ _ _ _ _ _ _ i1 hh
    exact ⟨j1, by omega⟩
theorem keepw_not : ∀ f : Nat, KeepW (notW f)
  | 0 => by intro r b a r' b' he h; cases h
  | f + 1 => by
    have ih := keepw_not f
    refine KeepW.ite (m := saysW [78, 79, 84]) (p := fun r b => (notW f r b).map fun c => Cd.node 3 c .none [] 0 []) (inner_says _) ih.map ?_
    refine KeepW.ite (m := saysW [40]) (p := fun r b => (orW (notW f) r b).then fun c r1 b1 => (allW [[41]] r1 b1).map fun _ => c) (inner_says _) ?_ keepw_test
    exact KeepW.then (keepw_chain (keepw_chain ih)) fun c => (keepw_all _).map
theorem keepw_or (f : Nat) : KeepW (orW (notW f)) := keepw_chain (keepw_chain (keepw_not f))
theorem keepw_names : KeepW namesW := KeepW.then (keepw_list keepw_name) fun l => (keepw_all _).map
theorem keepw_lst : KeepW lstW := KeepW.then (keepw_all _) fun _ => keepw_names
theorem keepw_set : KeepW setW := by
  refine KeepW.ite0 (m := ofW 1) (p := fun r b => (nameW r b).map fun t => [t]) keepw_name.map ?_
  exact KeepW.then (keepw_all _) fun _ => KeepW.ite (m := saysW [41]) (p := fun r b => .ok [] r b) (inner_says _) (keepw_ok _) keepw_names
theorem keepw_elt : KeepW eltW := by
  refine KeepW.ite0 (m := ofW 1) (p := fun r b => (nameW r b).map fun t => Gp.mk 1 [t] []) keepw_name.map ?_
  refine KeepW.ite (m := saysW [82, 79, 76, 76, 85, 80]) (p := fun r b => (lstW r b).map fun l => Gp.mk 2 l []) (inner_says _) keepw_lst.map ?_
  refine KeepW.ite (m := saysW [67, 85, 66, 69]) (p := fun r b => (lstW r b).map fun l => Gp.mk 3 l []) (inner_says _) keepw_lst.map ?_
  exact KeepW.then (keepw_all _) fun _ => KeepW.then (keepw_list keepw_set) fun ss => (keepw_all _).map
end Go.Proofs.YtkcnbmgaeompjaaGreatDoor
