/- Reading a condition: twice as much is read as there is of it, plain. -/
import Derived.Test.YtkcnbmgaeompjaaGreatDoorP11
namespace Go.Proofs.YtkcnbmgaeompjaaGreatDoor
set_option linter.unusedVariables false

def SizeW2 (p : Pa Cd) : Prop := ∀ r b c r' b', Ended r → p r b = .ok c r' b' → Ended r' ∧ 2 * sizeW c + wsum r' ≤ wsum r
theorem name_takesW {r : List Wd} {b : Bool} {t : Tx} {r' : List Wd} {b' : Bool} (he : Ended r) (h : nameW r b = .ok t r' b') : Ended r' ∧ wsum r' + 1 ≤ wsum r := by
  obtain ⟨x, l, rfl⟩ := he.cons
  have h : (if ofW 1 x then PR.ok x l b else .bad 41 x.pos).map Wd.text = .ok t r' b' := h
  split at h
  · rename_i hx
    cases h
    refine ⟨he.tail (inner_of (by decide) _ hx), ?_⟩
    have := wgt_one (inner_of (k := 1) (by decide) _ hx)
    rw [wsum_cons]; omega
  · cases h
theorem among_takesW {tab : List Tx} {r : List Wd} {b : Bool} {x : Wd} {r' : List Wd} {b' : Bool} (he : Ended r) (h : needW (amongW tab) r b = .ok x r' b') : Ended r' ∧ wsum r' + 1 ≤ wsum r := by
  obtain ⟨y, l, rfl⟩ := he.cons
  have h : (if amongW tab y then PR.ok y l b else .bad 41 y.pos) = .ok x r' b' := h
  split at h
  · rename_i hx
    cases h
    refine ⟨he.tail (inner_among _ _ hx), ?_⟩
    have := wgt_one (inner_among tab _ hx)
    rw [wsum_cons]; omega
  · cases h
theorem size2_test : SizeW2 testW := by
  intro r b c r' b' he h
  obtain ⟨i1, i2⟩ := keepw_test _ _ _ _ _ he h
  unfold testW at h
  obtain ⟨t, r1, b1, h1, h2⟩ := PR.then_ok h
  obtain ⟨j1, j2⟩ := name_takesW he h1
  have key : sizeW c = 1 ∧ wsum r' + 1 ≤ wsum r1 := by
    split at h2
    · rename_i hs
      obtain ⟨k1, k2⟩ := j1.goW1 (inner_says _) hs
      obtain ⟨_, r2, b2, h3, h4⟩ := PR.then_ok h2
      obtain ⟨vs, r3, b3, h5, h6⟩ := PR.then_ok h4
      obtain ⟨_, h7, rfl⟩ := PR.map_ok h6
      obtain ⟨l1, l2⟩ := keepw_all _ _ _ _ _ _ k1 h3
      obtain ⟨m1, m2⟩ := keepw_list keepw_val _ _ _ _ _ l1 h5
      obtain ⟨n1, n2⟩ := keepw_all _ _ _ _ _ _ m1 h7
      exact ⟨rfl, by omega⟩
    · obtain ⟨x, r2, b2, h3, h4⟩ := PR.then_ok h2
      obtain ⟨v, h7, rfl⟩ := PR.map_ok h4
      obtain ⟨l1, l2⟩ := among_takesW j1 h3
      obtain ⟨m1, m2⟩ := keepw_val _ _ _ _ _ l1 h7
      exact ⟨rfl, by omega⟩
  exact ⟨i1, by omega⟩
theorem size2_link {k : Int} {kw : Tx} (hkw : kw = [65, 78, 68] ∨ kw = [79, 82] ∨ kw = [78, 79, 84]) {one : Pa Cd} (h : SizeW2 one) : ∀ (f : Nat) (c : Cd) (r : List Wd) (b : Bool) (d : Cd) (r' : List Wd) (b' : Bool), Ended r → linkW k kw one f c r b = .ok d r' b' → Ended r' ∧ 2 * sizeW d + wsum r' ≤ 2 * sizeW c + wsum r
  | 0, c, r, b, d, r', b', he, hh => by cases hh
  | f + 1, c, r, b, d, r', b', he, hh => by
    have hh : (if seesW (saysW kw) r then (one r.tail b).then fun d => linkW k kw one f (.node k c d [] 0 []) else .ok c r b) = .ok d r' b' := hh
    split at hh
    · rename_i hs
      obtain ⟨k1, k2⟩ := he.sees2 hkw hs
      obtain ⟨e, r2, b2, h3, h4⟩ := PR.then_ok hh
      obtain ⟨l1, l2⟩ := h _ _ _ _ _ k1 h3
      obtain ⟨m1, m2⟩ := size2_link hkw h f _ _ _ _ _ _ l1 h4
      refine ⟨m1, ?_⟩
      have : sizeW (.node k c e [] 0 []) = 1 + sizeW c + sizeW e := rfl
      omega
    · cases hh
      exact ⟨he, Nat.le_refl _⟩
theorem size2_chain {k : Int} {kw : Tx} (hkw : kw = [65, 78, 68] ∨ kw = [79, 82] ∨ kw = [78, 79, 84]) {one : Pa Cd} (h : SizeW2 one) : SizeW2 (chainW k kw one) := by
  intro r b c r' b' he hh
  unfold chainW at hh
  obtain ⟨e, r2, b2, h3, h4⟩ := PR.then_ok hh
  obtain ⟨l1, l2⟩ := h _ _ _ _ _ he h3
  obtain ⟨m1, m2⟩ := size2_link hkw h _ _ _ _ _ _ _ l1 h4
  exact ⟨m1, by omega⟩
theorem size2_not : ∀ f : Nat, SizeW2 (notW f)
  | 0 => by intro r b c r' b' he h; cases h
  | f + 1 => by
    intro r b c r' b' he h
    have h : (if seesW (saysW [78, 79, 84]) r then (notW f r.tail b).map fun c => .node 3 c .none [] 0 []
      else if seesW (saysW [40]) r then (orW (notW f) r.tail b).then fun c r1 b1 => (allW [[41]] r1 b1).map fun _ => c
      else testW r b) = .ok c r' b' := h
    split at h
    · rename_i hs
      obtain ⟨k1, k2⟩ := he.sees2 (.inr (.inr rfl)) hs
      obtain ⟨e, h1, rfl⟩ := PR.map_ok h
      obtain ⟨l1, l2⟩ := size2_not f _ _ _ _ _ k1 h1
      refine ⟨l1, ?_⟩
      have : sizeW (.node 3 e .none [] 0 []) = 1 + sizeW e + 0 := rfl
      omega
    · split at h
      · rename_i hs
        obtain ⟨k1, k2⟩ := he.goW1 (inner_says _) hs
        obtain ⟨e, r2, b2, h3, h4⟩ := PR.then_ok h
        obtain ⟨_, h5, rfl⟩ := PR.map_ok h4
        obtain ⟨l1, l2⟩ := size2_chain (.inr (.inl rfl)) (size2_chain (.inl rfl) (size2_not f)) _ _ _ _ _ k1 h3
        obtain ⟨m1, m2⟩ := keepw_all _ _ _ _ _ _ l1 h5
        exact ⟨m1, by omega⟩
      · exact size2_test _ _ _ _ _ he h
theorem query_size2 {f : Nat} {r : List Wd} {b : Bool} {q : Qy} {r' : List Wd} {b' : Bool} (he : Ended r) (h : queryW f r b = .ok q r' b') : 2 * sizeW q.cond ≤ wsum r := by
  unfold queryW at h
  obtain ⟨_, r1, b1, h1, h⟩ := PR.then_ok h
  obtain ⟨is, r2, b2, h2, h⟩ := PR.then_ok h
  obtain ⟨_, r3, b3, h3, h⟩ := PR.then_ok h
  obtain ⟨t, r4, b4, h4, h⟩ := PR.then_ok h
  obtain ⟨c, r5, b5, h5, h⟩ := PR.then_ok h
  obtain ⟨g, r7, b7, h6, h⟩ := PR.then_ok h
  obtain ⟨_, h7, rfl⟩ := PR.map_ok h
  obtain ⟨e1, l1⟩ := keepw_all _ _ _ _ _ _ he h1
  obtain ⟨e2, l2⟩ := keepw_list keepw_item _ _ _ _ _ e1 h2
  obtain ⟨e3, l3⟩ := keepw_all _ _ _ _ _ _ e2 h3
  obtain ⟨e4, l4⟩ := keepw_name _ _ _ _ _ e3 h4
  show 2 * sizeW c ≤ _
  split at h5
  · rename_i hs
    obtain ⟨k1, k2⟩ := e4.goW1 (inner_says _) hs
    obtain ⟨_, m2⟩ := size2_chain (.inr (.inl rfl)) (size2_chain (.inl rfl) (size2_not f)) _ _ _ _ _ k1 h5
    omega
  · cases h5
    exact Nat.zero_le _
end Go.Proofs.YtkcnbmgaeompjaaGreatDoor
