/- Reading a condition: not more of it than words, plain. -/
import Derived.Test.YtpdfenpmnpoehaaGreatDoorP8
namespace Go.Proofs.YtpdfenpmnpoehaaGreatDoor
set_option linter.unusedVariables false

def sizeW : Cd → Nat
  | .none => 0
  | .node _ l r _ _ _ => 1 + sizeW l + sizeW r
theorem depth_size : ∀ c : Cd, depthW c ≤ sizeW c
  | .none => Nat.le_refl _
  | .node _ l r _ _ _ => by
    have := depth_size l; have := depth_size r
    unfold depthW sizeW
    omega
def Sized (p : Pa Cd) : Prop := ∀ r b c r' b', Ended r → p r b = .ok c r' b' → Ended r' ∧ sizeW c + r'.length ≤ r.length
theorem name_takes {r : List Wd} {b : Bool} {t : Tx} {r' : List Wd} {b' : Bool} (he : Ended r) (h : nameW r b = .ok t r' b') : Ended r' ∧ r'.length + 1 = r.length := by
  obtain ⟨x, l, rfl⟩ := he.cons
  have h : (if ofW 1 x then PR.ok x l b else .bad 41 x.pos).map Wd.text = .ok t r' b' := h
  split at h
  · rename_i hx
    cases h
    exact ⟨he.tail (inner_of (by decide) _ hx), by simp⟩
  · cases h
theorem PR.then_ok {α β : Type} {x : PR α} {f : α → Pa β} {b : β} {r : List Wd} {m : Bool} (h : x.then f = .ok b r m) : ∃ a r1 m1, x = .ok a r1 m1 ∧ f a r1 m1 = .ok b r m := by
  cases x with
  | ok a r1 m1 => exact ⟨a, r1, m1, rfl, h⟩
  | bad c p => cases h
theorem PR.map_ok {α β : Type} {x : PR α} {f : α → β} {b : β} {r : List Wd} {m : Bool} (h : x.map f = .ok b r m) : ∃ a, x = .ok a r m ∧ b = f a := by
  obtain ⟨a, r1, m1, h1, h2⟩ := PR.then_ok h
  cases h2
  exact ⟨a, h1, rfl⟩
theorem sized_test : Sized testW := by
  intro r b c r' b' he h
  obtain ⟨i1, i2⟩ := keeps_test _ _ _ _ _ he h
  unfold testW at h
  obtain ⟨t, r1, b1, h1, h2⟩ := PR.then_ok h
  obtain ⟨j1, j2⟩ := name_takes he h1
  have key : sizeW c = 1 ∧ r'.length ≤ r1.length := by
    split at h2
    · rename_i hs
      obtain ⟨k1, k2⟩ := j1.sees (inner_says _) hs
      obtain ⟨_, r2, b2, h3, h4⟩ := PR.then_ok h2
      obtain ⟨vs, r3, b3, h5, h6⟩ := PR.then_ok h4
      obtain ⟨_, h7, rfl⟩ := PR.map_ok h6
      obtain ⟨l1, l2⟩ := keeps_all _ _ _ _ _ _ k1 h3
      obtain ⟨m1, m2⟩ := keeps_list keeps_val _ _ _ _ _ l1 h5
      obtain ⟨n1, n2⟩ := keeps_all _ _ _ _ _ _ m1 h7
      exact ⟨rfl, by omega⟩
    · obtain ⟨x, r2, b2, h3, h4⟩ := PR.then_ok h2
      obtain ⟨v, h7, rfl⟩ := PR.map_ok h4
      obtain ⟨l1, l2⟩ := keeps_need (inner_among _) _ _ _ _ _ j1 h3
      obtain ⟨m1, m2⟩ := keeps_val _ _ _ _ _ l1 h7
      exact ⟨rfl, by omega⟩
  exact ⟨i1, by omega⟩
theorem sized_link {k : Int} {kw : Tx} {one : Pa Cd} (h : Sized one) : ∀ (f : Nat) (c : Cd) (r : List Wd) (b : Bool) (d : Cd) (r' : List Wd) (b' : Bool), Ended r → linkW k kw one f c r b = .ok d r' b' → Ended r' ∧ sizeW d + r'.length ≤ sizeW c + r.length
  | 0, c, r, b, d, r', b', he, hh => by cases hh
  | f + 1, c, r, b, d, r', b', he, hh => by
    have hh : (if seesW (saysW kw) r then (one r.tail b).then fun d => linkW k kw one f (.node k c d [] 0 []) else .ok c r b) = .ok d r' b' := hh
    split at hh
    · rename_i hs
      obtain ⟨k1, k2⟩ := he.sees (inner_says _) hs
      obtain ⟨e, r2, b2, h3, h4⟩ := PR.then_ok hh
      obtain ⟨l1, l2⟩ := h _ _ _ _ _ k1 h3
      obtain ⟨m1, m2⟩ := sized_link h f _ _ _ _ _ _ l1 h4
      refine ⟨m1, ?_⟩
      have : sizeW (.node k c e [] 0 []) = 1 + sizeW c + sizeW e := rfl
      omega
    · cases hh
      exact ⟨he, Nat.le_refl _⟩
theorem sized_chain {k : Int} {kw : Tx} {one : Pa Cd} (h : Sized one) : Sized (chainW k kw one) := by
  intro r b c r' b' he hh
  unfold chainW at hh
  obtain ⟨e, r2, b2, h3, h4⟩ := PR.then_ok hh
  obtain ⟨l1, l2⟩ := h _ _ _ _ _ he h3
  obtain ⟨m1, m2⟩ := sized_link h _ _ _ _ _ _ _ l1 h4
  exact ⟨m1, by omega⟩
theorem sized_not : ∀ f : Nat, Sized (notW f)
  | 0 => by intro r b c r' b' he h; cases h
  | f + 1 => by
    intro r b c r' b' he h
    have h : (if seesW (saysW [78, 79, 84]) r then (notW f r.tail b).map fun c => .node 3 c .none [] 0 []
      else if seesW (saysW [40]) r then (orW (notW f) r.tail b).then fun c r1 b1 => (allW [[41]] r1 b1).map fun _ => c
      else testW r b) = .ok c r' b' := h
    split at h
    · rename_i hs
      obtain ⟨k1, k2⟩ := he.sees (inner_says _) hs
      obtain ⟨e, h1, rfl⟩ := PR.map_ok h
      obtain ⟨l1, l2⟩ := sized_not f _ _ _ _ _ k1 h1
      refine ⟨l1, ?_⟩
      have : sizeW (.node 3 e .none [] 0 []) = 1 + sizeW e + 0 := rfl
      omega
    · split at h
      · rename_i hs
        obtain ⟨k1, k2⟩ := he.sees (inner_says _) hs
        obtain ⟨e, r2, b2, h3, h4⟩ := PR.then_ok h
        obtain ⟨_, h5, rfl⟩ := PR.map_ok h4
        obtain ⟨l1, l2⟩ := sized_chain (sized_chain (sized_not f)) _ _ _ _ _ k1 h3
        obtain ⟨m1, m2⟩ := keeps_all _ _ _ _ _ _ l1 h5
        exact ⟨m1, by omega⟩
      · exact sized_test _ _ _ _ _ he h
theorem query_sized {f : Nat} {r : List Wd} {b : Bool} {q : Qy} {r' : List Wd} {b' : Bool} (he : Ended r) (h : queryW f r b = .ok q r' b') : sizeW q.cond ≤ r.length := by
  unfold queryW at h
  obtain ⟨_, r1, b1, h1, h⟩ := PR.then_ok h
  obtain ⟨is, r2, b2, h2, h⟩ := PR.then_ok h
  obtain ⟨_, r3, b3, h3, h⟩ := PR.then_ok h
  obtain ⟨t, r4, b4, h4, h⟩ := PR.then_ok h
  obtain ⟨c, r5, b5, h5, h⟩ := PR.then_ok h
  obtain ⟨g, r7, b7, h6, h⟩ := PR.then_ok h
  obtain ⟨_, h7, rfl⟩ := PR.map_ok h
  obtain ⟨e1, l1⟩ := keeps_all _ _ _ _ _ _ he h1
  obtain ⟨e2, l2⟩ := keeps_list keeps_item _ _ _ _ _ e1 h2
  obtain ⟨e3, l3⟩ := keeps_all _ _ _ _ _ _ e2 h3
  obtain ⟨e4, l4⟩ := keeps_name _ _ _ _ _ e3 h4
  show sizeW c ≤ _
  split at h5
  · rename_i hs
    obtain ⟨k1, k2⟩ := e4.sees (inner_says _) hs
    obtain ⟨_, m2⟩ := sized_chain (sized_chain (sized_not f)) _ _ _ _ _ k1 h5
    omega
  · cases h5
    exact Nat.zero_le _
end Go.Proofs.YtpdfenpmnpoehaaGreatDoor
