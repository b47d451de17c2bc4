/- A query, plain; how it is read of words. -/
import Derived.Test.YtkcnbmgaeompjaaGreatDoorP2
import Derived.Lib.ParseIntB
import Derived.Lib.ItoaNum
namespace Go.Proofs.YtkcnbmgaeompjaaGreatDoor
set_option linter.unusedVariables false

/-! ### queries -/
structure Vl where
  isText : Bool
  text : Tx
  int : Int
deriving DecidableEq
/-- A condition; none (nil) is one without nodes. -/
inductive Cd where
  | none
  | node (kind : Int) (left right : Cd) (col : Tx) (op : Int) (vals : List Vl)
deriving DecidableEq
structure It where
  kind : Int
  col : Tx
deriving DecidableEq
structure Gp where
  kind : Int
  cols : List Tx
  sets : List (List Tx)
deriving DecidableEq
structure Qy where
  items : List It
  table : Tx
  cond : Cd
  grouped : Bool
  groups : List Gp
deriving DecidableEq
def Qy0 : Qy := ⟨[], [], .none, false, []⟩

/-! ### readers -/
/-- What a reading comes to: something, the words that are left, and whether there was too much of something; or a fault and its place. -/
inductive PR (α : Type) where
  | ok (a : α) (r : List Wd) (m : Bool)
  | bad (c p : Nat)
abbrev Pa (α : Type) := List Wd → Bool → PR α
def PR.then {α β : Type} (x : PR α) (f : α → Pa β) : PR β :=
  match x with
  | .ok a r m => f a r m
  | .bad c p => .bad c p
def PR.map {α β : Type} (x : PR α) (f : α → β) : PR β := x.then fun a r m => .ok (f a) r m
def seesW (m : Wd → Bool) : List Wd → Bool
  | [] => false
  | x :: _ => m x
def ofW (k : Nat) (x : Wd) : Bool := x.kind == k
def fixW (x : Wd) : Bool := x.kind == 2 || x.kind == 5
def saysW (t : Tx) (x : Wd) : Bool := fixW x && x.text == t
def idx (t : Tx) : List Tx → Nat → Nat
  | [], _ => 0
  | x :: l, k => if x = t then k else idx t l (k + 1)
/-- A word's number in a table. -/
def placeW (tab : List Tx) (t : Tx) : Nat := idx t tab 0
def amongW (tab : List Tx) (x : Wd) : Bool := fixW x && decide (0 < placeW tab x.text)
def needW (m : Wd → Bool) : Pa Wd
  | [], _ => .bad 0 0
  | x :: r, b => if m x then .ok x r b else .bad 41 x.pos
def nameW : Pa Tx := fun r b => (needW (ofW 1) r b).map Wd.text
/-- Words that must stand there one behind the other. -/
def allW : List Tx → Pa Unit
  | [], r, b => .ok () r b
  | t :: l, r, b => (needW (saysW t) r b).then fun _ => allW l
/-- More of them, each behind a comma. -/
def moreW {α : Type} (one : Pa α) : Nat → List α → Pa (List α)
  | 0, _, _, _ => .bad 0 0
  | f + 1, l, r, b => if seesW (saysW [44]) r then (one r.tail b).then fun a => moreW one f (l ++ [a]) else .ok l r b
def listW {α : Type} (most : Nat) (one : Pa α) : Pa (List α) := fun r b =>
  ((one r b).then fun a r1 => moreW one (r1.length + 1) [a] r1).then fun l r2 b2 => .ok l r2 (b2 || decide (most < l.length))

def callsT : List Tx := [[], [], [67, 79, 85, 78, 84], [83, 85, 77], [77, 73, 78], [77, 65, 88], [71, 82, 79, 85, 80, 73, 78, 71]]
def signsT : List Tx := [[], [61], [60, 62], [60], [60, 61], [62], [62, 61]]
def itemW : Pa It := fun r b =>
  if seesW (ofW 1) r then (nameW r b).map fun t => ⟨1, t⟩
  else (needW (amongW callsT) r b).then fun x r1 b1 => (allW [[40]] r1 b1).then fun _ r2 b2 =>
    if placeW callsT x.text = 2 then (allW [[42], [41]] r2 b2).map fun _ => ⟨2, []⟩
    else (nameW r2 b2).then fun t r3 b3 => (allW [[41]] r3 b3).map fun _ => ⟨placeW callsT x.text, t⟩
/-- A number's digits, and a sign ahead of them. -/
def numW (l : Tx) : Option Int :=
  match Lib.parseIntB 64 l with
  | .ok n => some n
  | _ => none
def valW : Pa Vl := fun r b =>
  if seesW (ofW 4) r then (needW (ofW 4) r b).map fun x => ⟨true, x.text, 0⟩
  else
    let neg := seesW (saysW [45]) r
    (needW (ofW 3) (if neg then r.tail else r) b).then fun x r1 b1 =>
      match numW ((if neg then [45] else []) ++ x.text) with
      | some n => .ok ⟨false, [], n⟩ r1 b1
      | none => .bad 45 x.pos
def testW : Pa Cd := fun r b => (nameW r b).then fun t r1 b1 =>
  if seesW (saysW [73, 78]) r1 then
    (allW [[40]] r1.tail b1).then fun _ r2 b2 => (listW 64 valW r2 b2).then fun vs r3 b3 => (allW [[41]] r3 b3).map fun _ => .node 5 .none .none t 0 vs
  else (needW (amongW signsT) r1 b1).then fun x r2 b2 => (valW r2 b2).map fun v => .node 4 .none .none t (placeW signsT x.text) [v]
/-- Conditions with a keyword between each two. -/
def linkW (k : Int) (kw : Tx) (one : Pa Cd) : Nat → Cd → Pa Cd
  | 0, _, _, _ => .bad 0 0
  | f + 1, c, r, b => if seesW (saysW kw) r then (one r.tail b).then fun d => linkW k kw one f (.node k c d [] 0 []) else .ok c r b
def chainW (k : Int) (kw : Tx) (one : Pa Cd) : Pa Cd := fun r b => (one r b).then fun c r1 => linkW k kw one (r1.length + 1) c r1
def andW (one : Pa Cd) : Pa Cd := chainW 1 [65, 78, 68] one
def orW (one : Pa Cd) : Pa Cd := chainW 2 [79, 82] (andW one)
def notW : Nat → Pa Cd
  | 0, _, _ => .bad 0 0
  | f + 1, r, b =>
    if seesW (saysW [78, 79, 84]) r then (notW f r.tail b).map fun c => .node 3 c .none [] 0 []
    else if seesW (saysW [40]) r then (orW (notW f) r.tail b).then fun c r1 b1 => (allW [[41]] r1 b1).map fun _ => c
    else testW r b
def namesW : Pa (List Tx) := fun r b => (listW 16 nameW r b).then fun l r1 b1 => (allW [[41]] r1 b1).map fun _ => l
def lstW : Pa (List Tx) := fun r b => (allW [[40]] r b).then fun _ => namesW
def setW : Pa (List Tx) := fun r b =>
  if seesW (ofW 1) r then (nameW r b).map fun t => [t]
  else (allW [[40]] r b).then fun _ r1 b1 => if seesW (saysW [41]) r1 then .ok [] r1.tail b1 else namesW r1 b1
def eltW : Pa Gp := fun r b =>
  if seesW (ofW 1) r then (nameW r b).map fun t => ⟨1, [t], []⟩
  else if seesW (saysW [82, 79, 76, 76, 85, 80]) r then (lstW r.tail b).map fun l => ⟨2, l, []⟩
  else if seesW (saysW [67, 85, 66, 69]) r then (lstW r.tail b).map fun l => ⟨3, l, []⟩
  else (allW [[71, 82, 79, 85, 80, 73, 78, 71], [83, 69, 84, 83], [40]] r b).then fun _ r1 b1 => (listW 64 setW r1 b1).then fun ss r2 b2 => (allW [[41]] r2 b2).map fun _ => ⟨4, [], ss⟩
def queryW (f : Nat) : Pa Qy := fun r b =>
  (allW [[83, 69, 76, 69, 67, 84]] r b).then fun _ r1 b1 => (listW 16 itemW r1 b1).then fun is r2 b2 =>
  (allW [[70, 82, 79, 77]] r2 b2).then fun _ r3 b3 => (nameW r3 b3).then fun t r4 b4 =>
  (if seesW (saysW [87, 72, 69, 82, 69]) r4 then orW (notW f) r4.tail b4 else .ok .none r4 b4).then fun c r5 b5 =>
  (if seesW (saysW [71, 82, 79, 85, 80]) r5 then (allW [[66, 89]] r5.tail b5).then fun _ r6 b6 => (listW 16 eltW r6 b6).map fun g => (true, g) else .ok (false, []) r5 b5).then fun g r7 b7 =>
  (needW (ofW 6) r7 b7).map fun _ => ⟨is, t, c, g.1, g.2⟩
def depthW : Cd → Nat
  | .none => 0
  | .node _ l r _ _ _ => 1 + max (depthW l) (depthW r)
/-- What reading the words comes to: the query, or a fault. -/
def endW : PR Qy → Qy × Nat × Nat
  | .bad c p => (Qy0, c, p)
  | .ok q _ m => if m then (Qy0, 46, 0) else if 32 < depthW q.cond then (Qy0, 47, 0) else (q, 0, 0)
def parseW (t : Tx) : Qy × Nat × Nat :=
  if (wordsB t).2.1 ≠ 0 then (Qy0, (wordsB t).2) else endW (queryW (wordsB t).1.length (wordsB t).1 false)

end Go.Proofs.YtkcnbmgaeompjaaGreatDoor
/- Reading keeps the words' end, plain. -/
namespace Go.Proofs.YtkcnbmgaeompjaaGreatDoor
set_option linter.unusedVariables false

/-- What ends the words is left. -/
def Ended (r : List Wd) : Prop := ∃ a e, r = a ++ [e] ∧ e.kind = 6 ∧ ∀ x ∈ a, x.kind ≠ 6
theorem Ended.cons {r : List Wd} (h : Ended r) : ∃ x l, r = x :: l := by
  obtain ⟨a, e, rfl, _⟩ := h
  cases a with
  | nil => exact ⟨e, [], rfl⟩
  | cons x a => exact ⟨x, a ++ [e], rfl⟩
theorem Ended.tail {x : Wd} {l : List Wd} (h : Ended (x :: l)) (hx : x.kind ≠ 6) : Ended l := by
  obtain ⟨a, e, h1, h2, h3⟩ := h
  cases a with
  | nil => cases h1; exact absurd h2 hx
  | cons y a =>
    cases h1
    exact ⟨a, e, rfl, h2, fun z hz => h3 z (by simp [hz])⟩
/-- A word that is meant is not the end. -/
def Inner (m : Wd → Bool) : Prop := ∀ x, m x = true → x.kind ≠ 6
theorem inner_of {k : Nat} (h : k ≠ 6) : Inner (ofW k) := fun x hx => by unfold ofW at hx; simp at hx; omega
theorem fix_inner {x : Wd} (h : fixW x = true) : x.kind ≠ 6 := by unfold fixW at h; simp at h; omega
theorem inner_says (t : Tx) : Inner (saysW t) := fun x hx => by unfold saysW at hx; simp at hx; exact fix_inner hx.1
theorem inner_among (t : List Tx) : Inner (amongW t) := fun x hx => by unfold amongW at hx; simp at hx; exact fix_inner hx.1
theorem Ended.sees {r : List Wd} (h : Ended r) {m : Wd → Bool} (hm : Inner m) (hs : seesW m r = true) : Ended r.tail ∧ r.tail.length < r.length := by
  obtain ⟨x, l, rfl⟩ := h.cons
  exact ⟨h.tail (hm x hs), by simp⟩
def Keeps {α : Type} (p : Pa α) : Prop := ∀ r b a r' b', Ended r → p r b = .ok a r' b' → Ended r' ∧ r'.length ≤ r.length
section
variable {α β : Type}
theorem Keeps.then {p : Pa α} {f : α → Pa β} (hp : Keeps p) (hf : ∀ a, Keeps (f a)) : Keeps (fun r b => (p r b).then f) := by
  intro r b a r' b' he h
  simp only [PR.then] at h
  split at h
  · rename_i x r1 b1 h1
    obtain ⟨i1, i2⟩ := hp _ _ _ _ _ he h1
    obtain ⟨j1, j2⟩ := hf x _ _ _ _ _ i1 h
    exact ⟨j1, by omega⟩
  · cases h
theorem keeps_ok (a : α) : Keeps (fun r b => PR.ok a r b) := by
  intro r b x r' b' he h
  cases h
  exact ⟨he, Nat.le_refl _⟩
theorem Keeps.map {p : Pa α} {f : α → β} (hp : Keeps p) : Keeps (fun r b => (p r b).map f) := hp.then fun a => keeps_ok (f a)
theorem keeps_need {m : Wd → Bool} (hm : Inner m) : Keeps (needW m) := by
  intro r b a r' b' he h
  obtain ⟨x, l, rfl⟩ := he.cons
  have h : (if m x then PR.ok x l b else .bad 41 x.pos) = .ok a r' b' := h
  split at h
  · rename_i hx
    cases h
    exact ⟨he.tail (hm _ hx), by simp⟩
  · cases h
theorem Keeps.ite {p q : Pa α} {m : Wd → Bool} (hm : Inner m) (hp : Keeps p) (hq : Keeps q) : Keeps (fun r b => if seesW m r then p r.tail b else q r b) := by
  intro r b a r' b' he h
  simp only at h
  split at h
  · rename_i hs
    obtain ⟨i1, i2⟩ := he.sees hm hs
    obtain ⟨j1, j2⟩ := hp _ _ _ _ _ i1 h
    exact ⟨j1, by omega⟩
  · exact hq _ _ _ _ _ he h
theorem Keeps.ite0 {p q : Pa α} {m : Wd → Bool} (hp : Keeps p) (hq : Keeps q) : Keeps (fun r b => if seesW m r then p r b else q r b) := by
  intro r b a r' b' he h
  simp only at h
  split at h
  · exact hp _ _ _ _ _ he h
  · exact hq _ _ _ _ _ he h
theorem keeps_name : Keeps nameW := (keeps_need (inner_of (by decide))).map
theorem keeps_all : ∀ ts : List Tx, Keeps (allW ts)
  | [] => keeps_ok ()
  | t :: ts => (keeps_need (inner_says t)).then fun _ => keeps_all ts
theorem keeps_more {one : Pa α} (h : Keeps one) : ∀ (f : Nat) (l : List α), Keeps (moreW one f l)
  | 0, l => by intro r b a r' b' he h; cases h
  | f + 1, l => Keeps.ite (p := fun r b => (one r b).then fun a => moreW one f (l ++ [a])) (q := fun r b => .ok l r b) (inner_says _) (h.then fun a => keeps_more h f (l ++ [a])) (keeps_ok l)
theorem keeps_list {one : Pa α} {most : Nat} (h : Keeps one) : Keeps (listW most one) := by
  intro r b a r' b' he hh
  unfold listW at hh
  simp only [PR.then] at hh
  cases h1 : one r b with
  | bad c p => rw [h1] at hh; cases hh
  | ok x r1 b1 =>
    rw [h1] at hh
    simp only at hh
    obtain ⟨i1, i2⟩ := h _ _ _ _ _ he h1
    cases h2 : moreW one (r1.length + 1) [x] r1 b1 with
    | bad c p => rw [h2] at hh; cases hh
    | ok y r2 b2 =>
      rw [h2] at hh
      cases hh
      obtain ⟨j1, j2⟩ := keeps_more h _ _ _ _ _ _ _ i1 h2
      exact ⟨j1, by omega⟩
end
theorem keeps_item : Keeps itemW := by
  refine Keeps.ite0 (m := ofW 1) (p := fun r b => (nameW r b).map fun t => It.mk 1 t) keeps_name.map ?_
  refine Keeps.then (p := needW (amongW callsT)) (keeps_need (inner_among _)) fun x => ?_
  refine Keeps.then (p := allW [[40]]) (keeps_all _) fun _ => ?_
  intro r b a r' b' he h
  simp only at h
  split at h
  · exact (Keeps.map (keeps_all [[42], [41]])) r b a r' b' he h
  · exact (Keeps.then keeps_name fun t => (keeps_all [[41]]).map) r b a r' b' he h
theorem keeps_val : Keeps valW := by
  refine Keeps.ite0 (m := ofW 4) (p := fun r b => (needW (ofW 4) r b).map fun x => Vl.mk true x.text 0) (keeps_need (inner_of (by decide))).map ?_
  intro r b a r' b' he h
  simp only at h
  have key : ∀ (s : Tx), Keeps (fun r b => (needW (ofW 3) r b).then fun x r1 b1 => match numW (s ++ x.text) with | some n => PR.ok (Vl.mk false [] n) r1 b1 | none => .bad 45 x.pos) := fun s => by
    refine (keeps_need (inner_of (by decide))).then fun x => ?_
    intro r b a r' b' he h
    simp only at h
    split at h
    · cases h; exact ⟨he, Nat.le_refl _⟩
    · cases h
  cases hs : seesW (saysW [45]) r with
  | true =>
    rw [hs] at h
    obtain ⟨i1, i2⟩ := he.sees (inner_says _) hs
    obtain ⟨j1, j2⟩ := key [45] _ _ _ _ _ i1 h
    exact ⟨j1, by omega⟩
  | false =>
    rw [hs] at h
    exact key [] _ _ _ _ _ he h
theorem keeps_test : Keeps testW := by
  refine Keeps.then (p := nameW) keeps_name fun t => ?_
  refine Keeps.ite (m := saysW [73, 78]) (p := fun r b => (allW [[40]] r b).then fun _ r2 b2 => (listW 64 valW r2 b2).then fun vs r3 b3 => (allW [[41]] r3 b3).map fun _ => Cd.node 5 .none .none t 0 vs) (inner_says _) ?_ ?_
  · exact Keeps.then (keeps_all _) fun _ => Keeps.then (keeps_list keeps_val) fun vs => (keeps_all _).map
  · exact Keeps.then (keeps_need (inner_among _)) fun x => keeps_val.map
theorem keeps_link {k : Int} {kw : Tx} {one : Pa Cd} (h : Keeps one) : ∀ (f : Nat) (c : Cd), Keeps (linkW k kw one f c)
  | 0, c => by intro r b a r' b' he h; cases h
  | f + 1, c => Keeps.ite (p := fun r b => (one r b).then fun d => linkW k kw one f (.node k c d [] 0 [])) (q := fun r b => .ok c r b) (inner_says _) (h.then fun d => keeps_link h f _) (keeps_ok c)
theorem keeps_chain {k : Int} {kw : Tx} {one : Pa Cd} (h : Keeps one) : Keeps (chainW k kw one) := by
  intro r b a r' b' he hh
  unfold chainW at hh
  simp only [PR.then] at hh
  cases h1 : one r b with
  | bad c p => rw [h1] at hh; cases hh
  | ok x r1 b1 =>
    rw [h1] at hh
    obtain ⟨i1, i2⟩ := h _ _ _ _ _ he h1
    obtain ⟨j1, j2⟩ := keeps_link h _ _ _ _ _ _ _ i1 hh
    exact ⟨j1, by omega⟩
theorem keeps_not : ∀ f : Nat, Keeps (notW f)
  | 0 => by intro r b a r' b' he h; cases h
  | f + 1 => by
    have ih := keeps_not f
    refine Keeps.ite (m := saysW [78, 79, 84]) (p := fun r b => (notW f r b).map fun c => Cd.node 3 c .none [] 0 []) (inner_says _) ih.map ?_
    refine Keeps.ite (m := saysW [40]) (p := fun r b => (orW (notW f) r b).then fun c r1 b1 => (allW [[41]] r1 b1).map fun _ => c) (inner_says _) ?_ keeps_test
    exact Keeps.then (keeps_chain (keeps_chain ih)) fun c => (keeps_all _).map
theorem keeps_or (f : Nat) : Keeps (orW (notW f)) := keeps_chain (keeps_chain (keeps_not f))
theorem keeps_names : Keeps namesW := Keeps.then (keeps_list keeps_name) fun l => (keeps_all _).map
theorem keeps_lst : Keeps lstW := Keeps.then (keeps_all _) fun _ => keeps_names
theorem keeps_set : Keeps setW := by
  refine Keeps.ite0 (m := ofW 1) (p := fun r b => (nameW r b).map fun t => [t]) keeps_name.map ?_
  exact Keeps.then (keeps_all _) fun _ => Keeps.ite (m := saysW [41]) (p := fun r b => .ok [] r b) (inner_says _) (keeps_ok _) keeps_names
theorem keeps_elt : Keeps eltW := by
  refine Keeps.ite0 (m := ofW 1) (p := fun r b => (nameW r b).map fun t => Gp.mk 1 [t] []) keeps_name.map ?_
  refine Keeps.ite (m := saysW [82, 79, 76, 76, 85, 80]) (p := fun r b => (lstW r b).map fun l => Gp.mk 2 l []) (inner_says _) keeps_lst.map ?_
  refine Keeps.ite (m := saysW [67, 85, 66, 69]) (p := fun r b => (lstW r b).map fun l => Gp.mk 3 l []) (inner_says _) keeps_lst.map ?_
  exact Keeps.then (keeps_all _) fun _ => Keeps.then (keeps_list keeps_set) fun ss => (keeps_all _).map
end Go.Proofs.YtkcnbmgaeompjaaGreatDoor
/- How a query is shown, plain: as words, and as a text; and that the text's words are those. -/
namespace Go.Proofs.YtkcnbmgaeompjaaGreatDoor
set_option linter.unusedVariables false

/-- A word as it is shown. -/
def sw (g : Tx) (k : Nat) (t : Tx) : Pc := ⟨g, k, t, if k = 4 then quoteB t else t⟩
def sig (g : Tx) (b : UInt8) : Pc := sw g 5 [b]
abbrev digs (n : Nat) : Tx := Lib.decDigits n
def valP (g : Tx) (v : Vl) : List Pc :=
  if v.isText then [sw g 4 v.text]
  else if v.int < 0 then [sig g 45, sw [] 3 (digs v.int.natAbs)] else [sw g 3 (digs v.int.natAbs)]
section
variable {α : Type}
def restP (one : Tx → α → List Pc) : List α → List Pc
  | [] => []
  | a :: l => sig [] 44 :: (one [32] a ++ restP one l)
def sepP (one : Tx → α → List Pc) (g : Tx) : List α → List Pc
  | [] => []
  | a :: l => one g a ++ restP one l
end
def nameP (g : Tx) (t : Tx) : List Pc := [sw g 1 t]
def itemP (g : Tx) (i : It) : List Pc :=
  if i.kind = 1 then [sw g 1 i.col]
  else if i.kind = 2 then [sw g 2 [67, 79, 85, 78, 84], sig [] 40, sig [] 42, sig [] 41]
  else [sw g 2 (callsT.getD i.kind.toNat []), sig [] 40, sw [] 1 i.col, sig [] 41]
def brk (g : Tx) (l : List Pc) : List Pc := sig g 40 :: (l ++ [sig [] 41])
def lstP (g : Tx) (l : List Tx) : List Pc := brk g (sepP nameP [] l)
def grpP (g : Tx) (e : Gp) : List Pc :=
  if e.kind = 1 then [sw g 1 (e.cols.headD [])]
  else if e.kind = 2 then sw g 2 [82, 79, 76, 76, 85, 80] :: lstP [] e.cols
  else if e.kind = 3 then sw g 2 [67, 85, 66, 69] :: lstP [] e.cols
  else sw g 2 [71, 82, 79, 85, 80, 73, 78, 71] :: sw [32] 2 [83, 69, 84, 83] :: brk [] (sepP lstP [] e.sets)
/-- How strongly a condition holds together. -/
def strK (k : Int) : Nat := if k = 2 then 0 else if k = 1 then 1 else if k = 3 then 2 else 3
def Cd.kind : Cd → Int
  | .none => 0
  | .node k _ _ _ _ _ => k
def brP (k : Int) (least : Nat) (body : Tx → List Pc) (g : Tx) : List Pc := if least ≤ strK k then body g else brk g (body [])
def testP (k : Int) (col : Tx) (op : Int) (vals : List Vl) (g : Tx) : List Pc :=
  if k = 5 then sw g 1 col :: sw [32] 2 [73, 78] :: brk [32] (sepP valP [] vals)
  else sw g 1 col :: sw [32] 5 (signsT.getD op.toNat []) :: valP [32] (vals.headD ⟨false, [], 0⟩)
def nodeP : Cd → Tx → List Pc
  | .none, _ => []
  | .node k l r col op vals, g =>
    if k = 2 then brP l.kind 0 (nodeP l) g ++ sw [32] 2 [79, 82] :: brP r.kind 1 (nodeP r) [32]
    else if k = 1 then brP l.kind 1 (nodeP l) g ++ sw [32] 2 [65, 78, 68] :: brP r.kind 2 (nodeP r) [32]
    else if k = 3 then sw g 2 [78, 79, 84] :: brP l.kind 2 (nodeP l) [32]
    else testP k col op vals g
def whereP (c : Cd) : List Pc := if c = .none then [] else sw [32] 2 [87, 72, 69, 82, 69] :: brP c.kind 0 (nodeP c) [32]
def groupP (q : Qy) : List Pc := if q.grouped then sw [32] 2 [71, 82, 79, 85, 80] :: sw [32] 2 [66, 89] :: sepP grpP [32] q.groups else []
def queryP (q : Qy) : List Pc :=
  sw [] 2 [83, 69, 76, 69, 67, 84] :: (sepP itemP [32] q.items ++ (sw [32] 2 [70, 82, 79, 77] :: sw [32] 1 q.table :: (whereP q.cond ++ groupP q)))
def showT (q : Qy) : Tx := txt [] (queryP q)

/-! ### what may be -/
def isNameB (t : Tx) : Bool := firstB t == 2 && t.all goB && (kwOf t).isEmpty && decide (t.length ≤ 32)
theorem isNameB_valid {t : Tx} (h : isNameB t = true) : Valid 1 t := by
  unfold isNameB at h
  simp only [Bool.and_eq_true, beq_iff_eq, decide_eq_true_eq, List.all_eq_true, List.isEmpty_iff] at h
  exact .inl ⟨rfl, h.1.1.1, h.1.1.2, h.1.2, h.2⟩
theorem isNameB_of {t : Tx} (h : Valid 1 t) : isNameB t = true := by
  rcases h with ⟨_, h1, h2, h3, h4⟩ | ⟨h, _⟩ | ⟨h, _⟩ | ⟨h, _⟩ | ⟨h, _⟩
  · unfold isNameB
    simp only [Bool.and_eq_true, beq_iff_eq, decide_eq_true_eq, List.all_eq_true, List.isEmpty_iff]
    exact ⟨⟨⟨h1, h2⟩, h3⟩, h4⟩
  all_goals omega
def rightL {α : Type} (l : List α) (least most : Nat) (one : α → Bool) : Bool := decide (least ≤ l.length) && decide (l.length ≤ most) && l.all one
def rightV (v : Vl) : Bool := if v.isText then decide (v.text.length ≤ 64) && v.int == 0 else v.text.isEmpty
def bareC (col : Tx) (op : Int) (vals : List Vl) : Bool := col.isEmpty && op == 0 && vals.isEmpty
def testR (k : Int) (col : Tx) (op : Int) (vals : List Vl) : Bool :=
  if k = 4 then isNameB col && decide (1 ≤ op) && decide (op ≤ 6) && rightL vals 1 1 rightV
  else if k = 5 then isNameB col && op == 0 && rightL vals 1 64 rightV
  else false
/-- Counting nodes while going down: what is left of n, or none. -/
def rightC : Cd → Nat → Nat → Option Nat
  | .none, _, _ => none
  | .node k l r col op vals, deep, n =>
    if deep = 0 ∨ n = 0 then none
    else if k = 1 ∨ k = 2 then (if bareC col op vals then (rightC l (deep - 1) (n - 1)).bind fun m => rightC r (deep - 1) m else none)
    else if k = 3 then (if bareC col op vals ∧ r = .none then rightC l (deep - 1) (n - 1) else none)
    else if l = .none ∧ r = .none ∧ testR k col op vals = true then some (n - 1) else none
def rightI (i : It) : Bool := if i.kind = 2 then i.col.isEmpty else decide (1 ≤ i.kind) && decide (i.kind ≤ 6) && isNameB i.col
def rightG (e : Gp) : Bool :=
  if e.kind = 1 then e.sets.isEmpty && rightL e.cols 1 1 isNameB
  else if e.kind = 2 ∨ e.kind = 3 then e.sets.isEmpty && rightL e.cols 1 16 isNameB
  else if e.kind = 4 then e.cols.isEmpty && rightL e.sets 1 64 fun s => rightL s 0 16 isNameB
  else false
def rightGs (q : Qy) : Bool := if q.grouped then rightL q.groups 1 16 rightG else q.groups.isEmpty
def rightQ (q : Qy) : Bool := rightL q.items 1 16 rightI && isNameB q.table && (decide (q.cond = .none) || (rightC q.cond 32 2048).isSome) && rightGs q
/-- Numbers within an int64, everywhere. -/
def Vl.Fits (v : Vl) : Prop := -9223372036854775808 ≤ v.int ∧ v.int ≤ 9223372036854775807
def Cd.Fits : Cd → Prop
  | .none => True
  | .node _ l r _ _ vals => l.Fits ∧ r.Fits ∧ ∀ v ∈ vals, v.Fits
def showB (q : Qy) : Tx × Nat := if rightQ q = true then (if 4096 < (showT q).length then ([], 45) else (showT q, 0)) else ([], 1)

/-! ### the words of what is shown -/
def fin (c : Pc) : Prop := c.kind = 5 → c.text ≠ [60] ∧ c.text ≠ [62]
def Okp (c : Pc) : Prop := Blank c.gap ∧ Valid c.kind c.text ∧ Stands c.kind c.text c.x ∧ c.x ≠ []
def Adj (c d : Pc) : Prop := d.gap = [32] ∨ (c.kind = 5 ∧ fin c) ∨ (c.kind ≠ 5 ∧ d.kind = 5)
def Run : List Pc → Prop
  | [] => True
  | c :: l => Okp c ∧ (∀ d, l.head? = some d → Adj c d) ∧ Run l
theorem Run.app {a b : List Pc} (ha : Run a) (hb : Run b) (hab : ∀ c d, a.getLast? = some c → b.head? = some d → Adj c d) : Run (a ++ b) := by
  induction a with
  | nil => exact hb
  | cons c a ih =>
    obtain ⟨h1, h2, h3⟩ := ha
    refine ⟨h1, fun d hd => ?_, ih h3 fun c' d hc hd => ?_⟩
    · cases a with
      | nil => exact hab c d rfl hd
      | cons e a => exact h2 d hd
    · cases a with
      | nil => cases hc
      | cons e a => exact hab c' d (by rw [List.getLast?_cons_cons]; exact hc) hd
theorem sign_head {t : Tx} (h : t ∈ signs) : ∃ b l, t = b :: l ∧ goB b = false ∧ b ≠ 39 := by
  have : ∀ t ∈ signs, (match t with | [] => false | b :: _ => !goB b && b != 39) = true := by decide +kernel
  have h2 := this t h
  cases t with
  | nil => cases h2
  | cons b l =>
    simp at h2
    exact ⟨b, l, rfl, h2.1, h2.2⟩
theorem stops_of {c d : Pc} {y : Tx} (hc : Okp c) (hd : Okp d) (h : Adj c d) : Stops c.kind c.text (d.gap ++ (d.x ++ y)) := by
  intro b hb
  have sp : b = 32 → (c.kind = 1 ∨ c.kind = 2 ∨ c.kind = 3 → goB b = false) ∧ (c.kind = 4 → b ≠ 39) ∧ (c.kind = 5 → c.text = [60] → b ≠ 62 ∧ b ≠ 61) ∧ (c.kind = 5 → c.text = [62] → b ≠ 61) := by
    rintro rfl
    exact ⟨fun _ => by decide, fun _ => by decide, fun _ _ => by decide, fun _ _ => by decide⟩
  rcases h with h | ⟨h1, h2⟩ | ⟨h1, h2⟩
  · rw [h] at hb
    exact sp (by simpa using hb.symm)
  · exact ⟨fun e => by omega, fun e => by omega, fun _ e => absurd e (h2 h1).1, fun _ e => absurd e (h2 h1).2⟩
  · have hg : d.gap = [] ∨ ∃ g l, d.gap = g :: l ∧ isBla g = true := by
      cases hgp : d.gap with
      | nil => exact .inl rfl
      | cons g l => exact .inr ⟨g, l, rfl, hd.1 g (by rw [hgp]; simp)⟩
    rcases hg with hg | ⟨g, l, hg, hbl⟩
    · have hx : d.x = d.text := by
        have := hd.2.2.1.1 (by omega)
        rwa [if_neg (by omega)] at this
      have hs : d.text ∈ signs := by
        rcases hd.2.1 with h | h | h | h | h
        · omega
        · omega
        · omega
        · omega
        · exact h.2
      obtain ⟨b', l', e1, e2, e3⟩ := sign_head hs
      rw [hg, hx, e1] at hb
      have : b' = b := by simpa using hb
      subst this
      exact ⟨fun _ => e2, fun _ => e3, fun e => absurd e h1, fun e => absurd e h1⟩
    · rw [hg] at hb
      have : g = b := by simpa using hb
      subst this
      have hbb : ∀ b : UInt8, isBla b = true → goB b = false ∧ b ≠ 39 ∧ b ≠ 62 ∧ b ≠ 61 := all_bytes (p := fun b => isBla b = true → goB b = false ∧ b ≠ 39 ∧ b ≠ 62 ∧ b ≠ 61) (by decide +kernel)
      obtain ⟨e1, e2, e3, e4⟩ := hbb g hbl
      exact ⟨fun _ => e1, fun _ => e2, fun _ _ => ⟨e3, e4⟩, fun _ _ => e4⟩
theorem Run.made : ∀ {l : List Pc}, Run l → Made [] l
  | [], _ => fun b hb => by cases hb
  | c :: l, ⟨h1, h2, h3⟩ => by
    refine ⟨h1.1, h1.2.1, h1.2.2.1, h1.2.2.2, ?_, h3.made⟩
    cases l with
    | nil => intro b hb; cases hb
    | cons d l => exact stops_of h1 h3.1 (h2 d rfl)

/-- A stretch of shown words: its first one's gap is g, its last one ends well. -/
structure Seg (g : Tx) (l : List Pc) : Prop where
  run : Run l
  head : ∃ d r, l = d :: r ∧ d.gap = g
  last : ∃ r c, l = r ++ [c] ∧ fin c
theorem Seg.one {g : Tx} {k : Nat} {t : Tx} (hg : Blank g) (hv : Valid k t) (hf : k = 5 → t ≠ [60] ∧ t ≠ [62]) : Seg g [sw g k t] := by
  refine ⟨⟨(⟨hg, hv, ?_, ?_⟩ : Okp (sw g k t)), (fun d hd => by cases hd), trivial⟩, ⟨_, _, rfl, rfl⟩, ⟨[], _, rfl, hf⟩⟩
  · refine ⟨fun _ => rfl, fun h => ?_⟩
    have h2 : k = 2 := h
    subst h2
    rcases hv with h | h | h | h | h
    · omega
    · exact kws_cap t h.2
    · omega
    · omega
    · omega
  · show (if k = 4 then quoteB t else t) ≠ []
    split
    · simp [quoteB]
    · rcases hv with h | h | h | h | h
      · intro e; have := h.2.1; rw [e] at this; cases this
      · exact kws_ne h.2
      · exact h.2.1
      · omega
      · intro e; have := h.2; rw [e] at this; revert this; decide
theorem Seg.app {g g' : Tx} {a b : List Pc} (ha : Seg g a) (hb : Seg g' b) (h : ∀ c d, fin c → b.head? = some d → a.getLast? = some c → Adj c d) : Seg g (a ++ b) := by
  obtain ⟨d, r, e, hd⟩ := ha.head
  obtain ⟨r', c, e', hc⟩ := hb.last
  obtain ⟨r2, c2, e2, hc2⟩ := ha.last
  refine ⟨ha.run.app hb.run fun c' d' h1 h2 => ?_, ⟨d, r ++ b, by rw [e]; rfl, hd⟩, ⟨a ++ r', c, by rw [e', List.append_assoc], hc⟩⟩
  have : c' = c2 := by rw [e2] at h1; simpa using h1.symm
  subst this
  exact h c' d' hc2 h2 h1
theorem Seg.app32 {g : Tx} {a b : List Pc} (ha : Seg g a) (hb : Seg [32] b) : Seg g (a ++ b) := ha.app hb fun c d _ hd _ => by
  obtain ⟨d', r, e, hg⟩ := hb.head
  rw [e] at hd
  cases hd
  exact .inl hg
theorem Seg.appSig {g g' : Tx} {a b : List Pc} (ha : Seg g a) (hb : Seg g' b) (h5 : ∀ d, b.head? = some d → d.kind = 5) : Seg g (a ++ b) := ha.app hb fun c d hf hd _ => by
  by_cases hc : c.kind = 5
  · exact .inr (.inl ⟨hc, hf⟩)
  · exact .inr (.inr ⟨hc, h5 d hd⟩)
theorem Seg.behind {g g' : Tx} {c : Pc} {b : List Pc} (hc : Seg g [c]) (hb : Seg g' b) (h5 : c.kind = 5) : Seg g (c :: b) := hc.app hb fun c' d hf hd hl => by
  have : c = c' := by simpa using hl
  subst this
  exact .inr (.inl ⟨h5, hf⟩)
theorem blank32 : Blank [32] := by intro b hb; simp at hb; subst hb; rfl
theorem blank0 : Blank [] := by intro b hb; cases hb
theorem Seg.sig {g : Tx} (hg : Blank g) (b : UInt8) (h : [b] ∈ signs) (h1 : b ≠ 60) (h2 : b ≠ 62) : Seg g [sig g b] := Seg.one hg (.inr (.inr (.inr (.inr ⟨rfl, h⟩)))) fun _ => ⟨by simpa using h1, by simpa using h2⟩
theorem Seg.kw {g : Tx} (hg : Blank g) (t : Tx) (h : t ∈ kws) : Seg g [sw g 2 t] := Seg.one hg (.inr (.inl ⟨rfl, h⟩)) (fun e => by omega)
theorem Seg.name {g : Tx} (hg : Blank g) {t : Tx} (h : isNameB t = true) : Seg g [sw g 1 t] := Seg.one hg (isNameB_valid h) (fun e => by omega)
theorem Seg.brk {g : Tx} (hg : Blank g) {l : List Pc} (h : Seg [] l) : Seg g (Go.Proofs.YtkcnbmgaeompjaaGreatDoor.brk g l) := by
  have h1 : Seg [] (l ++ [Go.Proofs.YtkcnbmgaeompjaaGreatDoor.sig [] 41]) := h.appSig (Seg.sig blank0 41 (by decide) (by decide) (by decide)) fun d hd => by cases hd; rfl
  exact (Seg.sig hg 40 (by decide) (by decide) (by decide)).behind h1 rfl
theorem Seg.brk0 {g : Tx} (hg : Blank g) : Seg g (Go.Proofs.YtkcnbmgaeompjaaGreatDoor.brk g []) := (Seg.sig hg 40 (by decide) (by decide) (by decide)).behind (Seg.sig blank0 41 (by decide) (by decide) (by decide)) rfl
section
variable {α : Type}
theorem Seg.rest {one : Tx → α → List Pc} : ∀ {l : List α}, (∀ a ∈ l, Seg [32] (one [32] a)) → ∀ {g : Tx} {x : List Pc}, Seg g x → Seg g (x ++ restP one l)
  | [], _, g, x, hx => by rw [restP, List.append_nil]; exact hx
  | a :: l, h, g, x, hx => by
    have h1 : Seg [] (Go.Proofs.YtkcnbmgaeompjaaGreatDoor.sig [] 44 :: one [32] a) := (Seg.sig blank0 44 (by decide) (by decide) (by decide)).behind (h a (by simp)) rfl
    have h2 : Seg g (x ++ (Go.Proofs.YtkcnbmgaeompjaaGreatDoor.sig [] 44 :: one [32] a)) := hx.appSig h1 fun d hd => by cases hd; rfl
    have h3 := Seg.rest (l := l) (fun b hb => h b (by simp [hb])) h2
    rw [List.append_assoc] at h3
    exact h3
theorem Seg.sep {one : Tx → α → List Pc} {g : Tx} {l : List α} (hne : l ≠ []) (h0 : ∀ a ∈ l, Seg g (one g a)) (h : ∀ a ∈ l, Seg [32] (one [32] a)) : Seg g (sepP one g l) := by
  cases l with
  | nil => exact absurd rfl hne
  | cons a l => exact Seg.rest (fun b hb => h b (by simp [hb])) (h0 a (by simp))
end
end Go.Proofs.YtkcnbmgaeompjaaGreatDoor
/- The words of a text end with the end, and are not long, plain. -/
namespace Go.Proofs.YtkcnbmgaeompjaaGreatDoor
set_option linter.unusedVariables false

def wrB (k : Nat) (t : Tx) : Tx := if k = 4 then quoteB t else t
theorem Stands.len {k : Nat} {t x : Tx} (h : Stands k t x) : x.length = (wrB k t).length := by
  by_cases h2 : k = 2
  · have := congrArg List.length (h.2 h2)
    rw [List.length_map] at this
    unfold wrB
    rw [if_neg (by omega)]
    exact this
  · rw [h.1 h2]; rfl
theorem dbl_le (t : Tx) : t.length ≤ (dbl t).length ∧ (dbl t).length ≤ 2 * t.length := by
  induction t with
  | nil => exact ⟨Nat.le_refl _, Nat.le_refl _⟩
  | cons b t ih => rw [dbl_cons]; split <;> simp <;> omega
theorem quote_len (t : Tx) : t.length + 2 ≤ (quoteB t).length ∧ (quoteB t).length ≤ 2 * t.length + 2 := by
  have := dbl_le t
  unfold quoteB
  simp; omega
theorem valid_kind {k : Nat} {t : Tx} (h : Valid k t) : 1 ≤ k ∧ k ≤ 5 := by rcases h with h | h | h | h | h <;> omega
theorem wrB_len (k : Nat) (t : Tx) : t.length ≤ (wrB k t).length := by
  unfold wrB
  split
  · have := (quote_len t).1; omega
  · exact Nat.le_refl _
theorem mk_bd : ∀ (l : List Pc) (z : Tx) (p : Nat), Made z l → ∀ x ∈ mkW p l, x.text.length ≤ (txt z l).length ∧ 1 ≤ x.kind ∧ x.kind ≤ 5 ∧ x.pos ≤ p + (txt z l).length
  | [], _, _, _, x, hx => by cases hx
  | c :: l, z, p, ⟨h1, h2, h3, h4, h5, h6⟩, x, hx => by
    have e : (txt z (c :: l)).length = c.gap.length + c.x.length + (txt z l).length := by simp [txt]; omega
    rcases List.mem_cons.1 hx with rfl | hx
    · have h7 := h3.len
      have h8 := wrB_len c.kind c.text
      have h9 := valid_kind h2
      refine ⟨?_, h9.1, h9.2, ?_⟩
      · show c.text.length ≤ _; omega
      · show p + c.gap.length ≤ _; omega
    · obtain ⟨i1, i2, i3, i4⟩ := mk_bd l z _ h6 x hx
      exact ⟨by omega, i2, i3, by omega⟩
theorem words_ended {t : Tx} {ws : List Wd} {f : Nat} (h : wordsB t = (ws, 0, f)) : Ended ws ∧ (∀ x ∈ ws, x.text.length ≤ 8192 ∧ x.kind ≤ 6 ∧ x.pos ≤ 100000) ∧ f = 0 ∧ t.length ≤ 4096 := by
  obtain ⟨h1, h2, l, z, h3, h4, h5⟩ := made_words h
  have hb := mk_bd l z 0 h4
  rw [← h3] at hb
  refine ⟨⟨mkW 0 l, ⟨6, [], t.length⟩, h5, rfl, fun x hx => by have := (hb x hx).2.2.1; omega⟩, fun x hx => ?_, h2, h1⟩
  rw [h5] at hx
  rcases List.mem_append.1 hx with hx | hx
  · obtain ⟨i1, i2, i3, i4⟩ := hb x hx
    exact ⟨by omega, by omega, by omega⟩
  · obtain rfl := List.mem_singleton.1 hx
    exact ⟨by simp, Nat.le_refl _, by show t.length ≤ _; omega⟩
theorem words_cap {t : Tx} : (wordsB t).1.length ≤ 4097 := by
  have key : ∀ (f : Nat) (r : Tx) (p : Nat), (goW f r p).1.length ≤ f := by
    intro f
    induction f with
    | zero => intro r p; exact Nat.le_refl _
    | succ f ih =>
      intro r p
      unfold goW
      split
      · simp
      · cases wordT (r.drop (runB isBla r)) with
        | bad c on => simp
        | good k t s =>
          have := ih ((r.drop (runB isBla r)).drop s) (p + runB isBla r + s)
          show (cons1 _ _).1.length ≤ _
          unfold cons1
          split
          · exact Nat.succ_le_succ this
          · simp
  unfold wordsB
  split
  · simp
  · have := key (t.length + 1) t 0
    omega
end Go.Proofs.YtkcnbmgaeompjaaGreatDoor
/- Reading a condition: not more of it than words, plain. -/
namespace Go.Proofs.YtkcnbmgaeompjaaGreatDoor
set_option linter.unusedVariables false

def sizeW : Cd → Nat
  | .none => 0
  | .node _ l r _ _ _ => 1 + sizeW l + sizeW r
theorem depth_size : ∀ c : Cd, depthW c ≤ sizeW c
  | .none => Nat.le_refl _
  | .node _ l r _ _ _ => by
    have := depth_size l; have := depth_size r
    unfold depthW sizeW
    omega
def Sized (p : Pa Cd) : Prop := ∀ r b c r' b', Ended r → p r b = .ok c r' b' → Ended r' ∧ sizeW c + r'.length ≤ r.length
theorem name_takes {r : List Wd} {b : Bool} {t : Tx} {r' : List Wd} {b' : Bool} (he : Ended r) (h : nameW r b = .ok t r' b') : Ended r' ∧ r'.length + 1 = r.length := by
  obtain ⟨x, l, rfl⟩ := he.cons
  have h : (if ofW 1 x then PR.ok x l b else .bad 41 x.pos).map Wd.text = .ok t r' b' := h
  split at h
  · rename_i hx
    cases h
    exact ⟨he.tail (inner_of (by decide) _ hx), by simp⟩
  · cases h
theorem PR.then_ok {α β : Type} {x : PR α} {f : α → Pa β} {b : β} {r : List Wd} {m : Bool} (h : x.then f = .ok b r m) : ∃ a r1 m1, x = .ok a r1 m1 ∧ f a r1 m1 = .ok b r m := by
  cases x with
  | ok a r1 m1 => exact ⟨a, r1, m1, rfl, h⟩
  | bad c p => cases h
theorem PR.map_ok {α β : Type} {x : PR α} {f : α → β} {b : β} {r : List Wd} {m : Bool} (h : x.map f = .ok b r m) : ∃ a, x = .ok a r m ∧ b = f a := by
  obtain ⟨a, r1, m1, h1, h2⟩ := PR.then_ok h
  cases h2
  exact ⟨a, h1, rfl⟩
theorem sized_test : Sized testW := by
  intro r b c r' b' he h
  obtain ⟨i1, i2⟩ := keeps_test _ _ _ _ _ he h
  unfold testW at h
  obtain ⟨t, r1, b1, h1, h2⟩ := PR.then_ok h
  obtain ⟨j1, j2⟩ := name_takes he h1
  have key : sizeW c = 1 ∧ r'.length ≤ r1.length := by
    split at h2
    · rename_i hs
      obtain ⟨k1, k2⟩ := j1.sees (inner_says _) hs
      obtain ⟨_, r2, b2, h3, h4⟩ := PR.then_ok h2
      obtain ⟨vs, r3, b3, h5, h6⟩ := PR.then_ok h4
      obtain ⟨_, h7, rfl⟩ := PR.map_ok h6
      obtain ⟨l1, l2⟩ := keeps_all _ _ _ _ _ _ k1 h3
      obtain ⟨m1, m2⟩ := keeps_list keeps_val _ _ _ _ _ l1 h5
      obtain ⟨n1, n2⟩ := keeps_all _ _ _ _ _ _ m1 h7
      exact ⟨rfl, by omega⟩
    · obtain ⟨x, r2, b2, h3, h4⟩ := PR.then_ok h2
      obtain ⟨v, h7, rfl⟩ := PR.map_ok h4
      obtain ⟨l1, l2⟩ := keeps_need (inner_among _) _ _ _ _ _ j1 h3
      obtain ⟨m1, m2⟩ := keeps_val _ _ _ _ _ l1 h7
      exact ⟨rfl, by omega⟩
  exact ⟨i1, by omega⟩
theorem sized_link {k : Int} {kw : Tx} {one : Pa Cd} (h : Sized one) : ∀ (f : Nat) (c : Cd) (r : List Wd) (b : Bool) (d : Cd) (r' : List Wd) (b' : Bool), Ended r → linkW k kw one f c r b = .ok d r' b' → Ended r' ∧ sizeW d + r'.length ≤ sizeW c + r.length
  | 0, c, r, b, d, r', b', he, hh => by cases hh
  | f + 1, c, r, b, d, r', b', he, hh => by
    have hh : (if seesW (saysW kw) r then (one r.tail b).then fun d => linkW k kw one f (.node k c d [] 0 []) else .ok c r b) = .ok d r' b' := hh
    split at hh
    · rename_i hs
      obtain ⟨k1, k2⟩ := he.sees (inner_says _) hs
      obtain ⟨e, r2, b2, h3, h4⟩ := PR.then_ok hh
      obtain ⟨l1, l2⟩ := h _ _ _ _ _ k1 h3
      obtain ⟨m1, m2⟩ := sized_link h f _ _ _ _ _ _ l1 h4
      refine ⟨m1, ?_⟩
      have : sizeW (.node k c e [] 0 []) = 1 + sizeW c + sizeW e := rfl
      omega
    · cases hh
      exact ⟨he, Nat.le_refl _⟩
theorem sized_chain {k : Int} {kw : Tx} {one : Pa Cd} (h : Sized one) : Sized (chainW k kw one) := by
  intro r b c r' b' he hh
  unfold chainW at hh
  obtain ⟨e, r2, b2, h3, h4⟩ := PR.then_ok hh
  obtain ⟨l1, l2⟩ := h _ _ _ _ _ he h3
  obtain ⟨m1, m2⟩ := sized_link h _ _ _ _ _ _ _ l1 h4
  exact ⟨m1, by omega⟩
theorem sized_not : ∀ f : Nat, Sized (notW f)
  | 0 => by intro r b c r' b' he h; cases h
  | f + 1 => by
    intro r b c r' b' he h
    have h : (if seesW (saysW [78, 79, 84]) r then (notW f r.tail b).map fun c => .node 3 c .none [] 0 []
      else if seesW (saysW [40]) r then (orW (notW f) r.tail b).then fun c r1 b1 => (allW [[41]] r1 b1).map fun _ => c
      else testW r b) = .ok c r' b' := h
    split at h
    · rename_i hs
      obtain ⟨k1, k2⟩ := he.sees (inner_says _) hs
      obtain ⟨e, h1, rfl⟩ := PR.map_ok h
      obtain ⟨l1, l2⟩ := sized_not f _ _ _ _ _ k1 h1
      refine ⟨l1, ?_⟩
      have : sizeW (.node 3 e .none [] 0 []) = 1 + sizeW e + 0 := rfl
      omega
    · split at h
      · rename_i hs
        obtain ⟨k1, k2⟩ := he.sees (inner_says _) hs
        obtain ⟨e, r2, b2, h3, h4⟩ := PR.then_ok h
        obtain ⟨_, h5, rfl⟩ := PR.map_ok h4
        obtain ⟨l1, l2⟩ := sized_chain (sized_chain (sized_not f)) _ _ _ _ _ k1 h3
        obtain ⟨m1, m2⟩ := keeps_all _ _ _ _ _ _ l1 h5
        exact ⟨m1, by omega⟩
      · exact sized_test _ _ _ _ _ he h
theorem query_sized {f : Nat} {r : List Wd} {b : Bool} {q : Qy} {r' : List Wd} {b' : Bool} (he : Ended r) (h : queryW f r b = .ok q r' b') : sizeW q.cond ≤ r.length := by
  unfold queryW at h
  obtain ⟨_, r1, b1, h1, h⟩ := PR.then_ok h
  obtain ⟨is, r2, b2, h2, h⟩ := PR.then_ok h
  obtain ⟨_, r3, b3, h3, h⟩ := PR.then_ok h
  obtain ⟨t, r4, b4, h4, h⟩ := PR.then_ok h
  obtain ⟨c, r5, b5, h5, h⟩ := PR.then_ok h
  obtain ⟨g, r7, b7, h6, h⟩ := PR.then_ok h
  obtain ⟨_, h7, rfl⟩ := PR.map_ok h
  obtain ⟨e1, l1⟩ := keeps_all _ _ _ _ _ _ he h1
  obtain ⟨e2, l2⟩ := keeps_list keeps_item _ _ _ _ _ e1 h2
  obtain ⟨e3, l3⟩ := keeps_all _ _ _ _ _ _ e2 h3
  obtain ⟨e4, l4⟩ := keeps_name _ _ _ _ _ e3 h4
  show sizeW c ≤ _
  split at h5
  · rename_i hs
    obtain ⟨k1, k2⟩ := e4.sees (inner_says _) hs
    obtain ⟨_, m2⟩ := sized_chain (sized_chain (sized_not f)) _ _ _ _ _ k1 h5
    omega
  · cases h5
    exact Nat.zero_le _
end Go.Proofs.YtkcnbmgaeompjaaGreatDoor
