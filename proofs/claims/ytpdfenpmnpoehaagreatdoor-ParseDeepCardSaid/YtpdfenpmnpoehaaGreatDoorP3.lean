/- A query, plain; how it is read of words. -/
import Derived.Test.YtpdfenpmnpoehaaGreatDoorP2
import Derived.Lib.ParseIntB
namespace Go.Proofs.YtpdfenpmnpoehaaGreatDoor
set_option linter.unusedVariables false

/-! ### queries -/
structure Vl where
  isText : Bool
  text : Tx
  int : Int
deriving DecidableEq
/-- A condition; none (nil) is one without nodes. -/
inductive Cd where
  | none
  | node (kind : Int) (left right : Cd) (col : Tx) (op : Int) (vals : List Vl)
deriving DecidableEq
structure It where
  kind : Int
  col : Tx
deriving DecidableEq
structure Gp where
  kind : Int
  cols : List Tx
  sets : List (List Tx)
deriving DecidableEq
structure Qy where
  items : List It
  table : Tx
  cond : Cd
  grouped : Bool
  groups : List Gp
deriving DecidableEq
def Qy0 : Qy := ⟨[], [], .none, false, []⟩

/-! ### readers -/
/-- What a reading comes to: something, the words that are left, and whether there was too much of something; or a fault and its place. -/
inductive PR (α : Type) where
  | ok (a : α) (r : List Wd) (m : Bool)
  | bad (c p : Nat)
abbrev Pa (α : Type) := List Wd → Bool → PR α
def PR.then {α β : Type} (x : PR α) (f : α → Pa β) : PR β :=
  match x with
  | .ok a r m => f a r m
  | .bad c p => .bad c p
def PR.map {α β : Type} (x : PR α) (f : α → β) : PR β := x.then fun a r m => .ok (f a) r m
def seesW (m : Wd → Bool) : List Wd → Bool
  | [] => false
  | x :: _ => m x
def ofW (k : Nat) (x : Wd) : Bool := x.kind == k
def fixW (x : Wd) : Bool := x.kind == 2 || x.kind == 5
def saysW (t : Tx) (x : Wd) : Bool := fixW x && x.text == t
def idx (t : Tx) : List Tx → Nat → Nat
  | [], _ => 0
  | x :: l, k => if x = t then k else idx t l (k + 1)
/-- A word's number in a table. -/
def placeW (tab : List Tx) (t : Tx) : Nat := idx t tab 0
def amongW (tab : List Tx) (x : Wd) : Bool := fixW x && decide (0 < placeW tab x.text)
def needW (m : Wd → Bool) : Pa Wd
  | [], _ => .bad 0 0
  | x :: r, b => if m x then .ok x r b else .bad 41 x.pos
def nameW : Pa Tx := fun r b => (needW (ofW 1) r b).map Wd.text
/-- Words that must stand there one behind the other. -/
def allW : List Tx → Pa Unit
  | [], r, b => .ok () r b
  | t :: l, r, b => (needW (saysW t) r b).then fun _ => allW l
/-- More of them, each behind a comma. -/
def moreW {α : Type} (one : Pa α) : Nat → List α → Pa (List α)
  | 0, _, _, _ => .bad 0 0
  | f + 1, l, r, b => if seesW (saysW [44]) r then (one r.tail b).then fun a => moreW one f (l ++ [a]) else .ok l r b
def listW {α : Type} (most : Nat) (one : Pa α) : Pa (List α) := fun r b =>
  ((one r b).then fun a r1 => moreW one (r1.length + 1) [a] r1).then fun l r2 b2 => .ok l r2 (b2 || decide (most < l.length))

def callsT : List Tx := [[], [], [67, 79, 85, 78, 84], [83, 85, 77], [77, 73, 78], [77, 65, 88], [71, 82, 79, 85, 80, 73, 78, 71]]
def signsT : List Tx := [[], [61], [60, 62], [60], [60, 61], [62], [62, 61]]
def itemW : Pa It := fun r b =>
  if seesW (ofW 1) r then (nameW r b).map fun t => ⟨1, t⟩
  else (needW (amongW callsT) r b).then fun x r1 b1 => (allW [[40]] r1 b1).then fun _ r2 b2 =>
    if placeW callsT x.text = 2 then (allW [[42], [41]] r2 b2).map fun _ => ⟨2, []⟩
    else (nameW r2 b2).then fun t r3 b3 => (allW [[41]] r3 b3).map fun _ => ⟨placeW callsT x.text, t⟩
/-- A number's digits, and a sign ahead of them. -/
def numW (l : Tx) : Option Int :=
  match Lib.parseIntB 64 l with
  | .ok n => some n
  | _ => none
def valW : Pa Vl := fun r b =>
  if seesW (ofW 4) r then (needW (ofW 4) r b).map fun x => ⟨true, x.text, 0⟩
  else
    let neg := seesW (saysW [45]) r
    (needW (ofW 3) (if neg then r.tail else r) b).then fun x r1 b1 =>
      match numW ((if neg then [45] else []) ++ x.text) with
      | some n => .ok ⟨false, [], n⟩ r1 b1
      | none => .bad 45 x.pos
def testW : Pa Cd := fun r b => (nameW r b).then fun t r1 b1 =>
  if seesW (saysW [73, 78]) r1 then
    (allW [[40]] r1.tail b1).then fun _ r2 b2 => (listW 64 valW r2 b2).then fun vs r3 b3 => (allW [[41]] r3 b3).map fun _ => .node 5 .none .none t 0 vs
  else (needW (amongW signsT) r1 b1).then fun x r2 b2 => (valW r2 b2).map fun v => .node 4 .none .none t (placeW signsT x.text) [v]
/-- Conditions with a keyword between each two. -/
def linkW (k : Int) (kw : Tx) (one : Pa Cd) : Nat → Cd → Pa Cd
  | 0, _, _, _ => .bad 0 0
  | f + 1, c, r, b => if seesW (saysW kw) r then (one r.tail b).then fun d => linkW k kw one f (.node k c d [] 0 []) else .ok c r b
def chainW (k : Int) (kw : Tx) (one : Pa Cd) : Pa Cd := fun r b => (one r b).then fun c r1 => linkW k kw one (r1.length + 1) c r1
def andW (one : Pa Cd) : Pa Cd := chainW 1 [65, 78, 68] one
def orW (one : Pa Cd) : Pa Cd := chainW 2 [79, 82] (andW one)
def notW : Nat → Pa Cd
  | 0, _, _ => .bad 0 0
  | f + 1, r, b =>
    if seesW (saysW [78, 79, 84]) r then (notW f r.tail b).map fun c => .node 3 c .none [] 0 []
    else if seesW (saysW [40]) r then (orW (notW f) r.tail b).then fun c r1 b1 => (allW [[41]] r1 b1).map fun _ => c
    else testW r b
def namesW : Pa (List Tx) := fun r b => (listW 16 nameW r b).then fun l r1 b1 => (allW [[41]] r1 b1).map fun _ => l
def lstW : Pa (List Tx) := fun r b => (allW [[40]] r b).then fun _ => namesW
def setW : Pa (List Tx) := fun r b =>
  if seesW (ofW 1) r then (nameW r b).map fun t => [t]
  else (allW [[40]] r b).then fun _ r1 b1 => if seesW (saysW [41]) r1 then .ok [] r1.tail b1 else namesW r1 b1
def eltW : Pa Gp := fun r b =>
  if seesW (ofW 1) r then (nameW r b).map fun t => ⟨1, [t], []⟩
  else if seesW (saysW [82, 79, 76, 76, 85, 80]) r then (lstW r.tail b).map fun l => ⟨2, l, []⟩
  else if seesW (saysW [67, 85, 66, 69]) r then (lstW r.tail b).map fun l => ⟨3, l, []⟩
  else (allW [[71, 82, 79, 85, 80, 73, 78, 71], [83, 69, 84, 83], [40]] r b).then fun _ r1 b1 => (listW 64 setW r1 b1).then fun ss r2 b2 => (allW [[41]] r2 b2).map fun _ => ⟨4, [], ss⟩
def queryW (f : Nat) : Pa Qy := fun r b =>
  (allW [[83, 69, 76, 69, 67, 84]] r b).then fun _ r1 b1 => (listW 16 itemW r1 b1).then fun is r2 b2 =>
  (allW [[70, 82, 79, 77]] r2 b2).then fun _ r3 b3 => (nameW r3 b3).then fun t r4 b4 =>
  (if seesW (saysW [87, 72, 69, 82, 69]) r4 then orW (notW f) r4.tail b4 else .ok .none r4 b4).then fun c r5 b5 =>
  (if seesW (saysW [71, 82, 79, 85, 80]) r5 then (allW [[66, 89]] r5.tail b5).then fun _ r6 b6 => (listW 16 eltW r6 b6).map fun g => (true, g) else .ok (false, []) r5 b5).then fun g r7 b7 =>
  (needW (ofW 6) r7 b7).map fun _ => ⟨is, t, c, g.1, g.2⟩
def depthW : Cd → Nat
  | .none => 0
  | .node _ l r _ _ _ => 1 + max (depthW l) (depthW r)
/-- What reading the words comes to: the query, or a fault. -/
def endW : PR Qy → Qy × Nat × Nat
  | .bad c p => (Qy0, c, p)
  | .ok q _ m => if m then (Qy0, 46, 0) else if 32 < depthW q.cond then (Qy0, 47, 0) else (q, 0, 0)
def parseW (t : Tx) : Qy × Nat × Nat :=
  if (wordsB t).2.1 ≠ 0 then (Qy0, (wordsB t).2) else endW (queryW (wordsB t).1.length (wordsB t).1 false)

end Go.Proofs.YtpdfenpmnpoehaaGreatDoor
