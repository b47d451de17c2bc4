/- Grouping sets, plain: what each call comes to. -/
import Derived.Test.YthejnkpnpckmbaaRows
namespace Go.Proofs.Ythejnkpnpckmbaa
set_option linter.unusedVariables false

abbrev Tx := List UInt8
/-- An element of a GROUP BY. -/
structure Gp where
  kind : Int
  cols : List Tx
  sets : List (List Tx)

/-- The place of a name, or -1. -/
def idxI (dims : List Tx) (t : Tx) : Int := match dims.findIdx? (· == t) with | some i => (i : Int) | none => -1
/-- The set of one dimension; of what is none: the empty one. -/
def bitI (d : Int) : Nat := if 0 ≤ d ∧ d < 6 then 2 ^ d.toNat else 0
def ofL (l : List Int) : Nat := l.foldl (fun a d => a ||| bitI d) 0
def uni (l : List Nat) : Nat := l.foldl (· ||| ·) 0
def bitT (dims : List Tx) (t : Tx) : Nat := bitI (idxI dims t)
def ownL (dims : List Tx) (l : List Tx) : List Nat := l.map (bitT dims)
/-- The numbers below n, the greatest first. -/
def dl : Nat → List Nat
  | 0 => []
  | n + 1 => n :: dl n
def rollL (l : List Nat) : List Nat := (dl (l.length + 1)).map fun n => uni (l.take n)
/-- Those whose bit is 1, the first one's being the highest. -/
def pick {α : Type} (b : Nat) : List α → List α
  | [] => []
  | x :: l => if b / 2 ^ l.length % 2 = 1 then x :: pick b l else pick b l
def cubeL (l : List Nat) : List Nat := (dl (2 ^ l.length)).map fun b => uni (pick b l)
def listB (s : Int) : List Nat := if 0 ≤ s ∧ s < 64 then (List.range 6).filter fun d => s.toNat / 2 ^ d % 2 = 1 else []
def wrongB (g : Gp) : Bool := if g.kind = 1 then g.cols.length != 1 else if g.kind = 2 ∨ g.kind = 3 then g.cols.length == 0 else g.kind != 4
def unkB (dims : List Tx) (t : Tx) : Bool := !(dims.any (· == t))
def strangeB (dims : List Tx) (g : Gp) : Bool := if g.kind = 4 then g.sets.any fun s => s.any (unkB dims) else g.cols.any (unkB dims)
def esize (g : Gp) : Nat := min (if g.kind = 2 then g.cols.length + 1 else if g.kind = 3 then min (2 ^ g.cols.length) 65 else if g.kind = 4 then g.sets.length else 1) 65
def sizeL (gs : List Gp) : Nat := gs.foldl (fun n g => min (n * esize g) 65) 1
def esets (dims : List Tx) (g : Gp) : List Nat :=
  if g.kind = 2 then rollL (ownL dims g.cols) else if g.kind = 3 then cubeL (ownL dims g.cols) else if g.kind = 4 then g.sets.map fun s => uni (ownL dims s) else ownL dims g.cols
/-- Each choice of one of each, the first turning slowest. -/
def choose (s : Nat) : List (List Nat) → List Nat
  | [] => [s]
  | c :: cs => c.flatMap fun x => choose (s ||| x) cs
def alwaysL (ls : List (List Nat)) (a : Nat) : Nat := ls.foldl (fun a l => if l.length = 1 then a ||| l.headD 0 else a) a
def choicesL (ls : List (List Nat)) : List (List Nat) := ls.filter fun l => l.length != 1
def crossL (dims : List Tx) (gs : List Gp) : List Nat := choose (alwaysL (gs.map (esets dims)) 0) (choicesL (gs.map (esets dims)))
def expandL (dims : List Tx) (gs : List Gp) : List Nat × Int :=
  if 6 < dims.length ∨ gs.any wrongB = true then ([], 1) else if gs.any (strangeB dims) = true then ([], 42) else if 64 < sizeL gs then ([], 46) else if sizeL gs = 0 then ([], 0) else (crossL dims gs, 0)

end Go.Proofs.Ythejnkpnpckmbaa
