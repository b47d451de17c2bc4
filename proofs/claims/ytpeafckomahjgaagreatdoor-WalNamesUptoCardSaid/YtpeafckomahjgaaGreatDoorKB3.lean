/- Rows of things that came in; cells laid down; texts and numbers in a row. -/
import Derived.Test.YtpeafckomahjgaaGreatDoorKB2
namespace Go.Proofs.YtpeafckomahjgaaGreatDoor
open Go.RowKit Go.Maps
set_option linter.unusedVariables false

/-! ### rows of anything -/
theorem cell_of_heap {w w' : World} {g o : Nat} (h : w'.heap[g]? = w.heap[g]?) : w'.cell? ⟨g, o, none⟩ = w.cell? ⟨g, o, none⟩ := by
  simp [World.cell?, h]
/-- v reads as l: elements of so many cells, in blocks of which K speaks. -/
def RowE {α : Type} (K : Nat → Prop) (w : World) (size : Nat) (E : α → List Value → Prop) (v : Value) (l : List α) : Prop :=
  ∃ A c, v = .slice A l.length c ∧ l.length ≤ maxLen ∧ (0 < l.length → ∃ g off, A = some ⟨g, off, none⟩ ∧ K g ∧ ∀ j (h : j < l.length), ∃ cs : List Value, cs.length = size ∧ (∀ i, i < size → w.cell? ⟨g, off + j * size + i, none⟩ = cs[i]?) ∧ E l[j] cs)
theorem RowE.of {α : Type} {K : Nat → Prop} {w w' : World} {size : Nat} {E E' : α → List Value → Prop} {v : Value} {l : List α} (h : RowE K w size E v l) (hk : ∀ k, K k → w'.heap[k]? = w.heap[k]?) (hE : ∀ x cs, E x cs → E' x cs) : RowE K w' size E' v l := by
  obtain ⟨A, c, e, hm, h⟩ := h
  refine ⟨A, c, e, hm, fun hl => ?_⟩
  obtain ⟨g, off, e1, hg, h⟩ := h hl
  refine ⟨g, off, e1, hg, fun j hj => ?_⟩
  obtain ⟨cs, h1, h2, h3⟩ := h j hj
  exact ⟨cs, h1, fun i hi => by rw [cell_of_heap (hk g hg)]; exact h2 i hi, hE _ _ h3⟩
theorem RowE.mono {α : Type} {K K' : Nat → Prop} {w : World} {size : Nat} {E : α → List Value → Prop} {v : Value} {l : List α} (h : RowE K w size E v l) (hk : ∀ k, K k → K' k) : RowE K' w size E v l := by
  obtain ⟨A, c, e, hm, h⟩ := h
  refine ⟨A, c, e, hm, fun hl => ?_⟩
  obtain ⟨g, off, e1, hg, h⟩ := h hl
  exact ⟨g, off, e1, hk g hg, h⟩
theorem RowE.nil {α : Type} (K : Nat → Prop) (w : World) (size : Nat) (E : α → List Value → Prop) (c : Nat) : RowE K w size E (.slice none 0 c) [] := ⟨none, c, rfl, by simp, fun h => absurd h (by simp)⟩

def strE (s : List UInt8) (cs : List Value) : Prop := cs = [sv s] ∧ s.length ≤ maxLen
def i64 (n : Int) : Prop := -9223372036854775808 ≤ n ∧ n ≤ 9223372036854775807
def intE (n : Int) (cs : List Value) : Prop := cs = [.int .i64 n] ∧ i64 n
structure CellP where
  kind : Int
  int : Int
  text : List UInt8
def CellP.val (c : CellP) : Value := .agg #[.int .i64 c.kind, .int .i64 c.int, sv c.text]
def CellP.Ok (c : CellP) : Prop := i64 c.kind ∧ i64 c.int ∧ c.text.length ≤ maxLen
def cellE (c : CellP) (cs : List Value) : Prop := cs = [.int .i64 c.kind, .int .i64 c.int, sv c.text] ∧ c.Ok
/-- A cell that may be. -/
def CellP.may (c : CellP) : Bool := (c.kind == 0 && c.int == 0 && c.text.isEmpty) || (c.kind == 1 && c.text.isEmpty) || (c.kind == 2 && c.int == 0)

/-! ### a cell laid down -/
def WS.cell (S : WS) (c : CellP) : WS :=
  if c.may then (if c.kind = 1 then (S.byte 1).int c.int else if c.kind = 2 then (S.byte 2).text c.text else S.byte 0) else S.fail 1
theorem may_kind {c : CellP} (h : c.may = true) : c.kind = 0 ∨ c.kind = 1 ∨ c.kind = 2 := by
  unfold CellP.may at h
  simp only [Bool.or_eq_true, Bool.and_eq_true, beq_iff_eq] at h
  omega
end Go.Proofs.YtpeafckomahjgaaGreatDoor
