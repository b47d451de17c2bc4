/- Plain: what was laid down is taken up again; cut short it ends short. -/
import Derived.Test.YtjhjcdfhfjeogaaF4
namespace Go.Proofs.Ytjhjcdfhfjeogaa
open Go.RowKit Go.Maps
set_option linter.unusedVariables false

/-! ### the bytes of things -/
def bText (s : List UInt8) : List UInt8 := low s.length 4 ++ s
def bRow {α : Type} (f : α → List UInt8) (l : List α) : List UInt8 := low l.length 4 ++ l.flatMap f
def bCell (c : CellP) : List UInt8 := if c.kind = 1 then low 1 1 ++ enc8 c.int else if c.kind = 2 then low 2 1 ++ bText c.text else low 0 1
def bFact (f : FactP) : List UInt8 := bRow bText f.dims ++ bRow enc8 f.meas
def bThing (t : ThingP) : List UInt8 :=
  if t.kind = 0 then low (t.n % 256).toNat 1 else if t.kind = 1 then enc8 t.n else if t.kind = 2 then low t.n.toNat 4 else if t.kind = 3 then bText t.s
  else if t.kind = 4 then bRow bText t.l else if t.kind = 5 then bCell (one t.cells) else if t.kind = 6 then bRow bCell t.cells else if t.kind = 7 then bFact (any t.facts)
  else if t.kind = 8 then bRow bFact t.facts else bRow bText t.l ++ bRow bText t.meas

/-! ### laid down -/
/-- Where nothing was wrong behind it, b was laid down. -/
def Lays (f : WS → WS) (ok : Prop) (b : List UInt8) : Prop := ∀ S : WS, (f S).fault = 0 → S.fault = 0 ∧ ok ∧ (f S).data = S.data ++ b
theorem Lays.then {f g : WS → WS} {p q : Prop} {a b : List UInt8} (hf : Lays f p a) (hg : Lays g q b) : Lays (fun S => g (f S)) (p ∧ q) (a ++ b) := fun S h => by
  obtain ⟨h1, h2, h3⟩ := hg _ h
  obtain ⟨h4, h5, h6⟩ := hf _ h1
  exact ⟨h4, ⟨h5, h2⟩, by rw [h3, h6, List.append_assoc]⟩
theorem Lays.ok {f : WS → WS} {p q : Prop} {b : List UInt8} (hf : Lays f p b) (h : p → q) : Lays f q b := fun S hS => by
  obtain ⟨h1, h2, h3⟩ := hf S hS; exact ⟨h1, h h2, h3⟩
theorem lays_lay (m : List UInt8) : Lays (fun S => S.lay m) True m := fun S h => by
  simp only [WS.lay] at h ⊢
  by_cases h0 : S.fault = 0
  · rw [if_pos h0] at h ⊢
    by_cases h1 : m.length + S.data.length > 65536
    · rw [if_pos h1] at h; simp at h
    · rw [if_neg h1]; exact ⟨h0, trivial, rfl⟩
  · rw [if_neg h0] at h; exact absurd h h0
theorem fail_not (S : WS) (e : Int) (he : e ≠ 0) : (S.fail e).fault ≠ 0 := by
  unfold WS.fail; split
  · exact he
  · assumption
theorem lays_count (n : Int) : Lays (fun S => S.count n) (0 ≤ n ∧ n ≤ 4294967295) (low n.toNat 4) := fun S h => by
  simp only [WS.count] at h ⊢
  by_cases hn : n < 0 ∨ n > 4294967295
  · rw [if_pos hn] at h; exact absurd h (fail_not S 1 (by decide))
  · rw [if_neg hn] at h ⊢
    obtain ⟨h1, _, h3⟩ := lays_lay (low n.toNat 4) S h
    exact ⟨h1, by omega, h3⟩
theorem lays_text (s : List UInt8) : Lays (fun S => S.text s) (s.length ≤ 4294967295) (bText s) := by
  have := (lays_count (s.length : Int)).then (lays_lay s)
  exact this.ok fun h => by omega
theorem lays_int (n : Int) : Lays (fun S => S.int n) True (enc8 n) := lays_lay _
theorem lays_byte (n : Nat) : Lays (fun S => S.byte n) True (low n 1) := lays_lay _
theorem lays_fold {α : Type} {f : WS → α → WS} {ok : α → Prop} {b : α → List UInt8} (hf : ∀ x, Lays (fun S => f S x) (ok x) (b x)) : ∀ l : List α, Lays (fun S => l.foldl f S) (∀ x ∈ l, ok x) (l.flatMap b)
  | [] => fun S h => ⟨h, by simp, by simp⟩
  | x :: l => by
    have := (hf x).then (lays_fold hf l)
    refine (show Lays (fun S => (x :: l).foldl f S) (ok x ∧ ∀ y ∈ l, ok y) (b x ++ l.flatMap b) from this).ok fun h => ?_
    intro y hy
    rcases List.mem_cons.1 hy with rfl | hy
    · exact h.1
    · exact h.2 y hy
theorem lays_row {α : Type} {f : WS → α → WS} {ok : α → Prop} {b : α → List UInt8} (hf : ∀ x, Lays (fun S => f S x) (ok x) (b x)) (l : List α) : Lays (fun S => S.row f l) (l.length ≤ 4294967295 ∧ ∀ x ∈ l, ok x) (bRow b l) := by
  have := (lays_count (l.length : Int)).then (lays_fold hf l)
  exact (show Lays (fun S => S.row f l) _ (bRow b l) from this).ok fun h => ⟨by omega, h.2⟩
def okText (s : List UInt8) : Prop := s.length ≤ 4294967295
def okCell (c : CellP) : Prop := c.may = true ∧ okText c.text
theorem lays_cell (c : CellP) : Lays (fun S => S.cell c) (okCell c) (bCell c) := fun S h => by
  simp only [WS.cell] at h ⊢
  cases hm : c.may with
  | false => rw [hm] at h; exact absurd h (fail_not S 1 (by decide))
  | true =>
    rw [hm] at h
    simp only [if_true] at h ⊢
    have hk := may_kind hm
    by_cases h1 : c.kind = 1
    · rw [if_pos h1] at h ⊢
      obtain ⟨q1, _, q3⟩ := ((lays_byte 1).then (lays_int c.int)) S h
      have ht : c.text = [] := by
        unfold CellP.may at hm; rw [h1] at hm; simpa using hm
      exact ⟨q1, ⟨hm, by unfold okText; rw [ht]; simp⟩, by unfold bCell; rw [if_pos h1]; exact q3⟩
    · rw [if_neg h1] at h ⊢
      by_cases h2 : c.kind = 2
      · rw [if_pos h2] at h ⊢
        obtain ⟨q1, q2, q3⟩ := ((lays_byte 2).then (lays_text c.text)) S h
        exact ⟨q1, ⟨hm, q2.2⟩, by unfold bCell; rw [if_neg h1, if_pos h2]; exact q3⟩
      · rw [if_neg h2] at h ⊢
        obtain ⟨q1, _, q3⟩ := (lays_byte 0) S h
        have h0 : c.kind = 0 := by omega
        have ht : c.text = [] := by
          unfold CellP.may at hm; rw [h0] at hm; simp at hm; exact hm.2
        exact ⟨q1, ⟨hm, by unfold okText; rw [ht]; simp⟩, by unfold bCell; rw [if_neg h1, if_neg h2]; exact q3⟩
def okTexts (l : List (List UInt8)) : Prop := l.length ≤ 4294967295 ∧ ∀ s ∈ l, okText s
def okFact (f : FactP) : Prop := okTexts f.dims ∧ f.meas.length ≤ 4294967295
theorem lays_fact (f : FactP) : Lays (fun S => S.fact f) (okFact f) (bFact f) :=
  (show Lays (fun S => S.fact f) _ (bFact f) from (lays_row lays_text f.dims).then (lays_row lays_int f.meas)).ok fun h => ⟨h.1, h.2.1⟩
def okThing (t : ThingP) : Prop :=
  if t.kind = 0 then True else if t.kind = 1 then True else if t.kind = 2 then 0 ≤ t.n ∧ t.n ≤ 4294967295 else if t.kind = 3 then okText t.s
  else if t.kind = 4 then okTexts t.l else if t.kind = 5 then okCell (one t.cells) else if t.kind = 6 then t.cells.length ≤ 4294967295 ∧ ∀ c ∈ t.cells, okCell c else if t.kind = 7 then okFact (any t.facts)
  else if t.kind = 8 then t.facts.length ≤ 4294967295 ∧ ∀ f ∈ t.facts, okFact f else okTexts t.l ∧ okTexts t.meas
theorem lays_thing (t : ThingP) : Lays (fun S => S.thing t) (okThing t) (bThing t) := by
  unfold WS.thing okThing bThing
  split
  · exact lays_byte _
  split
  · exact lays_int _
  split
  · exact lays_count _
  split
  · exact lays_text _
  split
  · exact lays_row lays_text _
  split
  · exact lays_cell _
  split
  · exact lays_row lays_cell _
  split
  · exact lays_fact _
  split
  · exact lays_row lays_fact _
  · exact (lays_row lays_text t.l).then (lays_row lays_text t.meas)
theorem lays_things (ts : List ThingP) : Lays (fun S => ts.foldl WS.thing S) (∀ t ∈ ts, okThing t) (ts.flatMap bThing) := lays_fold lays_thing ts

/-! ### taken up -/
/-- b says x, and cut short it ends short. -/
structure Dec {α : Type} (f : RS → α × RS) (x : α) (b : List UInt8) : Prop where
  all : ∀ R, f ⟨b ++ R, 0⟩ = (x, ⟨R, 0⟩)
  cut : ∀ m, m < b.length → (f ⟨b.take m, 0⟩).2 = ⟨[], 20⟩
  stop : Stops f
theorem dec_take (n : Nat) (b : List UInt8) (hb : b.length = n) : Dec (fun S => S.take n) b b := by
  refine ⟨fun R => ?_, fun m hm => ?_, take_stops n⟩
  · show RS.take ⟨b ++ R, 0⟩ n = _
    unfold RS.take
    rw [if_pos rfl, if_neg (by simp; omega)]
    simp [← hb]
  · show (RS.take ⟨b.take m, 0⟩ n).2 = _
    unfold RS.take
    rw [if_pos rfl, if_pos (by simp; omega)]
/-- one behind the other -/
theorem Dec.then {α β γ : Type} {f : RS → α × RS} {g : RS → β × RS} {x : α} {y : β} {a b : List UInt8} (hf : Dec f x a) (hg : Dec g y b) {h : RS → γ × RS} {z : γ}
    (h2 : ∀ S, (h S).2 = (g (f S).2).2) (h1 : ∀ S, (f S).1 = x → (g (f S).2).1 = y → (g (f S).2).2.fault = 0 → (h S).1 = z) : Dec h z (a ++ b) := by
  refine ⟨fun R => ?_, fun m hm => ?_, fun S hS => ?_⟩
  · have e1 := hf.all (b ++ R)
    have e2 := hg.all R
    rw [← List.append_assoc] at e1
    have e3 := h2 ⟨a ++ b ++ R, 0⟩
    rw [e1] at e3
    simp only [e2] at e3
    refine Prod.ext (h1 _ (by rw [e1]) (by rw [e1]; simp only [e2]) (by rw [e1]; simp only [e2])) e3
  · rw [h2]
    by_cases hm1 : m < a.length
    · have e : (a ++ b).take m = a.take m := by rw [List.take_append_of_le_length (by omega)]
      rw [e, hf.cut m hm1]
      exact hg.stop _ (by decide)
    · have e : (a ++ b).take m = a ++ b.take (m - a.length) := by rw [List.take_append, List.take_of_length_le (by omega)]
      rw [e, hf.all]
      exact hg.cut _ (by rw [List.length_append] at hm; omega)
  · rw [h2, hf.stop S hS, hg.stop S hS]
end Go.Proofs.Ytjhjcdfhfjeogaa
