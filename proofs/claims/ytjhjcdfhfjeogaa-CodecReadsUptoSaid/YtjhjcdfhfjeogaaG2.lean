/- Plain: each kind of thing is taken up as it was laid down. -/
import Derived.Test.YtjhjcdfhfjeogaaG1
namespace Go.Proofs.Ytjhjcdfhfjeogaa
open Go.RowKit Go.Maps
set_option linter.unusedVariables false

theorem Dec.map {α β : Type} {f : RS → α × RS} {x : α} {b : List UInt8} (hf : Dec f x b) {h : RS → β × RS} (φ : α → β) (h2 : ∀ S, (h S).2 = (f S).2) (h1 : ∀ S, (f S).2.fault = 0 → (h S).1 = φ (f S).1) : Dec h (φ x) b := by
  refine ⟨fun R => ?_, fun m hm => by rw [h2]; exact hf.cut m hm, fun S hS => by rw [h2]; exact hf.stop S hS⟩
  have e := hf.all R
  exact Prod.ext (by rw [h1 _ (by rw [e]), e]) (by rw [h2, e])
/-- one behind the other, the second by what the first told -/
theorem Dec.bind {α β γ : Type} {f : RS → α × RS} {g : RS → β × RS} {x : α} {y : β} {a b : List UInt8} (hf : Dec f x a) (hg : Dec g y b) {h : RS → γ × RS} {z : γ}
    (h3 : ∀ S, (f S).2.fault ≠ 0 → (h S).2 = (f S).2) (h2 : ∀ S, (f S).1 = x → (f S).2.fault = 0 → (h S).2 = (g (f S).2).2) (h1 : ∀ S, (f S).1 = x → (g (f S).2).1 = y → (g (f S).2).2.fault = 0 → (h S).1 = z) : Dec h z (a ++ b) := by
  refine ⟨fun R => ?_, fun m hm => ?_, fun S hS => by rw [h3 S (by rw [hf.stop S hS]; exact hS), hf.stop S hS]⟩
  · have e1 := hf.all (b ++ R)
    have e2 := hg.all R
    rw [← List.append_assoc] at e1
    have e3 := h2 ⟨a ++ b ++ R, 0⟩ (by rw [e1]) (by rw [e1])
    rw [e1] at e3
    simp only [e2] at e3
    exact Prod.ext (h1 _ (by rw [e1]) (by rw [e1]; simp only [e2]) (by rw [e1]; simp only [e2])) e3
  · by_cases hm1 : m < a.length
    · have e : (a ++ b).take m = a.take m := by rw [List.take_append_of_le_length (by omega)]
      have hc := hf.cut m hm1
      rw [e, h3 _ (by rw [hc]; decide), hc]
    · have e : (a ++ b).take m = a ++ b.take (m - a.length) := by rw [List.take_append, List.take_of_length_le (by omega)]
      have hc := hf.all (b.take (m - a.length))
      rw [e, h2 _ (by rw [hc]) (by rw [hc]), hc]
      exact hg.cut _ (by rw [List.length_append] at hm; omega)

theorem dec_byte (b : Nat) (hb : b < 256) : Dec RS.byte b (low b 1) := by
  have := (dec_take 1 (low b 1) (low_len 1 b)).map (h := RS.byte) num (fun S => rfl) (fun S _ => rfl)
  rwa [num_low_of (by omega)] at this
theorem dec_int (n : Int) (hn : i64 n) : Dec RS.int n (enc8 n) := by
  have := (dec_take 8 (enc8 n) (low_len 8 _)).map (h := RS.int) (fun b => IntKind.i64.wrap (num b : Nat)) (fun S => rfl) (fun S _ => rfl)
  have e : IntKind.i64.wrap ((num (enc8 n) : Nat) : Int) = n := by
    unfold enc8
    rw [num_low_of (by omega), IntKind.wrap_i64]
    unfold i64 at hn; omega
  rwa [e] at this
theorem dec_count (n : Int) (h0 : 0 ≤ n) (h1 : n ≤ 4294967295) : Dec (fun S => S.count n) n.toNat (low n.toNat 4) := by
  have hd := dec_take 4 (low n.toNat 4) (low_len 4 _)
  have hnum : num (low n.toNat 4) = n.toNat := num_low_of (by omega)
  refine ⟨fun R => ?_, fun m hm => ?_, fun S hS => by show (S.count n).2 = S; rw [count_stop hS]⟩
  · show RS.count ⟨low n.toNat 4 ++ R, 0⟩ n = _
    have e := hd.all R
    unfold RS.count
    rw [e]
    simp only [hnum]
    rw [if_neg (by omega), if_pos trivial]
  · show (RS.count ⟨(low n.toNat 4).take m, 0⟩ n).2 = _
    have e := hd.cut m hm
    unfold RS.count
    have e1 : (RS.take ⟨(low n.toNat 4).take m, 0⟩ 4).1 = [] := by
      unfold RS.take
      rw [if_pos rfl, if_pos (by rw [low_len] at hm; simp only [List.length_take, low_len]; omega)]
    have hz : ¬ ((num [] : Nat) : Int) > n := by show ¬ ((0 : Nat) : Int) > n; omega
    rw [e, e1, if_neg hz]

/-! ### many -/
theorem many_all (n k : Nat) (R : List UInt8) (hn : n ≤ 4294967295) (hR : n ≤ R.length / k) : RS.many ⟨low n 4 ++ R, 0⟩ k = (n, ⟨R, 0⟩) := by
  have e := (dec_take 4 (low n 4) (low_len 4 _)).all R
  unfold RS.many
  rw [e]
  simp only [num_low_of (show n < 256 ^ 4 by omega)]
  rw [if_neg (by omega)]
theorem many_few (n k : Nat) (R : List UInt8) (hn : n ≤ 4294967295) (hR : R.length / k < n) : RS.many ⟨low n 4 ++ R, 0⟩ k = (0, ⟨[], 20⟩) := by
  have e := (dec_take 4 (low n 4) (low_len 4 _)).all R
  unfold RS.many
  rw [e]
  simp only [num_low_of (show n < 256 ^ 4 by omega)]
  rw [if_pos (by omega)]
  rfl
theorem many_short (b : List UInt8) (k m : Nat) (hb : b.length = 4) (hm : m < 4) (hk : 0 < k) : RS.many ⟨b.take m, 0⟩ k = (0, ⟨[], 20⟩) := by
  have e : RS.take ⟨b.take m, 0⟩ 4 = ([], ⟨[], 20⟩) := by
    unfold RS.take
    rw [if_pos rfl, if_pos (by simp only [List.length_take]; omega)]
  unfold RS.many
  rw [e]
  simp [num]

/-! ### text -/
theorem dec_text (s : List UInt8) (h : okText s) : Dec RS.text s (bText s) := by
  unfold okText at h
  refine ⟨fun R => ?_, fun m hm => ?_, text_stops⟩
  · unfold RS.text bText
    rw [List.append_assoc, many_all _ 1 _ h (by simp)]
    exact (dec_take s.length s rfl).all R
  · unfold RS.text
    unfold bText at hm ⊢
    rw [List.length_append, low_len] at hm
    by_cases h4 : m < 4
    · have e : (low s.length 4 ++ s).take m = (low s.length 4).take m := List.take_append_of_le_length (by rw [low_len]; omega)
      rw [e, many_short _ 1 m (low_len 4 _) h4 (by omega)]
      rfl
    · have e : (low s.length 4 ++ s).take m = low s.length 4 ++ s.take (m - 4) := by rw [List.take_append, low_len, List.take_of_length_le (by rw [low_len]; omega)]
      rw [e, many_few _ 1 _ h (by simp only [List.length_take]; omega)]
      rfl

/-! ### several -/
theorem seq_front {α : Type} (f : RS → α × RS) : ∀ (j : Nat) (S : RS), seq f (j + 1) S = ((f S).1 :: (seq f j (f S).2).1, (seq f j (f S).2).2)
  | 0, S => rfl
  | j + 1, S => by
    have ih := seq_front f j S
    have e : seq f (j + 1 + 1) S = ((seq f (j + 1) S).1 ++ [(f (seq f (j + 1) S).2).1], (f (seq f (j + 1) S).2).2) := rfl
    rw [e, ih]
    rfl
theorem seq_stopped {α : Type} {f : RS → α × RS} (hf : Stops f) (S : RS) (h : S.fault ≠ 0) : ∀ n, (seq f n S).2 = S
  | 0 => rfl
  | n + 1 => by
    show (f (seq f n S).2).2 = S
    rw [seq_stopped hf S h n]; exact hf S h
section
variable {α : Type} {f : RS → α × RS} {b : α → List UInt8}
theorem seq_all (hst : Stops f) : ∀ (l : List α) (R : List UInt8), (∀ x ∈ l, Dec f x (b x)) → seq f l.length ⟨l.flatMap b ++ R, 0⟩ = (l, ⟨R, 0⟩)
  | [], R, _ => by simp [seq]
  | x :: l, R, h => by
    have e := (h x (by simp)).all (l.flatMap b ++ R)
    have ih := seq_all hst l R fun y hy => h y (by simp [hy])
    rw [List.length_cons, seq_front, List.flatMap_cons, List.append_assoc, e]
    simp only [ih]
theorem seq_cut (hst : Stops f) : ∀ (l : List α) (m : Nat), (∀ x ∈ l, Dec f x (b x)) → m < (l.flatMap b).length → (seq f l.length ⟨(l.flatMap b).take m, 0⟩).2 = ⟨[], 20⟩
  | [], m, _, hm => by simp at hm
  | x :: l, m, h, hm => by
    rw [List.length_cons, seq_front, List.flatMap_cons]
    rw [List.flatMap_cons, List.length_append] at hm
    by_cases hm1 : m < (b x).length
    · have e : (b x ++ l.flatMap b).take m = (b x).take m := List.take_append_of_le_length (by omega)
      rw [e, (h x (by simp)).cut m hm1]
      exact seq_stopped hst _ (by decide) _
    · have e : (b x ++ l.flatMap b).take m = b x ++ (l.flatMap b).take (m - (b x).length) := by rw [List.take_append, List.take_of_length_le (by omega)]
      rw [e, (h x (by simp)).all]
      exact seq_cut hst l _ (fun y hy => h y (by simp [hy])) (by omega)
theorem flat_len (k : Nat) : ∀ (l : List α), (∀ x ∈ l, k ≤ (b x).length) → l.length * k ≤ (l.flatMap b).length
  | [], _ => by simp
  | x :: l, h => by
    have h1 := h x (by simp)
    have h2 := flat_len k l fun y hy => h y (by simp [hy])
    rw [List.length_cons, List.flatMap_cons, List.length_append, Nat.add_mul]
    omega
theorem dec_several (hst : Stops f) (k : Nat) (hk : 0 < k) (l : List α) (hl : l.length ≤ 4294967295) (hd : ∀ x ∈ l, Dec f x (b x)) (hb : ∀ x ∈ l, k ≤ (b x).length) : Dec (fun S => S.several f k) l (bRow b l) := by
  refine ⟨fun R => ?_, fun m hm => ?_, several_stops hst k⟩
  · have hq : l.length ≤ (l.flatMap b ++ R).length / k := by
      rw [Nat.le_div_iff_mul_le hk, List.length_append]
      have := flat_len k l hb
      omega
    show RS.several f ⟨bRow b l ++ R, 0⟩ k = _
    unfold RS.several bRow
    rw [List.append_assoc, many_all _ k _ hl hq, seq_all hst l R hd]
    rfl
  · show (RS.several f ⟨(bRow b l).take m, 0⟩ k).2 = _
    unfold bRow at hm ⊢
    rw [List.length_append, low_len] at hm
    by_cases h4 : m < 4
    · have e : (low l.length 4 ++ l.flatMap b).take m = (low l.length 4).take m := List.take_append_of_le_length (by rw [low_len]; omega)
      unfold RS.several
      rw [e, many_short _ k m (low_len 4 _) h4 hk]
      rfl
    · have e : (low l.length 4 ++ l.flatMap b).take m = low l.length 4 ++ (l.flatMap b).take (m - 4) := by rw [List.take_append, low_len, List.take_of_length_le (by rw [low_len]; omega)]
      unfold RS.several
      rw [e]
      by_cases hq : ((l.flatMap b).take (m - 4)).length / k < l.length
      · rw [many_few _ k _ hl hq]; rfl
      · rw [many_all _ k _ hl (by omega)]
        exact seq_cut hst l _ hd (by omega)
end
theorem text_len (s : List UInt8) : 4 ≤ (bText s).length := by unfold bText; rw [List.length_append, low_len]; omega
theorem dec_texts (l : List (List UInt8)) (h : okTexts l) : Dec RS.texts l (bRow bText l) :=
  dec_several text_stops 4 (by omega) l h.1 (fun x hx => dec_text x (h.2 x hx)) fun x _ => text_len x
theorem dec_ints (l : List Int) (h : l.length ≤ 4294967295) (hi : ∀ n ∈ l, i64 n) : Dec RS.ints l (bRow enc8 l) :=
  dec_several int_stops 8 (by omega) l h (fun x hx => dec_int x (hi x hx)) fun x _ => by unfold enc8; rw [low_len]; omega
theorem texts_stops : Stops RS.texts := several_stops text_stops 4
theorem ints_stops : Stops RS.ints := several_stops int_stops 8

/-! ### cell -/
theorem cell_all (S : RS) : S.cell.2 = (S.byte.2.cellV S.byte.1).2 := rfl
theorem cell_one (S : RS) (h : S.cell.2.fault = 0) : S.cell.1 = (S.byte.2.cellV S.byte.1).1 := by
  have h' : (S.byte.2.cellV S.byte.1).2.fault = 0 := h
  show (if (S.byte.2.cellV S.byte.1).2.fault = 0 then _ else _) = _
  rw [if_pos h']
theorem cellV_stop {S : RS} (h : S.fault ≠ 0) (k : Nat) : (S.cellV k).2 = S := by
  unfold RS.cellV
  split
  · rfl
  split
  · exact int_stops S h
  split
  · exact text_stops S h
  · exact fail_stops h 22
theorem dec_cell (c : CellP) (h : okCell c) (hi : i64 c.int) : Dec RS.cell c (bCell c) := by
  obtain ⟨k, n, t⟩ := c
  obtain ⟨hm, ht⟩ := h
  have h3 : ∀ S : RS, S.byte.2.fault ≠ 0 → S.cell.2 = S.byte.2 := fun S hS => cellV_stop hS _
  rcases may_kind hm with e | e | e <;> (obtain rfl : k = _ := e)
  · have hn : n = 0 ∧ t = [] := by unfold CellP.may at hm; simpa using hm
    obtain ⟨rfl, rfl⟩ := hn
    have hd := dec_byte 0 (by omega)
    refine ⟨fun R => ?_, fun m hm' => ?_, cell_stops⟩
    · have e := hd.all R
      have e2 : (RS.cell ⟨low 0 1 ++ R, 0⟩).2 = ⟨R, 0⟩ := by rw [cell_all, e]; rfl
      exact Prod.ext (by show (RS.cell ⟨low 0 1 ++ R, 0⟩).1 = _; rw [cell_one _ (by rw [e2]), e]; rfl) e2
    · have e := hd.cut m hm'
      show (RS.cell ⟨(low 0 1).take m, 0⟩).2 = _
      rw [h3 _ (by rw [e]; decide), e]
  · have hn : t = [] := by unfold CellP.may at hm; simpa using hm
    subst hn
    exact (dec_byte 1 (by omega)).bind (dec_int n hi) h3 (fun S h1 _ => by rw [cell_all, h1]; rfl) (fun S h1 h2 h4 => by
      rw [cell_one _ (by rw [cell_all, h1]; exact h4), h1]
      show (⟨1, S.byte.2.int.1, []⟩ : CellP) = _
      rw [h2])
  · have hn : n = 0 := by unfold CellP.may at hm; simpa using hm
    subst hn
    exact (dec_byte 2 (by omega)).bind (dec_text t ht) h3 (fun S h1 _ => by rw [cell_all, h1]; rfl) (fun S h1 h2 h4 => by
      rw [cell_one _ (by rw [cell_all, h1]; exact h4), h1]
      show (⟨2, 0, S.byte.2.text.1⟩ : CellP) = _
      rw [h2])
theorem cell_len (c : CellP) : 1 ≤ (bCell c).length := by
  unfold bCell
  split
  · rw [List.length_append, low_len]; omega
  split
  · rw [List.length_append, low_len]; omega
  · rw [low_len]; omega
theorem dec_cells (l : List CellP) (h : l.length ≤ 4294967295 ∧ ∀ c ∈ l, okCell c) (hi : ∀ c ∈ l, i64 c.int) : Dec RS.cells l (bRow bCell l) :=
  dec_several cell_stops 1 (by omega) l h.1 (fun x hx => dec_cell x (h.2 x hx) (hi x hx)) fun x _ => cell_len x

/-! ### fact, facts, schema -/
theorem dec_fact (f : FactP) (h : okFact f) (hi : ∀ n ∈ f.meas, i64 n) : Dec RS.fact f (bFact f) := by
  refine (dec_texts f.dims h.1).bind (dec_ints f.meas h.2 hi) (fun S hS => ints_stops _ hS) (fun S _ _ => rfl) (fun S h1 h2 h3 => ?_)
  show (if S.texts.2.ints.2.fault = 0 then (⟨S.texts.1, S.texts.2.ints.1⟩ : FactP) else FactP.zero) = f
  rw [if_pos h3, h1, h2]
theorem row_len {α : Type} (b : α → List UInt8) (l : List α) : 4 ≤ (bRow b l).length := by unfold bRow; rw [List.length_append, low_len]; omega
theorem fact_len (f : FactP) : 8 ≤ (bFact f).length := by
  have h1 := row_len bText f.dims
  have h2 := row_len enc8 f.meas
  unfold bFact; rw [List.length_append]; omega
theorem dec_facts (l : List FactP) (h : l.length ≤ 4294967295 ∧ ∀ f ∈ l, okFact f) (hi : ∀ f ∈ l, ∀ n ∈ f.meas, i64 n) : Dec RS.facts l (bRow bFact l) :=
  dec_several fact_stops 8 (by omega) l h.1 (fun x hx => dec_fact x (h.2 x hx) (hi x hx)) fun x _ => fact_len x
theorem dec_schema (d m : List (List UInt8)) (hd : okTexts d) (hm : okTexts m) : Dec RS.schema (d, m) (bRow bText d ++ bRow bText m) := by
  refine (dec_texts d hd).bind (dec_texts m hm) (fun S hS => texts_stops _ hS) (fun S _ _ => rfl) (fun S h1 h2 h3 => ?_)
  show (if S.texts.2.texts.2.fault = 0 then (S.texts.1, S.texts.2.texts.1) else ([], [])) = (d, m)
  rw [if_pos h3, h1, h2]

/-! ### things -/
/-- what a thing is, of its kind alone -/
def normal (t : ThingP) : ThingP :=
  if t.kind = 0 then ⟨t.kind, t.n % 256, [], [], [], [], []⟩ else if t.kind = 1 then ⟨t.kind, t.n, [], [], [], [], []⟩
  else if t.kind = 2 then ⟨t.kind, t.n, [], [], [], [], []⟩ else if t.kind = 3 then ⟨t.kind, 0, t.s, [], [], [], []⟩
  else if t.kind = 4 then ⟨t.kind, 0, [], t.l, [], [], []⟩ else if t.kind = 5 then ⟨t.kind, 0, [], [], [one t.cells], [], []⟩
  else if t.kind = 6 then ⟨t.kind, 0, [], [], t.cells, [], []⟩ else if t.kind = 7 then ⟨t.kind, 0, [], [], [], [any t.facts], []⟩
  else if t.kind = 8 then ⟨t.kind, 0, [], [], [], t.facts, []⟩ else ⟨t.kind, 0, [], t.l, [], [], t.meas⟩
/-- all its numbers are int64s -/
structure Nums (t : ThingP) : Prop where
  n : i64 t.n
  c : ∀ c ∈ t.cells, i64 c.int
  o : i64 (one t.cells).int
  f : ∀ f ∈ t.facts, ∀ n ∈ f.meas, i64 n
  a : ∀ n ∈ (any t.facts).meas, i64 n
theorem dec_thing (t : ThingP) (h : okThing t) (hn : Nums t) : Dec (fun S => S.thing t) (normal t) (bThing t) := by
  unfold okThing at h
  by_cases h0 : t.kind = 0
  · simp only [RS.thing, normal, bThing, if_pos h0]
    have := (dec_byte (t.n % 256).toNat (by omega)).map (h := fun S => ((⟨t.kind, (S.byte.1 : Nat), [], [], [], [], []⟩ : ThingP), S.byte.2)) (fun b => ⟨t.kind, (b : Nat), [], [], [], [], []⟩) (fun S => rfl) (fun S _ => rfl)
    rwa [show (((t.n % 256).toNat : Nat) : Int) = t.n % 256 by omega] at this
  rw [if_neg h0] at h
  by_cases h1 : t.kind = 1
  · simp only [RS.thing, normal, bThing, if_neg h0, if_pos h1]
    exact (dec_int t.n hn.n).map (fun n => (⟨t.kind, n, [], [], [], [], []⟩ : ThingP)) (fun S => rfl) (fun S _ => rfl)
  rw [if_neg h1] at h
  by_cases h2 : t.kind = 2
  · rw [if_pos h2] at h
    simp only [RS.thing, normal, bThing, if_neg h0, if_neg h1, if_pos h2]
    have := (dec_count t.n h.1 h.2).map (h := fun S => ((⟨t.kind, ((S.count t.n).1 : Nat), [], [], [], [], []⟩ : ThingP), (S.count t.n).2)) (fun b => ⟨t.kind, (b : Nat), [], [], [], [], []⟩) (fun S => rfl) (fun S _ => rfl)
    rwa [show ((t.n.toNat : Nat) : Int) = t.n by omega] at this
  rw [if_neg h2] at h
  by_cases h3 : t.kind = 3
  · rw [if_pos h3] at h
    simp only [RS.thing, normal, bThing, if_neg h0, if_neg h1, if_neg h2, if_pos h3]
    exact (dec_text t.s h).map (fun s => (⟨t.kind, 0, s, [], [], [], []⟩ : ThingP)) (fun S => rfl) (fun S _ => rfl)
  rw [if_neg h3] at h
  by_cases h4 : t.kind = 4
  · rw [if_pos h4] at h
    simp only [RS.thing, normal, bThing, if_neg h0, if_neg h1, if_neg h2, if_neg h3, if_pos h4]
    exact (dec_texts t.l h).map (fun l => (⟨t.kind, 0, [], l, [], [], []⟩ : ThingP)) (fun S => rfl) (fun S _ => rfl)
  rw [if_neg h4] at h
  by_cases h5 : t.kind = 5
  · rw [if_pos h5] at h
    simp only [RS.thing, normal, bThing, if_neg h0, if_neg h1, if_neg h2, if_neg h3, if_neg h4, if_pos h5]
    exact (dec_cell _ h hn.o).map (fun c => (⟨t.kind, 0, [], [], [c], [], []⟩ : ThingP)) (fun S => rfl) (fun S _ => rfl)
  rw [if_neg h5] at h
  by_cases h6 : t.kind = 6
  · rw [if_pos h6] at h
    simp only [RS.thing, normal, bThing, if_neg h0, if_neg h1, if_neg h2, if_neg h3, if_neg h4, if_neg h5, if_pos h6]
    exact (dec_cells t.cells h hn.c).map (fun l => (⟨t.kind, 0, [], [], l, [], []⟩ : ThingP)) (fun S => rfl) (fun S _ => rfl)
  rw [if_neg h6] at h
  by_cases h7 : t.kind = 7
  · rw [if_pos h7] at h
    simp only [RS.thing, normal, bThing, if_neg h0, if_neg h1, if_neg h2, if_neg h3, if_neg h4, if_neg h5, if_neg h6, if_pos h7]
    exact (dec_fact _ h hn.a).map (fun f => (⟨t.kind, 0, [], [], [], [f], []⟩ : ThingP)) (fun S => rfl) (fun S _ => rfl)
  rw [if_neg h7] at h
  by_cases h8 : t.kind = 8
  · rw [if_pos h8] at h
    simp only [RS.thing, normal, bThing, if_neg h0, if_neg h1, if_neg h2, if_neg h3, if_neg h4, if_neg h5, if_neg h6, if_neg h7, if_pos h8]
    exact (dec_facts t.facts h hn.f).map (fun l => (⟨t.kind, 0, [], [], [], l, []⟩ : ThingP)) (fun S => rfl) (fun S _ => rfl)
  rw [if_neg h8] at h
  simp only [RS.thing, normal, bThing, if_neg h0, if_neg h1, if_neg h2, if_neg h3, if_neg h4, if_neg h5, if_neg h6, if_neg h7, if_neg h8]
  exact (dec_schema t.l t.meas h.1 h.2).map (fun q => (⟨t.kind, 0, [], q.1, [], [], q.2⟩ : ThingP)) (fun S => rfl) (fun S _ => rfl)
theorem thing_stops (t : ThingP) : Stops fun S => S.thing t := fun S h => (thing_stop h t).2
end Go.Proofs.Ytjhjcdfhfjeogaa
