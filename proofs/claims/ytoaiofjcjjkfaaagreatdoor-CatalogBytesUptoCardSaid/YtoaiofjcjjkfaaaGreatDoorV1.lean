/- Plain: each kind of thing is taken up as it was laid down. -/
import Derived.Test.YtoaiofjcjjkfaaaGreatDoorM4
import Derived.Test.YtoaiofjcjjkfaaaGreatDoorQO
import Derived.Test.YtoaiofjcjjkfaaaGreatDoorM6
namespace Go.Proofs.YtoaiofjcjjkfaaaGreatDoor
open Go.RowKit Go.Maps
set_option linter.unusedVariables false

theorem count_stop {S : RS} (h : S.fault ≠ 0) (n : Int) : S.count n = (0, S) := by
  unfold RS.count; rw [show S.take 4 = ([], S) by unfold RS.take; rw [if_neg h]]
  simp only [fail_stops h, if_neg h, ite_self]
theorem Dec.map {α β : Type} {f : RS → α × RS} {x : α} {b : List UInt8} (hf : Dec f x b) {h : RS → β × RS} (φ : α → β) (h2 : ∀ S, (h S).2 = (f S).2) (h1 : ∀ S, (f S).2.fault = 0 → (h S).1 = φ (f S).1) : Dec h (φ x) b := by
  refine ⟨fun R => ?_, fun m hm => by rw [h2]; exact hf.cut m hm, fun S hS => by rw [h2]; exact hf.stop S hS⟩
  have e := hf.all R
  exact Prod.ext (by rw [h1 _ (by rw [e]), e]) (by rw [h2, e])
/-- one behind the other, the second by what the first told -/
theorem Dec.bind {α β γ : Type} {f : RS → α × RS} {g : RS → β × RS} {x : α} {y : β} {a b : List UInt8} (hf : Dec f x a) (hg : Dec g y b) {h : RS → γ × RS} {z : γ}
    (h3 : ∀ S, (f S).2.fault ≠ 0 → (h S).2 = (f S).2) (h2 : ∀ S, (f S).1 = x → (f S).2.fault = 0 → (h S).2 = (g (f S).2).2) (h1 : ∀ S, (f S).1 = x → (g (f S).2).1 = y → (g (f S).2).2.fault = 0 → (h S).1 = z) : Dec h z (a ++ b) := by
  refine ⟨fun R => ?_, fun m hm => ?_, fun S hS => by rw [h3 S (by rw [hf.stop S hS]; exact hS), hf.stop S hS]⟩
  · have e1 := hf.all (b ++ R)
    have e2 := hg.all R
    rw [← List.append_assoc] at e1
    have e3 := h2 ⟨a ++ b ++ R, 0⟩ (by rw [e1]) (by rw [e1])
    rw [e1] at e3
    simp only [e2] at e3
    exact Prod.ext (h1 _ (by rw [e1]) (by rw [e1]; simp only [e2]) (by rw [e1]; simp only [e2])) e3
  · by_cases hm1 : m < a.length
    · have e : (a ++ b).take m = a.take m := by rw [List.take_append_of_le_length (by omega)]
      have hc := hf.cut m hm1
      rw [e, h3 _ (by rw [hc]; decide), hc]
    · have e : (a ++ b).take m = a ++ b.take (m - a.length) := by rw [List.take_append, List.take_of_length_le (by omega)]
      have hc := hf.all (b.take (m - a.length))
      rw [e, h2 _ (by rw [hc]) (by rw [hc]), hc]
      exact hg.cut _ (by rw [List.length_append] at hm; omega)

theorem dec_byte (b : Nat) (hb : b < 256) : Dec RS.byte b (low b 1) := by
  have := (dec_take 1 (low b 1) (low_len 1 b)).map (h := RS.byte) num (fun S => rfl) (fun S _ => rfl)
  rwa [num_low_of (by omega)] at this
theorem dec_int (n : Int) (hn : i64 n) : Dec RS.int n (enc8 n) := by
  have := (dec_take 8 (enc8 n) (low_len 8 _)).map (h := RS.int) (fun b => IntKind.i64.wrap (num b : Nat)) (fun S => rfl) (fun S _ => rfl)
  have e : IntKind.i64.wrap ((num (enc8 n) : Nat) : Int) = n := by
    unfold enc8
    rw [num_low_of (by omega), IntKind.wrap_i64]
    unfold i64 at hn; omega
  rwa [e] at this
theorem dec_count (n : Int) (h0 : 0 ≤ n) (h1 : n ≤ 4294967295) : Dec (fun S => S.count n) n.toNat (low n.toNat 4) := by
  have hd := dec_take 4 (low n.toNat 4) (low_len 4 _)
  have hnum : num (low n.toNat 4) = n.toNat := num_low_of (by omega)
  refine ⟨fun R => ?_, fun m hm => ?_, fun S hS => by show (S.count n).2 = S; rw [count_stop hS]⟩
  · show RS.count ⟨low n.toNat 4 ++ R, 0⟩ n = _
    have e := hd.all R
    unfold RS.count
    rw [e]
    simp only [hnum]
    rw [if_neg (by omega), if_pos trivial]
  · show (RS.count ⟨(low n.toNat 4).take m, 0⟩ n).2 = _
    have e := hd.cut m hm
    unfold RS.count
    have e1 : (RS.take ⟨(low n.toNat 4).take m, 0⟩ 4).1 = [] := by
      unfold RS.take
      rw [if_pos rfl, if_pos (by rw [low_len] at hm; simp only [List.length_take, low_len]; omega)]
    have hz : ¬ ((num [] : Nat) : Int) > n := by show ¬ ((0 : Nat) : Int) > n; omega
    rw [e, e1, if_neg hz]

/-! ### many -/
theorem many_all (n k : Nat) (R : List UInt8) (hn : n ≤ 4294967295) (hR : n ≤ R.length / k) : RS.many ⟨low n 4 ++ R, 0⟩ k = (n, ⟨R, 0⟩) := by
  have e := (dec_take 4 (low n 4) (low_len 4 _)).all R
  unfold RS.many
  rw [e]
  simp only [num_low_of (show n < 256 ^ 4 by omega)]
  rw [if_neg (by omega)]
theorem many_few (n k : Nat) (R : List UInt8) (hn : n ≤ 4294967295) (hR : R.length / k < n) : RS.many ⟨low n 4 ++ R, 0⟩ k = (0, ⟨[], 20⟩) := by
  have e := (dec_take 4 (low n 4) (low_len 4 _)).all R
  unfold RS.many
  rw [e]
  simp only [num_low_of (show n < 256 ^ 4 by omega)]
  rw [if_pos (by omega)]
  rfl
theorem many_short (b : List UInt8) (k m : Nat) (hb : b.length = 4) (hm : m < 4) (hk : 0 < k) : RS.many ⟨b.take m, 0⟩ k = (0, ⟨[], 20⟩) := by
  have e : RS.take ⟨b.take m, 0⟩ 4 = ([], ⟨[], 20⟩) := by
    unfold RS.take
    rw [if_pos rfl, if_pos (by simp only [List.length_take]; omega)]
  unfold RS.many
  rw [e]
  simp [num]

/-! ### text -/
theorem dec_text (s : List UInt8) (h : okText s) : Dec RS.text s (bText s) := by
  unfold okText at h
  refine ⟨fun R => ?_, fun m hm => ?_, text_stops⟩
  · unfold RS.text bText
    rw [List.append_assoc, many_all _ 1 _ h (by simp)]
    exact (dec_take s.length s rfl).all R
  · unfold RS.text
    unfold bText at hm ⊢
    rw [List.length_append, low_len] at hm
    by_cases h4 : m < 4
    · have e : (low s.length 4 ++ s).take m = (low s.length 4).take m := List.take_append_of_le_length (by rw [low_len]; omega)
      rw [e, many_short _ 1 m (low_len 4 _) h4 (by omega)]
      rfl
    · have e : (low s.length 4 ++ s).take m = low s.length 4 ++ s.take (m - 4) := by rw [List.take_append, low_len, List.take_of_length_le (by rw [low_len]; omega)]
      rw [e, many_few _ 1 _ h (by simp only [List.length_take]; omega)]
      rfl

/-! ### several -/
theorem seq_front {α : Type} (f : RS → α × RS) : ∀ (j : Nat) (S : RS), seq f (j + 1) S = ((f S).1 :: (seq f j (f S).2).1, (seq f j (f S).2).2)
  | 0, S => rfl
  | j + 1, S => by
    have ih := seq_front f j S
    have e : seq f (j + 1 + 1) S = ((seq f (j + 1) S).1 ++ [(f (seq f (j + 1) S).2).1], (f (seq f (j + 1) S).2).2) := rfl
    rw [e, ih]
    rfl
theorem seq_stopped {α : Type} {f : RS → α × RS} (hf : Stops f) (S : RS) (h : S.fault ≠ 0) : ∀ n, (seq f n S).2 = S
  | 0 => rfl
  | n + 1 => by
    show (f (seq f n S).2).2 = S
    rw [seq_stopped hf S h n]; exact hf S h
section
variable {α : Type} {f : RS → α × RS} {b : α → List UInt8}
theorem seq_all (hst : Stops f) : ∀ (l : List α) (R : List UInt8), (∀ x ∈ l, Dec f x (b x)) → seq f l.length ⟨l.flatMap b ++ R, 0⟩ = (l, ⟨R, 0⟩)
  | [], R, _ => by simp [seq]
  | x :: l, R, h => by
    have e := (h x (by simp)).all (l.flatMap b ++ R)
    have ih := seq_all hst l R fun y hy => h y (by simp [hy])
    rw [List.length_cons, seq_front, List.flatMap_cons, List.append_assoc, e]
    simp only [ih]
theorem seq_cut (hst : Stops f) : ∀ (l : List α) (m : Nat), (∀ x ∈ l, Dec f x (b x)) → m < (l.flatMap b).length → (seq f l.length ⟨(l.flatMap b).take m, 0⟩).2 = ⟨[], 20⟩
  | [], m, _, hm => by simp at hm
  | x :: l, m, h, hm => by
    rw [List.length_cons, seq_front, List.flatMap_cons]
    rw [List.flatMap_cons, List.length_append] at hm
    by_cases hm1 : m < (b x).length
    · have e : (b x ++ l.flatMap b).take m = (b x).take m := List.take_append_of_le_length (by omega)
      rw [e, (h x (by simp)).cut m hm1]
      exact seq_stopped hst _ (by decide) _
    · have e : (b x ++ l.flatMap b).take m = b x ++ (l.flatMap b).take (m - (b x).length) := by rw [List.take_append, List.take_of_length_le (by omega)]
      rw [e, (h x (by simp)).all]
      exact seq_cut hst l _ (fun y hy => h y (by simp [hy])) (by omega)
theorem flat_len (k : Nat) : ∀ (l : List α), (∀ x ∈ l, k ≤ (b x).length) → l.length * k ≤ (l.flatMap b).length
  | [], _ => by simp
  | x :: l, h => by
    have h1 := h x (by simp)
    have h2 := flat_len k l fun y hy => h y (by simp [hy])
    rw [List.length_cons, List.flatMap_cons, List.length_append, Nat.add_mul]
    omega
theorem dec_several (hst : Stops f) (k : Nat) (hk : 0 < k) (l : List α) (hl : l.length ≤ 4294967295) (hd : ∀ x ∈ l, Dec f x (b x)) (hb : ∀ x ∈ l, k ≤ (b x).length) : Dec (fun S => S.several f k) l (bRow b l) := by
  refine ⟨fun R => ?_, fun m hm => ?_, several_stops hst k⟩
  · have hq : l.length ≤ (l.flatMap b ++ R).length / k := by
      rw [Nat.le_div_iff_mul_le hk, List.length_append]
      have := flat_len k l hb
      omega
    show RS.several f ⟨bRow b l ++ R, 0⟩ k = _
    unfold RS.several bRow
    rw [List.append_assoc, many_all _ k _ hl hq, seq_all hst l R hd]
    rfl
  · show (RS.several f ⟨(bRow b l).take m, 0⟩ k).2 = _
    unfold bRow at hm ⊢
    rw [List.length_append, low_len] at hm
    by_cases h4 : m < 4
    · have e : (low l.length 4 ++ l.flatMap b).take m = (low l.length 4).take m := List.take_append_of_le_length (by rw [low_len]; omega)
      unfold RS.several
      rw [e, many_short _ k m (low_len 4 _) h4 hk]
      rfl
    · have e : (low l.length 4 ++ l.flatMap b).take m = low l.length 4 ++ (l.flatMap b).take (m - 4) := by rw [List.take_append, low_len, List.take_of_length_le (by rw [low_len]; omega)]
      unfold RS.several
      rw [e]
      by_cases hq : ((l.flatMap b).take (m - 4)).length / k < l.length
      · rw [many_few _ k _ hl hq]; rfl
      · rw [many_all _ k _ hl (by omega)]
        exact seq_cut hst l _ hd (by omega)
end
theorem text_len (s : List UInt8) : 4 ≤ (bText s).length := by unfold bText; rw [List.length_append, low_len]; omega
theorem dec_texts (l : List (List UInt8)) (h : okTexts l) : Dec RS.texts l (bRow bText l) :=
  dec_several text_stops 4 (by omega) l h.1 (fun x hx => dec_text x (h.2 x hx)) fun x _ => text_len x
theorem dec_ints (l : List Int) (h : l.length ≤ 4294967295) (hi : ∀ n ∈ l, i64 n) : Dec RS.ints l (bRow enc8 l) :=
  dec_several int_stops 8 (by omega) l h (fun x hx => dec_int x (hi x hx)) fun x _ => by unfold enc8; rw [low_len]; omega
theorem texts_stops : Stops RS.texts := several_stops text_stops 4
theorem ints_stops : Stops RS.ints := several_stops int_stops 8

/-! ### cell -/
theorem cell_all (S : RS) : S.cell.2 = (S.byte.2.cellV S.byte.1).2 := rfl
theorem cell_one (S : RS) (h : S.cell.2.fault = 0) : S.cell.1 = (S.byte.2.cellV S.byte.1).1 := by
  have h' : (S.byte.2.cellV S.byte.1).2.fault = 0 := h
  show (if (S.byte.2.cellV S.byte.1).2.fault = 0 then _ else _) = _
  rw [if_pos h']
theorem cellV_stop {S : RS} (h : S.fault ≠ 0) (k : Nat) : (S.cellV k).2 = S := by
  unfold RS.cellV
  split
  · rfl
  split
  · exact int_stops S h
  split
  · exact text_stops S h
  · exact fail_stops h 22
theorem dec_cell (c : CellP) (h : okCell c) (hi : i64 c.int) : Dec RS.cell c (bCell c) := by
  obtain ⟨k, n, t⟩ := c
  obtain ⟨hm, ht⟩ := h
  have h3 : ∀ S : RS, S.byte.2.fault ≠ 0 → S.cell.2 = S.byte.2 := fun S hS => cellV_stop hS _
  rcases may_kind hm with e | e | e <;> (obtain rfl : k = _ := e)
  · have hn : n = 0 ∧ t = [] := by unfold CellP.may at hm; simpa using hm
    obtain ⟨rfl, rfl⟩ := hn
    have hd := dec_byte 0 (by omega)
    refine ⟨fun R => ?_, fun m hm' => ?_, cell_stops⟩
    · have e := hd.all R
      have e2 : (RS.cell ⟨low 0 1 ++ R, 0⟩).2 = ⟨R, 0⟩ := by rw [cell_all, e]; rfl
      exact Prod.ext (by show (RS.cell ⟨low 0 1 ++ R, 0⟩).1 = _; rw [cell_one _ (by rw [e2]), e]; rfl) e2
    · have e := hd.cut m hm'
      show (RS.cell ⟨(low 0 1).take m, 0⟩).2 = _
      rw [h3 _ (by rw [e]; decide), e]
  · have hn : t = [] := by unfold CellP.may at hm; simpa using hm
    subst hn
    exact (dec_byte 1 (by omega)).bind (dec_int n hi) h3 (fun S h1 _ => by rw [cell_all, h1]; rfl) (fun S h1 h2 h4 => by
      rw [cell_one _ (by rw [cell_all, h1]; exact h4), h1]
      show (⟨1, S.byte.2.int.1, []⟩ : CellP) = _
      rw [h2])
  · have hn : n = 0 := by unfold CellP.may at hm; simpa using hm
    subst hn
    exact (dec_byte 2 (by omega)).bind (dec_text t ht) h3 (fun S h1 _ => by rw [cell_all, h1]; rfl) (fun S h1 h2 h4 => by
      rw [cell_one _ (by rw [cell_all, h1]; exact h4), h1]
      show (⟨2, 0, S.byte.2.text.1⟩ : CellP) = _
      rw [h2])
theorem cell_len (c : CellP) : 1 ≤ (bCell c).length := by
  unfold bCell
  split
  · rw [List.length_append, low_len]; omega
  split
  · rw [List.length_append, low_len]; omega
  · rw [low_len]; omega
theorem dec_cells (l : List CellP) (h : l.length ≤ 4294967295 ∧ ∀ c ∈ l, okCell c) (hi : ∀ c ∈ l, i64 c.int) : Dec RS.cells l (bRow bCell l) :=
  dec_several cell_stops 1 (by omega) l h.1 (fun x hx => dec_cell x (h.2 x hx) (hi x hx)) fun x _ => cell_len x

/-! ### fact, facts, schema -/
theorem dec_fact (f : FactP) (h : okFact f) (hi : ∀ n ∈ f.meas, i64 n) : Dec RS.fact f (bFact f) := by
  refine (dec_texts f.dims h.1).bind (dec_ints f.meas h.2 hi) (fun S hS => ints_stops _ hS) (fun S _ _ => rfl) (fun S h1 h2 h3 => ?_)
  show (if S.texts.2.ints.2.fault = 0 then (⟨S.texts.1, S.texts.2.ints.1⟩ : FactP) else FactP.zero) = f
  rw [if_pos h3, h1, h2]
theorem row_len4 {α : Type} (b : α → List UInt8) (l : List α) : 4 ≤ (bRow b l).length := by unfold bRow; rw [List.length_append, low_len]; omega
theorem fact_len (f : FactP) : 8 ≤ (bFact f).length := by
  have h1 := row_len4 bText f.dims
  have h2 := row_len4 enc8 f.meas
  unfold bFact; rw [List.length_append]; omega
theorem dec_facts (l : List FactP) (h : l.length ≤ 4294967295 ∧ ∀ f ∈ l, okFact f) (hi : ∀ f ∈ l, ∀ n ∈ f.meas, i64 n) : Dec RS.facts l (bRow bFact l) :=
  dec_several fact_stops 8 (by omega) l h.1 (fun x hx => dec_fact x (h.2 x hx) (hi x hx)) fun x _ => fact_len x
theorem dec_schema (d m : List (List UInt8)) (hd : okTexts d) (hm : okTexts m) : Dec RS.schema (d, m) (bRow bText d ++ bRow bText m) := by
  refine (dec_texts d hd).bind (dec_texts m hm) (fun S hS => texts_stops _ hS) (fun S _ _ => rfl) (fun S h1 h2 h3 => ?_)
  show (if S.texts.2.texts.2.fault = 0 then (S.texts.1, S.texts.2.texts.1) else ([], [])) = (d, m)
  rw [if_pos h3, h1, h2]

end Go.Proofs.YtoaiofjcjjkfaaaGreatDoor
/- Read of Bytes is the checkpoint; the document's bytes are the same (plain). -/
namespace Go.Proofs.YtoaiofjcjjkfaaaGreatDoor
open Go.RowKit Go.Maps Go.Sort
set_option linter.unusedVariables false

theorem unf_frame (l s : List UInt8) (hl : l.length ≤ 65536) : unfR (frameR l ++ s) = (l, l.length + 8, 0) := by
  have hlow : num (low l.length 4) = l.length := num_low_of (by omega)
  have hcrc : num (low (crc l) 4) = crc l := num_low_of (by have := crc_lt l; omega)
  have e1 : (frameR l ++ s).take 4 = low l.length 4 := by
    unfold frameR
    rw [List.append_assoc, List.append_assoc]
    exact List.take_left' (low_len 4 _)
  have e2 : (frameR l ++ s).drop 4 = low (crc l) 4 ++ (l ++ s) := by
    unfold frameR
    rw [List.append_assoc, List.append_assoc]
    exact List.drop_left' (low_len 4 _)
  have e3 : (frameR l ++ s).drop 8 = l ++ s := by
    have : (frameR l ++ s).drop 8 = ((frameR l ++ s).drop 4).drop 4 := by rw [List.drop_drop]
    rw [this, e2]
    exact List.drop_left' (low_len 4 _)
  have e4 : ((frameR l ++ s).drop 4).take 4 = low (crc l) 4 := by rw [e2]; exact List.take_left' (low_len 4 _)
  have e5 : (l ++ s).take l.length = l := List.take_left' rfl
  have hlen : (frameR l ++ s).length = l.length + 8 + s.length := by rw [List.length_append, frameR_len]; omega
  unfold unfR
  rw [e1, hlow, e3, e4, hcrc, e5, if_neg (by omega), if_neg (by omega), if_neg (by omega), if_neg (by simp), Nat.add_comm]

theorem ufR_frame (l s : List UInt8) (hl : l.length ≤ 65536) : ufR (frameR l ++ s) = ⟨l, 0⟩ := by
  unfold ufR; rw [unf_frame l s hl]; rfl
theorem ufT_frame (l s : List UInt8) (hl : l.length ≤ 65536) : ufT (frameR l ++ s) = s := by
  unfold ufT; rw [unf_frame l s hl]
  have h : l.length + 8 = (frameR l).length := by rw [frameR_len]; omega
  dsimp only
  rw [h]
  exact List.drop_left' rfl
/-! ### laid down -/
theorem lays_schema (d m : List (List UInt8)) : Lays (fun S => S.schema d m) (okTexts d ∧ okTexts m) (bRow bText d ++ bRow bText m) :=
  (lays_row lays_text d).then (lays_row lays_text m)
theorem lays_ints (l : List Int) : Lays (fun S => S.ints l) (l.length ≤ 4294967295) (bRow enc8 l) :=
  (show Lays (fun S => S.ints l) _ (bRow enc8 l) from lays_row lays_int l).ok fun h => h.1
theorem lays_facts (l : List FactP) : Lays (fun S => S.facts l) (l.length ≤ 4294967295 ∧ ∀ f ∈ l, okFact f) (bRow bFact l) := lays_row lays_fact l
structure HeadOk (c : CkP) : Prop where
  dims : okTexts c.dims
  meas : okTexts c.meas
  views : c.views.length ≤ 4294967295
  bats : c.bats.length ≤ 4294967295
theorem headW_ok (c : CkP) (h : (headW c).fault = 0) : HeadOk c ∧ (headW c).data = rBody c := by
  have hl := (((lays_int c.seq).then (lays_schema c.dims c.meas)).then (lays_ints c.views)).then (lays_count (c.bats.length : Int))
  obtain ⟨_, ⟨⟨⟨_, h1, h2⟩, h3⟩, h4⟩, h5⟩ := hl WS.zero h
  refine ⟨⟨h1, h2, h3, by omega⟩, ?_⟩
  have e : (headW c).data = _ := h5
  rw [e]
  unfold rBody bRow
  simp only [WS.zero, List.nil_append, List.append_assoc, Int.toNat_natCast]
theorem facts_ok (b : List FactP) (h : (WS.zero.facts b).fault = 0) : (b.length ≤ 4294967295 ∧ ∀ f ∈ b, okFact f) ∧ (WS.zero.facts b).data = bRow bFact b := by
  obtain ⟨_, h1, h2⟩ := lays_facts b WS.zero h
  exact ⟨h1, by rw [h2]; rfl⟩
theorem facts_size (b : List FactP) : (WS.zero.facts b).data.length ≤ 65536 := facts_len b
/-- The frames of batches. -/
def fr8 : List (List FactP) → List UInt8
  | [] => []
  | b :: l => frameR (bRow bFact b) ++ fr8 l
theorem catB_ok : ∀ (l : List (List FactP)) (acc : List UInt8), (catB l acc).2 = 0 → (catB l acc).1 = acc ++ fr8 l ∧ (∀ b ∈ l, (WS.zero.facts b).fault = 0)
  | [], acc, _ => ⟨by simp [catB, fr8], by simp⟩
  | b :: l, acc, h => by
    unfold catB at h ⊢
    by_cases hf : (WS.zero.facts b).fault = 0
    · rw [if_pos hf] at h ⊢
      obtain ⟨h1, h2⟩ := catB_ok l _ h
      refine ⟨?_, fun x hx => ?_⟩
      · rw [h1, (facts_ok b hf).2, fr8, List.append_assoc]
      · rcases List.mem_cons.1 hx with rfl | hx
        · exact hf
        · exact h2 x hx
    · rw [if_neg hf] at h; exact absurd h (by decide)
theorem rcat_ok : ∀ (l : List (List FactP)) (acc : List UInt8), (∀ b ∈ l, (WS.zero.facts b).fault = 0) → rcat l acc = (acc ++ fr8 l, 0)
  | [], acc, _ => by simp [rcat, fr8]
  | b :: l, acc, h => by
    have hf := h b (by simp)
    have hs := facts_size b
    rw [(facts_ok b hf).2] at hs
    unfold rcat
    rw [if_neg (by omega), rcat_ok l _ (fun x hx => h x (by simp [hx])), fr8, List.append_assoc]
theorem bytesP_ok (c : CkP) (h : (bytesP c).2 = 0) : 0 ≤ c.seq ∧ (headW c).fault = 0 ∧ (∀ b ∈ c.bats, (WS.zero.facts b).fault = 0) ∧ (bytesP c).1 = frameR (rBody c) ++ fr8 c.bats := by
  unfold bytesP at h ⊢
  by_cases h1 : c.seq < 0
  · rw [if_pos h1] at h; exact absurd h (by decide)
  · rw [if_neg h1] at h ⊢
    by_cases h2 : (headW c).fault = 0
    · rw [if_pos h2] at h ⊢
      obtain ⟨h3, h4⟩ := catB_ok _ _ h
      exact ⟨by omega, h2, h4, by rw [h3, (headW_ok c h2).2]⟩
    · rw [if_neg h2] at h; exact absurd h (by decide)
theorem rBody_size (c : CkP) (h : (headW c).fault = 0) : (rBody c).length ≤ 65536 := by
  have := headW_len c
  rwa [(headW_ok c h).2] at this
/-- The document's bytes are the program's, where these are good. -/
theorem rbytesP_ok (c : CkP) (h : (bytesP c).2 = 0) : rbytesP c = bytesP c := by
  obtain ⟨h1, h2, h3, h4⟩ := bytesP_ok c h
  have hs := rBody_size c h2
  unfold rbytesP
  rw [if_neg (by omega), if_neg (by omega), rcat_ok _ _ h3]
  exact Prod.ext h4.symm h.symm
theorem sameP_self (c : CkP) (h : (bytesP c).2 = 0) : sameP c c = true := by
  unfold sameP
  rw [decide_eq_true]
  exact ⟨rfl, rfl, by rw [rbytesP_ok c h]; exact h⟩
/-! ### taken up -/
structure CkI (c : CkP) : Prop where
  seq : i64 c.seq
  views : ∀ n ∈ c.views, i64 n
  meas : ∀ b ∈ c.bats, ∀ f ∈ b, ∀ n ∈ f.meas, i64 n
theorem count_all (n : Nat) (most : Int) (R : List UInt8) (hn : n ≤ 4294967295) (hm : (n : Int) ≤ most) : RS.count ⟨low n 4 ++ R, 0⟩ most = (n, ⟨R, 0⟩) := by
  have e := (dec_take 4 (low n 4) (low_len 4 _)).all R
  have hnum : num (low n 4) = n := num_low_of (by omega)
  unfold RS.count
  rw [e]
  simp only [hnum]
  rw [if_neg (by omega), if_pos trivial]
theorem flat_many8 : ∀ l : List Int, l.length ≤ (l.flatMap enc8).length
  | [] => by simp
  | x :: l => by
    have := flat_many8 l
    have h : (enc8 x).length = 8 := by unfold enc8; rw [low_len]
    rw [List.flatMap_cons, List.length_append, List.length_cons]
    omega
theorem head_all (c : CkP) (hk : HeadOk c) (hi : CkI c) : RS.head ⟨rBody c, 0⟩ = (⟨c.seq, c.dims, c.meas, c.views, []⟩, ⟨low c.bats.length 4, 0⟩) := by
  obtain ⟨seq_, dims, meas, views, bats⟩ := c
  have e1 := (dec_int seq_ hi.seq).all (bRow bText dims ++ bRow bText meas ++ (low views.length 4 ++ (views.flatMap enc8 ++ low bats.length 4)))
  have e2 := (dec_schema dims meas hk.dims hk.meas).all (low views.length 4 ++ (views.flatMap enc8 ++ low bats.length 4))
  have hf : views.length ≤ (views.flatMap enc8).length := flat_many8 views
  have e3 := count_all views.length ((low views.length 4 ++ (views.flatMap enc8 ++ low bats.length 4)).length : Nat) (views.flatMap enc8 ++ low bats.length 4) hk.views (by simp only [List.length_append]; omega)
  have e4 := seq_all int_stops views (low bats.length 4) (fun x hx => dec_int x (hi.views x hx))
  have hb : rBody ⟨seq_, dims, meas, views, bats⟩ = enc8 seq_ ++ (bRow bText dims ++ bRow bText meas ++ (low views.length 4 ++ (views.flatMap enc8 ++ low bats.length 4))) := by
    unfold rBody
    simp only [List.append_assoc]
  rw [hb]
  unfold RS.head
  rw [e1]
  dsimp only
  rw [e2]
  dsimp only
  rw [e3]
  dsimp only
  rw [e4]
theorem readL_all (seq_ : Int) (h0 : 0 ≤ seq_) : ∀ (l : List (List FactP)) (acc : List (List FactP)), (∀ b ∈ l, (WS.zero.facts b).fault = 0) → (∀ b ∈ l, ∀ f ∈ b, ∀ n ∈ f.meas, i64 n) →
    readL seq_ l.length ⟨[], 0⟩ (fr8 l) acc = some (acc ++ l)
  | [], acc, _, _ => by
    show (if RS.done ⟨[], 0⟩ = 0 ∧ 0 ≤ seq_ ∧ fr8 [] = [] then some acc else none) = _
    rw [if_pos ⟨rfl, h0, rfl⟩, List.append_nil]
  | b :: l, acc, hf, hi => by
    have hb := hf b (by simp)
    have hs := facts_size b
    rw [(facts_ok b hb).2] at hs
    have e := (dec_facts b (facts_ok b hb).1 (hi b (by simp))).all []
    rw [List.append_nil] at e
    show (if RS.done ⟨[], 0⟩ = 0 ∧ 0 ≤ seq_ then readL seq_ l.length (ufR (fr8 (b :: l))).facts.2 (ufT (fr8 (b :: l))) (acc ++ [(ufR (fr8 (b :: l))).facts.1]) else none) = _
    rw [if_pos ⟨rfl, h0⟩, fr8, ufR_frame _ _ hs, ufT_frame _ _ hs, e]
    dsimp only
    rw [readL_all seq_ h0 l _ (fun x hx => hf x (by simp [hx])) (fun x hx => hi x (by simp [hx])), List.append_assoc]
    rfl
theorem fr8_many : ∀ l : List (List FactP), l.length ≤ (fr8 l).length
  | [] => by simp
  | b :: l => by
    have := fr8_many l
    rw [fr8, List.length_append, frameR_len, List.length_cons]
    omega
/-- Read of Bytes is the checkpoint. -/
theorem readP_bytes (c : CkP) (hi : CkI c) (h : (bytesP c).2 = 0) : readP (bytesP c).1 = (c, 0) := by
  obtain ⟨h1, h2, h3, h4⟩ := bytesP_ok c h
  have hs := rBody_size c h2
  have hk := (headW_ok c h2).1
  have hm := fr8_many c.bats
  unfold readP readN
  rw [h4, ufR_frame _ _ hs, ufT_frame _ _ hs, head_all c hk hi]
  dsimp only
  have e := count_all c.bats.length ((fr8 c.bats).length : Nat) [] hk.bats (by omega)
  rw [List.append_nil] at e
  rw [e]
  dsimp only
  rw [readL_all c.seq h1 c.bats [] h3 hi.meas, List.nil_append]
  rfl
end Go.Proofs.YtoaiofjcjjkfaaaGreatDoor
/- CatalogBytes, plain: the bytes are the document's, where nothing is too great for a Count; the document's File, walked. -/
namespace Go.Proofs.YtoaiofjcjjkfaaaGreatDoor
open Go.RowKit Go.Maps Go.Sort
set_option linter.unusedVariables false

/-- a writer that has X, and is told b more -/
def more (X b : List UInt8) : WS := if X.length + b.length > 65536 then ⟨[], 23⟩ else ⟨X ++ b, 0⟩
structure Puts (f : WS → WS) (b : List UInt8) : Prop where
  put : ∀ X : List UInt8, X.length ≤ 65536 → f ⟨X, 0⟩ = more X b
  stop : ∀ S : WS, S.fault ≠ 0 → f S = S
theorem Puts.then {f g : WS → WS} {a b : List UInt8} (hf : Puts f a) (hg : Puts g b) : Puts (fun S => g (f S)) (a ++ b) := by
  refine ⟨fun X hX => ?_, fun S h => by simp only [hf.stop S h, hg.stop S h]⟩
  simp only [hf.put X hX]
  unfold more
  rw [List.length_append]
  by_cases h : X.length + a.length > 65536
  · rw [if_pos h, if_pos (by omega)]; exact hg.stop _ (by decide)
  · rw [if_neg h, hg.put _ (by rw [List.length_append]; omega)]
    unfold more
    rw [List.length_append, List.append_assoc]
    have e : (X.length + a.length + b.length > 65536) = (X.length + (a.length + b.length) > 65536) := by rw [Nat.add_assoc]
    simp only [e]
theorem puts_lay (m : List UInt8) : Puts (fun S => S.lay m) m := ⟨fun X hX => by
  simp only [WS.lay, more, if_true]
  have e : (m.length + X.length > 65536) = (X.length + m.length > 65536) := by rw [Nat.add_comm]
  simp only [e], fun S h => WS.lay_stop h m⟩
theorem puts_count (n : Int) (h0 : 0 ≤ n) (h1 : n ≤ 4294967295) : Puts (fun S => S.count n) (low n.toNat 4) := ⟨fun X hX => by
  simp only [WS.count]
  rw [if_neg (by omega)]
  exact (puts_lay _).put X hX, fun S h => WS.count_stop h n⟩
theorem puts_text (s : List UInt8) (h : s.length ≤ 4294967295) : Puts (fun S => S.text s) (bText s) := by
  have := (puts_count (s.length : Int) (by omega) (by omega)).then (puts_lay s)
  exact this
theorem puts_fold {α : Type} {f : WS → α → WS} {b : α → List UInt8} : ∀ l : List α, (∀ x ∈ l, Puts (fun S => f S x) (b x)) → Puts (fun S => l.foldl f S) (l.flatMap b)
  | [], _ => ⟨fun X hX => by simp only [List.foldl, more, List.flatMap_nil, List.length_nil]; rw [if_neg (by omega)]; simp, fun S h => rfl⟩
  | x :: l, h => (h x (by simp)).then (puts_fold l fun y hy => h y (by simp [hy]))
theorem puts_row {α : Type} {f : WS → α → WS} {b : α → List UInt8} (l : List α) (hl : l.length ≤ 4294967295) (h : ∀ x ∈ l, Puts (fun S => f S x) (b x)) : Puts (fun S => S.row f l) (bRow b l) := by
  have := (puts_count (l.length : Int) (by omega) (by omega)).then (puts_fold l h)
  exact this
theorem puts_texts (l : List (List UInt8)) (h : okTexts l) : Puts (fun S => S.texts l) (bRow bText l) := puts_row l h.1 fun s hs => puts_text s (h.2 s hs)
theorem puts_fact (f : FactP) (h : okFact f) : Puts (fun S => S.fact f) (bFact f) :=
  (puts_texts f.dims h.1).then (puts_row f.meas h.2 fun n _ => puts_lay (enc8 n))
theorem texts_fit {l : List (List UInt8)} (h : (bRow bText l).length ≤ 16777216) : okTexts l := by
  have h1 := row_bound bText l
  have h2 := flat_many bText (fun s => by rw [bText_len]; omega) l
  refine ⟨by omega, fun s hs => ?_⟩
  obtain ⟨j, hj, rfl⟩ := List.mem_iff_getElem.1 hs
  have h3 := flat_one bText l j hj
  rw [bText_len] at h3
  unfold okText
  omega
theorem fact_fits {f : FactP} (h : (bFact f).length ≤ 16777216) : okFact f := by
  unfold bFact at h
  rw [List.length_append] at h
  have h1 := row_bound enc8 f.meas
  have h2 := flat_many enc8 (fun s => by rw [enc8_len]; omega) f.meas
  exact ⟨texts_fit (by omega), by omega⟩

/-! ### the bytes -/
/-- Nothing is too great for a Count. -/
structure CkF (c : CkP) : Prop where
  head : HeadOk c
  bats : ∀ b ∈ c.bats, b.length ≤ 4294967295 ∧ ∀ f ∈ b, okFact f
theorem puts_ints (l : List Int) (h : l.length ≤ 4294967295) : Puts (fun S => S.ints l) (bRow enc8 l) := puts_row l h fun n _ => puts_lay (enc8 n)
theorem puts_schema (d m : List (List UInt8)) (hd : okTexts d) (hm : okTexts m) : Puts (fun S => S.schema d m) (bRow bText d ++ bRow bText m) := (puts_texts d hd).then (puts_texts m hm)
theorem headW_more (c : CkP) (h : HeadOk c) : headW c = more [] (rBody c) := by
  have hp := ((((puts_lay (enc8 c.seq)).then (puts_schema c.dims c.meas h.dims h.meas)).then (puts_ints c.views h.views)).then (puts_count (c.bats.length : Int) (by omega) (by have := h.bats; omega))).put [] (by simp)
  have e : headW c = _ := hp
  rw [e]
  unfold rBody bRow
  simp only [List.append_assoc, Int.toNat_natCast]
theorem facts_more (b : List FactP) (h : b.length ≤ 4294967295 ∧ ∀ f ∈ b, okFact f) : WS.zero.facts b = more [] (bRow bFact b) :=
  (puts_row b h.1 fun f hf => puts_fact f (h.2 f hf)).put [] (by simp)
theorem more_nil (b : List UInt8) : more [] b = if b.length > 65536 then ⟨[], 23⟩ else ⟨b, 0⟩ := by
  unfold more
  simp only [List.length_nil, Nat.zero_add, List.nil_append]
theorem catB_same : ∀ (l : List (List FactP)) (acc : List UInt8), (∀ b ∈ l, b.length ≤ 4294967295 ∧ ∀ f ∈ b, okFact f) → catB l acc = rcat l acc
  | [], acc, _ => rfl
  | b :: l, acc, h => by
    have e := facts_more b (h b (by simp))
    rw [more_nil] at e
    unfold catB rcat
    by_cases hb : (bRow bFact b).length > 65536
    · rw [if_pos hb] at e
      rw [e, if_neg (by decide), if_pos hb]
    · rw [if_neg hb] at e
      rw [e, if_pos rfl, if_neg hb]
      exact catB_same l _ fun x hx => h x (by simp [hx])
theorem bytes_same (c : CkP) (h : CkF c) : bytesP c = rbytesP c := by
  have e := headW_more c h.head
  rw [more_nil] at e
  unfold bytesP rbytesP
  by_cases h1 : c.seq < 0
  · rw [if_pos h1, if_pos h1]
  · rw [if_neg h1, if_neg h1]
    by_cases hb : (rBody c).length > 65536
    · rw [if_pos hb] at e
      rw [e, if_neg (by decide), if_pos hb]
    · rw [if_neg hb] at e
      rw [e, if_pos rfl, if_neg hb]
      exact catB_same _ _ h.bats
theorem catB_none : ∀ (l : List (List FactP)) (acc : List UInt8), (catB l acc).2 ≠ 0 → (catB l acc).1 = []
  | [], acc, h => absurd rfl h
  | b :: l, acc, h => by
    unfold catB at h ⊢
    by_cases hf : (WS.zero.facts b).fault = 0
    · rw [if_pos hf] at h ⊢; exact catB_none l _ h
    · rw [if_neg hf]
theorem bytesP_refused (c : CkP) (h : (bytesP c).2 ≠ 0) : (bytesP c).1 = [] := by
  unfold bytesP at h ⊢
  by_cases h1 : c.seq < 0
  · rw [if_pos h1]
  · rw [if_neg h1] at h ⊢
    by_cases h2 : (headW c).fault = 0
    · rw [if_pos h2] at h ⊢; exact catB_none _ _ h
    · rw [if_neg h2]

/-! ### a file's name -/
def padL : Nat → Nat → List UInt8
  | 0, _ => []
  | k + 1, n => padL k (n / 10) ++ [UInt8.ofNat (48 + n % 10)]
theorem padL_len : ∀ k n, (padL k n).length = k
  | 0, _ => rfl
  | k + 1, n => by rw [padL, List.length_append, padL_len k]; rfl
theorem dec_big {u : Nat} (h : ¬ u < 10) : Lib.decDigits u = Lib.decDigits (u / 10) ++ [UInt8.ofNat (48 + u % 10)] := by rw [Lib.decDigits, dif_neg h]
theorem dec_pad : ∀ (k n : Nat), n < 10 ^ k → Lib.decDigits (10 ^ k + n) = 49 :: padL k n
  | 0, n, h => by
    have : n = 0 := by simpa using h
    subst this
    rw [Lib.decDigits_one (by decide)]; rfl
  | k + 1, n, h => by
    have hp : 0 < 10 ^ k := Nat.pow_pos (by decide)
    rw [Nat.pow_succ] at h ⊢
    have h1 : (10 ^ k * 10 + n) / 10 = 10 ^ k + n / 10 := by omega
    have h2 : (10 ^ k * 10 + n) % 10 = n % 10 := by omega
    rw [dec_big (by omega), h1, h2, dec_pad k (n / 10) (by omega)]
    rfl
def zr : Nat → List UInt8
  | 0 => []
  | k + 1 => 48 :: zr k
theorem zr_len : ∀ k, (zr k).length = k
  | 0 => rfl
  | k + 1 => by rw [zr, List.length_cons, zr_len k]
theorem rep_back : ∀ k, zr k ++ [48] = 48 :: zr k
  | 0 => rfl
  | k + 1 => by
    show (48 :: zr k) ++ [48] = _
    rw [List.cons_append, rep_back k]
    rfl
theorem pad_zero : ∀ k, padL k 0 = zr k
  | 0 => rfl
  | k + 1 => by
    show padL k 0 ++ [48] = _
    rw [pad_zero k, rep_back]
    rfl
theorem pad_rep : ∀ (k n : Nat), 1 ≤ n → n < 10 ^ k → padL k n = zr (k - (Lib.decDigits n).length) ++ Lib.decDigits n
  | 0, n, h1, h => by simp at h; omega
  | k + 1, n, h1, h => by
    rw [Nat.pow_succ] at h
    by_cases h10 : n < 10
    · have h2 : n / 10 = 0 := by omega
      have h3 : n % 10 = n := by omega
      rw [padL, h2, h3, pad_zero, Lib.decDigits_one h10]
      rfl
    · rw [dec_big h10, padL, pad_rep k (n / 10) (by omega) (by omega), List.length_append, List.append_assoc]
      rw [show k + 1 - ((Lib.decDigits (n / 10)).length + [UInt8.ofNat (48 + n % 10)].length) = k - (Lib.decDigits (n / 10)).length by simp only [List.length_singleton]; omega]
theorem fileW_pad {n : Int} (h0 : 1 ≤ n) (h1 : n ≤ 99999999) : fileW n = catL ++ (zr (8 - (Lib.itoa n).length) ++ Lib.itoa n) ∧ (Lib.itoa n).length ≤ 8 := by
  have hn : (Lib.itoa n) = Lib.decDigits n.toNat := by unfold Lib.itoa; rw [if_neg (by omega)]
  have hb : (Lib.itoa (100000000 + n)) = 49 :: padL 8 n.toNat := by
    unfold Lib.itoa
    rw [if_neg (by omega), show (100000000 + n).toNat = 10 ^ 8 + n.toNat by omega]
    exact dec_pad 8 _ (by omega)
  have hp := pad_rep 8 n.toNat (by omega) (by omega)
  have hl := padL_len 8 n.toNat
  rw [hp, List.length_append, zr_len] at hl
  refine ⟨?_, by rw [hn]; omega⟩
  unfold fileW
  rw [if_neg (by omega), hb, hn, List.drop_succ_cons, List.drop_zero, hp]
def lenOf_ : Value → Nat
  | .string b => b.size
  | _ => 0
set_option maxRecDepth 100000 in
set_option maxHeartbeats 1000000 in
theorem rfile_any (n : Int) (w : World) (hv : Vr w) (h0 : -9223372036854775808 ≤ n) (h1 : n ≤ 9223372036854775807) :
    Calls Tryz.prog 14 #[.int .i64 n] w fun e w' => e = .returned (sv (fileW n)) ∧ Fr No w w' := by
  by_cases hlo : n < 1
  · have HV : Hid (fileW n = []) := Lib.hid (by unfold fileW; rw [if_pos (.inl hlo)])
    have hlt : decide (n < 1) = true := by simpa using hlo
    go_enter Tryz.func14, Tryz.ntmps14
    go_wp2
    go_ret
    exact ⟨by rw [HV.out]; rfl, Fr.refl _ _⟩
  · have hge : 1 ≤ n := by omega
    have hlt : decide (n < 1) = false := by simpa using hge
    by_cases hhi : 99999999 < n
    · have HV : Hid (fileW n = []) := Lib.hid (by unfold fileW; rw [if_pos (.inr hhi)])
      have hgt : decide (99999999 < n) = true := by simpa using hhi
      go_enter Tryz.func14, Tryz.ntmps14
      go_wp2
      go_ret
      exact ⟨by rw [HV.out]; rfl, Fr.refl _ _⟩
    · have hle : n ≤ 99999999 := by omega
      have hgt : decide (99999999 < n) = false := by simpa using hle
      have hpad := fileW_pad hge hle
      have HV : Hid (fileW n = [99, 97, 116, 45] ++ (zr (8 - (Lib.itoa n).length) ++ Lib.itoa n)) := Lib.hid hpad.1
      have hd := hpad.2
      have HI := Lib.hid (itoa_any n w hv h0 h1)
      obtain ⟨l, hl⟩ : ∃ l, Lib.itoa n = l := ⟨_, rfl⟩
      rw [hl] at HI hd HV
      clear hl hv hpad
      go_enter Tryz.func14, Tryz.ntmps14
      go_wp2_with fail
      refine HI.out.mono ?_
      rintro e w1 ⟨rfl, f1⟩
      have F1 := Lib.hid f1
      clear f1
      go_wp2_with fail
      go_loopw [3] (fun v wr => ∃ (k : Nat) (x : List UInt8), v = sv x ∧ x = zr k ++ l ∧ k + l.length ≤ 8 ∧ wr = w1) (fun v _ => 8 - lenOf_ v)
      case atStart => exact ⟨0, l, rfl, rfl, by omega, rfl⟩
      case round =>
        obtain ⟨k, x, rfl, hx, hk, rfl⟩ := hrel
        have hxl : x.length = k + l.length := by rw [hx, List.length_append, zr_len]
        have q1 := fun w' => run_cat [48] x (by simp; omega) w'
        have HX := Lib.hid hx
        clear hx
        by_cases hlt : x.length < 8
        · have t0 : decide (x.length < 8) = true := by simpa using hlt
          have t1 : decide ((x.length : Int) < 8) = true := by simp; omega
          go_wp2
          exact ⟨⟨k + 1, 48 :: x, rfl, by rw [HX.out]; rfl, by omega, trivial⟩, by simp [lenOf_, ByteArray.size]; omega⟩
        · have t0 : decide (x.length < 8) = false := by simpa using hlt
          have t1 : decide ((x.length : Int) < 8) = false := by simp; omega
          have q2 := fun w' => run_cat [99, 97, 116, 45] x (by simp; omega) w'
          go_wp2
          go_ret
          refine ⟨?_, F1.out⟩
          rw [HV.out, HX.out, show 8 - l.length = k by omega]
          simp
end Go.Proofs.YtoaiofjcjjkfaaaGreatDoor
/- CatalogBytes, walked. -/
namespace Go.Proofs.YtoaiofjcjjkfaaaGreatDoor
open Go.RowKit Go.Maps Go.Sort
set_option linter.unusedVariables false

set_option maxRecDepth 100000 in
set_option maxHeartbeats 2000000 in
theorem catalogBytes_any (c : CkP) (dv mv vv bv : Value) (n : Int) (hn : i64 n) (w : World) (hv : Vr w) (hck : CkAt (fun k => k < w.heap.size) w c dv mv vv bv) (hf : CkF c) (hi : CkI c) (hb : CkB c) (hl : (bytesP c).1.length ≤ 1000000000) :
    Calls Tryz.prog 3 #[ckv c dv mv vv bv, .int .i64 n] w fun e w' => e = .returned (.bool true) ∧ Fr No w w' := by
  obtain ⟨B, hB⟩ : ∃ B, w.heap.size = B := ⟨_, rfl⟩
  obtain ⟨A1, n1, k1, A2, n2, k2, A3, n3, k3, A4, n4, k4, rfl, rfl, rfl, rfl⟩ := hck.forms
  obtain ⟨w1, hw1⟩ : ∃ w1, w.alloc (.cells #[.int .i64 c.seq, .slice A1 n1 k1, .slice A2 n2 k2, .slice A3 n3 k3, .slice A4 n4 k4] 28) = w1 := ⟨_, rfl⟩
  have f1 : Fr No w w1 := by rw [← hw1]; exact (Fr.refl _ w).alloc _
  have b1 : Blk w1 B 28 #[.int .i64 c.seq, .slice A1 n1 k1, .slice A2 n2 k2, .slice A3 n3 k3, .slice A4 n4 k4] := by rw [← hw1, ← hB]; exact Blk.new w 28 _
  have CA := Lib.hid (awake_any w1 (hv.keep f1))
  have hat : ∀ wx : World, Fr No w wx → CkAt (fun k => k < wx.heap.size) wx c (.slice A1 n1 k1) (.slice A2 n2 k2) (.slice A3 n3 k3) (.slice A4 n4 k4) := fun wx hx =>
    (hck.of fun k hk => hx.block k hk id).mono fun k hk => Nat.lt_of_lt_of_le hk hx.size
  have CB : Hid (∀ wx : World, Fr No w wx → Calls Tryz.prog 11 #[ckv c (.slice A1 n1 k1) (.slice A2 n2 k2) (.slice A3 n3 k3) (.slice A4 n4 k4)] wx fun e w' => e = .returned (.tuple #[sv (bytesP c).1, .int .i64 (bytesP c).2]) ∧ Fr No w w' ∧ Fr No wx w') := Lib.hid fun wx hx =>
    (bytes_any _ c _ _ _ _ wx (hat wx hx) (fun k hk => hk) hb.bats).mono fun e w4 h => ⟨h.1, hx.trans h.2 fun _ _ h => h, h.2⟩
  have CR : Hid (∀ wx : World, Fr No w wx → Calls Tryz.prog 12 #[ckv c (.slice A1 n1 k1) (.slice A2 n2 k2) (.slice A3 n3 k3) (.slice A4 n4 k4)] wx fun e w' => e = .returned (.tuple #[sv (bytesP c).1, .int .i64 (bytesP c).2]) ∧ Fr No w w' ∧ Fr No wx w') := Lib.hid fun wx hx =>
    (refBytes_any c _ _ _ _ wx (hat wx hx) hb).mono fun e w4 h => ⟨by rw [bytes_same c hf]; exact h.1, hx.trans h.2 fun _ _ h => h, h.2⟩
  have CF : Hid (∀ wx : World, Fr No w wx → Calls Tryz.prog 13 #[.int .i64 n] wx fun e w' => e = .returned (sv (fileW n)) ∧ Fr No w w' ∧ Fr No wx w') := Lib.hid fun wx hx =>
    (file_any n wx (hv.keep hx) hn.1 hn.2).mono fun e w4 h => ⟨h.1, hx.trans h.2 fun _ _ h => h, h.2⟩
  have CG : Hid (∀ wx : World, Fr No w wx → Calls Tryz.prog 14 #[.int .i64 n] wx fun e w' => e = .returned (sv (fileW n)) ∧ Fr No w w' ∧ Fr No wx w') := Lib.hid fun wx hx =>
    (rfile_any n wx (hv.keep hx) hn.1 hn.2).mono fun e w4 h => ⟨h.1, hx.trans h.2 fun _ _ h => h, h.2⟩
  have CD : Hid ((bytesP c).2 = 0 → ∀ wx : World, Fr No w wx → Calls Tryz.prog 15 #[sv (bytesP c).1] wx fun e w' => ∃ D1 p1 q1 D2 p2 q2 D3 p3 q3 D4 p4 q4, e = .returned (.tuple #[ckv c (.slice D1 p1 q1) (.slice D2 p2 q2) (.slice D3 p3 q3) (.slice D4 p4 q4), .int .i64 0]) ∧ Fr No w w' ∧ CkAt (fun k => k < w'.heap.size) w' c (.slice D1 p1 q1) (.slice D2 p2 q2) (.slice D3 p3 q3) (.slice D4 p4 q4) ∧ Fr No wx w') := Lib.hid fun hz wx hx => by
    have h := read_ck_any (bytesP c).1 wx hl
    rw [readP_bytes c hi hz] at h
    refine h.mono fun e w4 h => ?_
    obtain ⟨dv, mv, vv, bv, he, f, hc⟩ := h
    obtain ⟨D1, p1, q1, D2, p2, q2, D3, p3, q3, D4, p4, q4, rfl, rfl, rfl, rfl⟩ := hc.forms
    exact ⟨_, _, _, _, _, _, _, _, _, _, _, _, he, hx.trans f fun _ _ h => h, hc.bound, f⟩
  have CS : Hid ((bytesP c).2 = 0 → ∀ (wx : World) D1 p1 q1 D2 p2 q2 D3 p3 q3 D4 p4 q4, Fr No w wx → CkAt (fun k => k < wx.heap.size) wx c (.slice D1 p1 q1) (.slice D2 p2 q2) (.slice D3 p3 q3) (.slice D4 p4 q4) →
      Calls Tryz.prog 16 #[ckv c (.slice D1 p1 q1) (.slice D2 p2 q2) (.slice D3 p3 q3) (.slice D4 p4 q4), ckv c (.slice A1 n1 k1) (.slice A2 n2 k2) (.slice A3 n3 k3) (.slice A4 n4 k4)] wx fun e w' => e = .returned (.bool true) ∧ Fr No w w') := Lib.hid fun hz wx D1 p1 q1 D2 p2 q2 D3 p3 q3 D4 p4 q4 hx hc =>
    (same_any c c _ _ _ _ _ _ _ _ wx hc (hat wx hx) hb hb).mono fun e w4 h => ⟨by rw [h.1, sameP_self c hz], hx.trans h.2 fun _ _ h => h⟩
  have HR := Lib.hid (bytesP_refused c)
  have HW1 := Lib.hid hw1
  have HB := Lib.hid hB
  have HF1 := Lib.hid f1
  have HB1 := Lib.hid b1
  generalize bytesP c = FE at *
  obtain ⟨F, E⟩ := FE
  simp only at CB CR CD CS HR
  generalize fileW n = G at *
  clear hck hw1 f1 b1 hB hv hf hi hb hl hat hn
  unfold ckv at CB CR CD CS ⊢
  go_enter Tryz.func3, Tryz.ntmps3
  go_wp2_with fail
  rw [HW1.out]
  refine CA.out.mono ?_
  clear CA
  rintro e w2 ⟨rfl, f2⟩
  have F2 := Lib.hid (HF1.out.trans f2 fun _ _ h => h)
  have b2 := HB1.out.of (f2.block _ HB1.out.lt id)
  have B2 := Lib.hid b2
  have x0 : w2.cell? ⟨B, 0, none⟩ = some (.int .i64 c.seq) := b2.cell 0
  have x1 : w2.cell? ⟨B, 1, none⟩ = some (.slice A1 n1 k1) := b2.cell 1
  have x2 : w2.cell? ⟨B, 2, none⟩ = some (.slice A2 n2 k2) := b2.cell 2
  have x3 : w2.cell? ⟨B, 3, none⟩ = some (.slice A3 n3 k3) := b2.cell 3
  have x4 : w2.cell? ⟨B, 4, none⟩ = some (.slice A4 n4 k4) := b2.cell 4
  clear f2 b2
  rw [HB.out]
  go_wp2_with fail
  refine (CB.out _ F2.out).mono ?_
  clear x0 x1 x2 x3 x4 CB
  rintro e w3 ⟨rfl, f3, g3⟩
  have F3 := Lib.hid f3
  have b3 := B2.out.of (g3.block _ B2.out.lt id)
  have B3 := Lib.hid b3
  have x0 : w3.cell? ⟨B, 0, none⟩ = some (.int .i64 c.seq) := b3.cell 0
  have x1 : w3.cell? ⟨B, 1, none⟩ = some (.slice A1 n1 k1) := b3.cell 1
  have x2 : w3.cell? ⟨B, 2, none⟩ = some (.slice A2 n2 k2) := b3.cell 2
  have x3 : w3.cell? ⟨B, 3, none⟩ = some (.slice A3 n3 k3) := b3.cell 3
  have x4 : w3.cell? ⟨B, 4, none⟩ = some (.slice A4 n4 k4) := b3.cell 4
  clear f3 g3 b3
  go_wp2_with fail
  refine (CR.out _ F3.out).mono ?_
  clear x0 x1 x2 x3 x4 CR
  rintro e w4 ⟨rfl, f4, g4⟩
  have F4 := Lib.hid f4
  have b4 := B3.out.of (g4.block _ B3.out.lt id)
  have B4 := Lib.hid b4
  clear f4 g4 b4
  go_wp2_with fail
  refine (CF.out _ F4.out).mono ?_
  clear CF
  rintro e w5 ⟨rfl, f5, g5⟩
  have F5 := Lib.hid f5
  have b5 := B4.out.of (g5.block _ B4.out.lt id)
  have B5 := Lib.hid b5
  clear f5 g5 b5
  go_wp2_with fail
  refine (CG.out _ F5.out).mono ?_
  clear CG
  rintro e w6 ⟨rfl, f6, g6⟩
  have F6 := Lib.hid f6
  have b6 := B5.out.of (g6.block _ B5.out.lt id)
  have B6 := Lib.hid b6
  clear f6 g6 b6
  by_cases hE : E = 0
  · subst hE
    have CD2 := Lib.hid (CD.out rfl _ F6.out)
    have CS2 := Lib.hid (CS.out rfl)
    clear CD CS HR
    go_wp2_with fail
    refine CD2.out.mono ?_
    clear CD2
    rintro e w7 ⟨D1, p1, q1, D2, p2, q2, D3, p3, q3, D4, p4, q4, rfl, f7, hc7, g7⟩
    obtain ⟨w8, hw8⟩ : ∃ w8, w7.alloc (.cells #[.int .i64 c.seq, .slice D1 p1 q1, .slice D2 p2 q2, .slice D3 p3 q3, .slice D4 p4 q4] 28) = w8 := ⟨_, rfl⟩
    obtain ⟨g, hg⟩ : ∃ g, w7.heap.size = g := ⟨_, rfl⟩
    have f78 : Fr No w7 w8 := by rw [← hw8]; exact (Fr.refl _ w7).alloc _
    have b8 : Blk w8 g 28 #[.int .i64 c.seq, .slice D1 p1 q1, .slice D2 p2 q2, .slice D3 p3 q3, .slice D4 p4 q4] := by rw [← hw8, ← hg]; exact Blk.new w7 28 _
    have bb := B6.out.of ((g7.trans f78 fun _ _ h => h).block _ B6.out.lt id)
    have hc8 := (hc7.of (w' := w8) fun k hk => f78.block k hk id).mono (K' := fun k => k < w8.heap.size) fun k hk => Nat.lt_of_lt_of_le hk f78.size
    have f8 := f7.trans f78 fun _ _ h => h
    have CS3 := Lib.hid (CS2.out w8 _ _ _ _ _ _ _ _ _ _ _ _ f8 hc8)
    have x0 : w8.cell? ⟨B, 0, none⟩ = some (.int .i64 c.seq) := bb.cell 0
    have x1 : w8.cell? ⟨B, 1, none⟩ = some (.slice A1 n1 k1) := bb.cell 1
    have x2 : w8.cell? ⟨B, 2, none⟩ = some (.slice A2 n2 k2) := bb.cell 2
    have x3 : w8.cell? ⟨B, 3, none⟩ = some (.slice A3 n3 k3) := bb.cell 3
    have x4 : w8.cell? ⟨B, 4, none⟩ = some (.slice A4 n4 k4) := bb.cell 4
    have z0 : w8.cell? ⟨g, 0, none⟩ = some (.int .i64 c.seq) := b8.cell 0
    have z1 : w8.cell? ⟨g, 1, none⟩ = some (.slice D1 p1 q1) := b8.cell 1
    have z2 : w8.cell? ⟨g, 2, none⟩ = some (.slice D2 p2 q2) := b8.cell 2
    have z3 : w8.cell? ⟨g, 3, none⟩ = some (.slice D3 p3 q3) := b8.cell 3
    have z4 : w8.cell? ⟨g, 4, none⟩ = some (.slice D4 p4 q4) := b8.cell 4
    have HW8 := Lib.hid hw8
    have HG := Lib.hid hg
    clear hw8 hg f78 b8 bb hc7 hc8 f8 f7 g7 CS2
    go_upto_region 9 with fail
    rw [HW8.out, HG.out]
    go_wp2_with fail
    refine CS3.out.mono ?_
    clear CS3
    rintro e w9 ⟨rfl, f9⟩
    have F9 := Lib.hid f9
    clear f9
    go_wp2
    go_ret
    exact ⟨rfl, F9.out⟩
  · have hEb : (E != 0) = true := by simpa using hE
    have hF := HR.out hE
    subst hF
    clear CD CS HR hE
    go_wp2
    go_ret
    exact ⟨rfl, F6.out⟩
end Go.Proofs.YtoaiofjcjjkfaaaGreatDoor
/- A checkpoint that weighs little (plain): nothing of it is too great. -/
namespace Go.Proofs.YtoaiofjcjjkfaaaGreatDoor
open Go.RowKit Go.Maps Go.Sort
set_option linter.unusedVariables false

theorem rowE_all {α : Type} {K : Nat → Prop} {w : World} {size : Nat} {E : α → List Value → Prop} {v : Value} {l : List α} (h : RowE K w size E v l) : ∀ x ∈ l, ∃ cs, E x cs := by
  intro x hx
  obtain ⟨A, c, e, hm, h⟩ := h
  obtain ⟨j, hj, rfl⟩ := List.mem_iff_getElem.1 hx
  obtain ⟨g, off, e1, hg, h⟩ := h (by omega)
  obtain ⟨cs, _, _, hE⟩ := h j hj
  exact ⟨cs, hE⟩
theorem cki_of {K : Nat → Prop} {w : World} {c : CkP} {dv mv vv bv : Value} (h : CkAt K w c dv mv vv bv) : CkI c := by
  refine ⟨h.seq, fun n hn => ?_, fun b hb f hf n hn => ?_⟩
  · obtain ⟨cs, _, hi⟩ := rowE_all h.views n hn
    exact hi
  · obtain ⟨cs, v, _, hr⟩ := rowE_all h.bats b hb
    obtain ⟨cs2, d, m, _, _, hm⟩ := rowE_all hr f hf
    obtain ⟨cs3, _, hi⟩ := rowE_all hm n hn
    exact hi
theorem sum8 : ∀ l : List Int, (l.map fun x => (enc8 x).length).sum = 8 * l.length
  | [] => rfl
  | x :: l => by
    have h : (enc8 x).length = 8 := by unfold enc8; rw [low_len]
    rw [List.map_cons, List.sum_cons, sum8 l, h, List.length_cons]
    omega
theorem bRow_four {α : Type} (b : α → List UInt8) (l : List α) : 4 ≤ (bRow b l).length := by unfold bRow; rw [List.length_append, low_len]; omega
theorem sum_bats : ∀ l : List (List FactP), 4 * l.length ≤ (l.map fun b => (bRow bFact b).length).sum ∧ (∀ b ∈ l, (bRow bFact b).length ≤ (l.map fun b => (bRow bFact b).length).sum) ∧ (fr8 l).length = 8 * l.length + (l.map fun b => (bRow bFact b).length).sum
  | [] => ⟨by simp, by simp, by simp [fr8]⟩
  | b :: l => by
    obtain ⟨h1, h2, h3⟩ := sum_bats l
    have h4 := bRow_four bFact b
    rw [List.map_cons, List.sum_cons, List.length_cons]
    refine ⟨by omega, fun x hx => ?_, ?_⟩
    · rcases List.mem_cons.1 hx with rfl | hx
      · omega
      · have := h2 x hx; omega
    · rw [fr8, List.length_append, frameR_len, h3]; omega
theorem fits_of (c : CkP) (h : (bRow bText c.dims).length + (bRow bText c.meas).length + (4 + (c.views.map fun x => (enc8 x).length).sum) + (4 + (c.bats.map fun b => (bRow bFact b).length).sum) ≤ 16777216) :
    CkF c ∧ CkB c ∧ (bytesP c).1.length ≤ 1000000000 := by
  obtain ⟨h1, h2, h3⟩ := sum_bats c.bats
  rw [sum8] at h
  refine ⟨⟨⟨texts_fit (by omega), texts_fit (by omega), by omega, by omega⟩, fun b hb => ?_⟩, ⟨by rw [List.length_append]; omega, by omega, by omega, fun b hb => by have := h2 b hb; omega⟩, ?_⟩
  · have hs := h2 b hb
    have hr := row_bound bFact b
    refine ⟨?_, fun f hf => ?_⟩
    · have := flat_many bFact (fun f => by unfold bFact; rw [List.length_append]; have := bRow_four bText f.dims; omega) b
      omega
    · obtain ⟨j, hj, rfl⟩ := List.mem_iff_getElem.1 hf
      exact fact_fits (Nat.le_trans (flat_one bFact b j hj) (by omega))
  · by_cases hz : (bytesP c).2 = 0
    · obtain ⟨_, h5, _, h6⟩ := bytesP_ok c hz
      have := rBody_size c h5
      rw [h6, List.length_append, frameR_len, h3]
      omega
    · rw [bytesP_refused c hz]; simp
end Go.Proofs.YtoaiofjcjjkfaaaGreatDoor
