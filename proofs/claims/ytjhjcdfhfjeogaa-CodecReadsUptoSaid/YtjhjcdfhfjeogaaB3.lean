/- Rows of things that came in; cells laid down; texts and numbers in a row. -/
import Derived.Test.YtjhjcdfhfjeogaaB2
namespace Go.Proofs.Ytjhjcdfhfjeogaa
open Go.RowKit Go.Maps
set_option linter.unusedVariables false

/-! ### rows of anything -/
theorem cell_of_heap {w w' : World} {g o : Nat} (h : w'.heap[g]? = w.heap[g]?) : w'.cell? ⟨g, o, none⟩ = w.cell? ⟨g, o, none⟩ := by
  simp [World.cell?, h]
/-- v reads as l: elements of so many cells, in blocks of which K speaks. -/
def RowE {α : Type} (K : Nat → Prop) (w : World) (size : Nat) (E : α → List Value → Prop) (v : Value) (l : List α) : Prop :=
  ∃ A c, v = .slice A l.length c ∧ l.length ≤ maxLen ∧ (0 < l.length → ∃ g off, A = some ⟨g, off, none⟩ ∧ K g ∧ ∀ j (h : j < l.length), ∃ cs : List Value, cs.length = size ∧ (∀ i, i < size → w.cell? ⟨g, off + j * size + i, none⟩ = cs[i]?) ∧ E l[j] cs)
theorem RowE.of {α : Type} {K : Nat → Prop} {w w' : World} {size : Nat} {E E' : α → List Value → Prop} {v : Value} {l : List α} (h : RowE K w size E v l) (hk : ∀ k, K k → w'.heap[k]? = w.heap[k]?) (hE : ∀ x cs, E x cs → E' x cs) : RowE K w' size E' v l := by
  obtain ⟨A, c, e, hm, h⟩ := h
  refine ⟨A, c, e, hm, fun hl => ?_⟩
  obtain ⟨g, off, e1, hg, h⟩ := h hl
  refine ⟨g, off, e1, hg, fun j hj => ?_⟩
  obtain ⟨cs, h1, h2, h3⟩ := h j hj
  exact ⟨cs, h1, fun i hi => by rw [cell_of_heap (hk g hg)]; exact h2 i hi, hE _ _ h3⟩
theorem RowE.mono {α : Type} {K K' : Nat → Prop} {w : World} {size : Nat} {E : α → List Value → Prop} {v : Value} {l : List α} (h : RowE K w size E v l) (hk : ∀ k, K k → K' k) : RowE K' w size E v l := by
  obtain ⟨A, c, e, hm, h⟩ := h
  refine ⟨A, c, e, hm, fun hl => ?_⟩
  obtain ⟨g, off, e1, hg, h⟩ := h hl
  exact ⟨g, off, e1, hk g hg, h⟩
theorem RowE.nil {α : Type} (K : Nat → Prop) (w : World) (size : Nat) (E : α → List Value → Prop) (c : Nat) : RowE K w size E (.slice none 0 c) [] := ⟨none, c, rfl, by simp, fun h => absurd h (by simp)⟩

def strE (s : List UInt8) (cs : List Value) : Prop := cs = [sv s] ∧ s.length ≤ maxLen
def i64 (n : Int) : Prop := -9223372036854775808 ≤ n ∧ n ≤ 9223372036854775807
def intE (n : Int) (cs : List Value) : Prop := cs = [.int .i64 n] ∧ i64 n
structure CellP where
  kind : Int
  int : Int
  text : List UInt8
def CellP.val (c : CellP) : Value := .agg #[.int .i64 c.kind, .int .i64 c.int, sv c.text]
def CellP.Ok (c : CellP) : Prop := i64 c.kind ∧ i64 c.int ∧ c.text.length ≤ maxLen
def cellE (c : CellP) (cs : List Value) : Prop := cs = [.int .i64 c.kind, .int .i64 c.int, sv c.text] ∧ c.Ok
/-- A cell that may be. -/
def CellP.may (c : CellP) : Bool := (c.kind == 0 && c.int == 0 && c.text.isEmpty) || (c.kind == 1 && c.text.isEmpty) || (c.kind == 2 && c.int == 0)

set_option maxHeartbeats 400000 in
theorem maybe_any (c : CellP) (w : World) : Calls Try.prog 84 #[c.val] w fun e w' => e = .returned (.bool c.may) ∧ Below w.heap.size w w' := by
  obtain ⟨k, n, t⟩ := c
  have hb : Below w.heap.size w (w.alloc (.cells #[.int .i64 k, .int .i64 n, sv t] 93)) := (Below.refl _ _).alloc (Nat.le_refl _) _
  have HB := Lib.hid hb
  clear hb
  unfold CellP.val
  by_cases h0 : k = 0
  · subst h0
    by_cases hn : n = 0
    · subst hn
      have HM : Hid (CellP.may ⟨0, 0, t⟩ = t.isEmpty) := Lib.hid (by simp [CellP.may])
      cases ht : t.isEmpty <;> rw [ht] at HM
      all_goals
        go_enter Try.func84, Try.ntmps84
        go_wp2
        go_ret
        exact ⟨ret_bool (by rw [HM.out]), HB.out⟩
    · have HM : Hid (CellP.may ⟨0, n, t⟩ = false) := Lib.hid (by simp [CellP.may, hn])
      have h1 : (n == 0) = false := by simpa using hn
      clear hn
      go_enter Try.func84, Try.ntmps84
      go_wp2
      go_ret
      exact ⟨ret_bool (by rw [HM.out]), HB.out⟩
  · by_cases h1 : k = 1
    · subst h1
      have HM : Hid (CellP.may ⟨1, n, t⟩ = t.isEmpty) := Lib.hid (by simp [CellP.may])
      cases ht : t.isEmpty <;> rw [ht] at HM
      all_goals
        go_enter Try.func84, Try.ntmps84
        go_wp2
        go_ret
        exact ⟨ret_bool (by rw [HM.out]), HB.out⟩
    · by_cases h2 : k = 2
      · subst h2
        have HM : Hid (CellP.may ⟨2, n, t⟩ = (n == 0)) := Lib.hid (by simp [CellP.may])
        clear h0 h1
        go_enter Try.func84, Try.ntmps84
        go_wp2
        go_ret
        exact ⟨ret_bool (by rw [HM.out]), HB.out⟩
      · have HM : Hid (CellP.may ⟨k, n, t⟩ = false) := Lib.hid (by simp [CellP.may, h0, h1, h2])
        have e0 : (k == 0) = false := by simpa using h0
        have e1 : (k == 1) = false := by simpa using h1
        have e2 : (k == 2) = false := by simpa using h2
        clear h0 h1 h2
        go_enter Try.func84, Try.ntmps84
        go_wp2
        go_ret
        exact ⟨ret_bool (by rw [HM.out]), HB.out⟩

/-! ### a cell laid down -/
def WS.cell (S : WS) (c : CellP) : WS :=
  if c.may then (if c.kind = 1 then (S.byte 1).int c.int else if c.kind = 2 then (S.byte 2).text c.text else S.byte 0) else S.fail 1
theorem may_kind {c : CellP} (h : c.may = true) : c.kind = 0 ∨ c.kind = 1 ∨ c.kind = 2 := by
  unfold CellP.may at h
  simp only [Bool.or_eq_true, Bool.and_eq_true, beq_iff_eq] at h
  omega
theorem maybe_is (c : CellP) (b : Bool) (h : c.may = b) (w : World) : Calls Try.prog 84 #[.agg #[.int .i64 c.kind, .int .i64 c.int, sv c.text]] w fun e w' => e = .returned (.bool b) ∧ Below w.heap.size w w' := h ▸ maybe_any c w


set_option maxHeartbeats 1000000 in
theorem wcell_no (p : Option Nat) (v : Value) (S S' : WS) (k n : Int) (t : List UInt8) (w : World) (h : WAt w p v S) (ht : t.length ≤ maxLen) (hm : CellP.may ⟨k, n, t⟩ = false) (hv : S.cell ⟨k, n, t⟩ = S') (hS : S' = S.fail 1) :
    Calls Try.prog 46 #[wpt p, .agg #[.int .i64 k, .int .i64 n, sv t]] w (WP p v w S') := by
  have hnot : ∀ (x : Bool) (w : World), (Op.unary .not (.bool x)).run Try.prog w = .ok (.bool (!x)) w := fun _ _ => rfl
  obtain ⟨wa, hwa⟩ : ∃ wa, w.alloc (.cells #[.int .i64 k, .int .i64 n, sv t] 93) = wa := ⟨_, rfl⟩
  obtain ⟨gb, hgb⟩ : ∃ gb, w.heap.size = gb := ⟨_, rfl⟩
  have hbx : Blk wa gb 93 #[.int .i64 k, .int .i64 n, sv t] := by rw [← hwa, ← hgb]; exact Blk.new w 93 _
  have hat : WAt wa p v S := by rw [← hwa]; exact h.alloc _
  have hwl : WL p v w v wa := by rw [← hwa]; exact WL.alloc0 p v w _
  have hng : ¬ WFt p v gb := fun e => by have := h.lt gb e; omega
  have HM : Hid (∀ w, Calls Try.prog 84 #[.agg #[.int .i64 k, .int .i64 n, sv t]] w fun e w' => e = .returned (.bool false) ∧ Below w.heap.size w w') := Lib.hid fun w => maybe_is ⟨k, n, t⟩ false hm w
  have HA := Lib.hid hat
  have HW := Lib.hid hwl
  have HN := Lib.hid hng
  have HX := Lib.hid hbx
  have HT := Lib.hid ht
  have HS := Lib.hid hS
  have c0 : wa.cell? ⟨gb, 0, none⟩ = some (.int .i64 k) := hbx.cell 0
  have c1 : wa.cell? ⟨gb, 1, none⟩ = some (.int .i64 n) := hbx.cell 1
  have c2 : wa.cell? ⟨gb, 2, none⟩ = some (sv t) := hbx.cell 2
  clear hm h hbx hat hwl hng ht hv hS
  generalize hP : wpt p = P at *
  have HP := Lib.hid hP
  clear hP
  go_enter Try.func46, Try.ntmps46
  go_wp2_with fail
  refine (HM.out _).mono ?_
  rintro e w1 ⟨rfl, hb1⟩
  have hx1 := HX.out.of (hb1.block gb HX.out.lt)
  have H1 := Lib.hid (HA.out.below hb1)
  have L1 := Lib.hid (HW.out.trans (WL.below hb1))
  have d0 : w1.cell? ⟨gb, 0, none⟩ = some (.int .i64 k) := hx1.cell 0
  have d1 : w1.cell? ⟨gb, 1, none⟩ = some (.int .i64 n) := hx1.cell 1
  have d2 : w1.cell? ⟨gb, 2, none⟩ = some (sv t) := hx1.cell 2
  have X1 := Lib.hid hx1
  clear hb1 hx1 c0 c1 c2 hwa hgb
  go_wp2_with fail
  rw [← HP.out]
  refine (wfail_any p v S 1 _ H1.out).mono ?_
  rintro e w2 ⟨rfl, v2, h2, l2⟩
  go_wp2
  go_end0
  exact ⟨rfl, v2, by rw [HS.out]; exact h2, L1.out.trans l2⟩

set_option maxHeartbeats 1000000 in
theorem wcell_0 (p : Option Nat) (v : Value) (S S' : WS) (n : Int) (t : List UInt8) (w : World) (h : WAt w p v S) (ht : t.length ≤ maxLen) (hm : CellP.may ⟨0, n, t⟩ = true) (hv : S.cell ⟨0, n, t⟩ = S') (hS : S' = S.byte 0) :
    Calls Try.prog 46 #[wpt p, .agg #[.int .i64 0, .int .i64 n, sv t]] w (WP p v w S') := by
  have hnot : ∀ (x : Bool) (w : World), (Op.unary .not (.bool x)).run Try.prog w = .ok (.bool (!x)) w := fun _ _ => rfl
  obtain ⟨wa, hwa⟩ : ∃ wa, w.alloc (.cells #[.int .i64 0, .int .i64 n, sv t] 93) = wa := ⟨_, rfl⟩
  obtain ⟨gb, hgb⟩ : ∃ gb, w.heap.size = gb := ⟨_, rfl⟩
  have hbx : Blk wa gb 93 #[.int .i64 0, .int .i64 n, sv t] := by rw [← hwa, ← hgb]; exact Blk.new w 93 _
  have hat : WAt wa p v S := by rw [← hwa]; exact h.alloc _
  have hwl : WL p v w v wa := by rw [← hwa]; exact WL.alloc0 p v w _
  have hng : ¬ WFt p v gb := fun e => by have := h.lt gb e; omega
  have HM : Hid (∀ w, Calls Try.prog 84 #[.agg #[.int .i64 0, .int .i64 n, sv t]] w fun e w' => e = .returned (.bool true) ∧ Below w.heap.size w w') := Lib.hid fun w => maybe_is ⟨0, n, t⟩ true hm w
  have HA := Lib.hid hat
  have HW := Lib.hid hwl
  have HN := Lib.hid hng
  have HX := Lib.hid hbx
  have HT := Lib.hid ht
  have HS := Lib.hid hS
  have c0 : wa.cell? ⟨gb, 0, none⟩ = some (.int .i64 0) := hbx.cell 0
  have c1 : wa.cell? ⟨gb, 1, none⟩ = some (.int .i64 n) := hbx.cell 1
  have c2 : wa.cell? ⟨gb, 2, none⟩ = some (sv t) := hbx.cell 2
  clear hm h hbx hat hwl hng ht hv hS
  generalize hP : wpt p = P at *
  have HP := Lib.hid hP
  clear hP
  go_enter Try.func46, Try.ntmps46
  go_wp2_with fail
  refine (HM.out _).mono ?_
  rintro e w1 ⟨rfl, hb1⟩
  have hx1 := HX.out.of (hb1.block gb HX.out.lt)
  have H1 := Lib.hid (HA.out.below hb1)
  have L1 := Lib.hid (HW.out.trans (WL.below hb1))
  have d0 : w1.cell? ⟨gb, 0, none⟩ = some (.int .i64 0) := hx1.cell 0
  have d1 : w1.cell? ⟨gb, 1, none⟩ = some (.int .i64 n) := hx1.cell 1
  have d2 : w1.cell? ⟨gb, 2, none⟩ = some (sv t) := hx1.cell 2
  have X1 := Lib.hid hx1
  clear hb1 hx1 c0 c1 c2 hwa hgb
  go_wp2_with fail
  rw [← HP.out]
  refine (wbyte_any p v S 0 _ H1.out (by omega)).mono ?_
  rintro e w2 ⟨rfl, v2, h2, l2⟩
  have hx2 := X1.out.of (l2.fr.block gb X1.out.lt HN.out)
  have H2 := Lib.hid h2
  have L2 := Lib.hid (L1.out.trans l2)
  have e0 : w2.cell? ⟨gb, 0, none⟩ = some (.int .i64 0) := hx2.cell 0
  have e1 : w2.cell? ⟨gb, 1, none⟩ = some (.int .i64 n) := hx2.cell 1
  have e2 : w2.cell? ⟨gb, 2, none⟩ = some (sv t) := hx2.cell 2
  clear h2 l2 hx2 d0 d1 d2
  rw [HP.out]
  go_wp2
  go_end0
  exact ⟨rfl, v2, by rw [HS.out]; exact H2.out, L2.out⟩

set_option maxHeartbeats 1000000 in
theorem wcell_1 (p : Option Nat) (v : Value) (S S' : WS) (n : Int) (t : List UInt8) (w : World) (h : WAt w p v S) (ht : t.length ≤ maxLen) (hm : CellP.may ⟨1, n, t⟩ = true) (hv : S.cell ⟨1, n, t⟩ = S') (hS : S' = (S.byte 1).int n) :
    Calls Try.prog 46 #[wpt p, .agg #[.int .i64 1, .int .i64 n, sv t]] w (WP p v w S') := by
  have hnot : ∀ (x : Bool) (w : World), (Op.unary .not (.bool x)).run Try.prog w = .ok (.bool (!x)) w := fun _ _ => rfl
  obtain ⟨wa, hwa⟩ : ∃ wa, w.alloc (.cells #[.int .i64 1, .int .i64 n, sv t] 93) = wa := ⟨_, rfl⟩
  obtain ⟨gb, hgb⟩ : ∃ gb, w.heap.size = gb := ⟨_, rfl⟩
  have hbx : Blk wa gb 93 #[.int .i64 1, .int .i64 n, sv t] := by rw [← hwa, ← hgb]; exact Blk.new w 93 _
  have hat : WAt wa p v S := by rw [← hwa]; exact h.alloc _
  have hwl : WL p v w v wa := by rw [← hwa]; exact WL.alloc0 p v w _
  have hng : ¬ WFt p v gb := fun e => by have := h.lt gb e; omega
  have HM : Hid (∀ w, Calls Try.prog 84 #[.agg #[.int .i64 1, .int .i64 n, sv t]] w fun e w' => e = .returned (.bool true) ∧ Below w.heap.size w w') := Lib.hid fun w => maybe_is ⟨1, n, t⟩ true hm w
  have HA := Lib.hid hat
  have HW := Lib.hid hwl
  have HN := Lib.hid hng
  have HX := Lib.hid hbx
  have HT := Lib.hid ht
  have HS := Lib.hid hS
  have c0 : wa.cell? ⟨gb, 0, none⟩ = some (.int .i64 1) := hbx.cell 0
  have c1 : wa.cell? ⟨gb, 1, none⟩ = some (.int .i64 n) := hbx.cell 1
  have c2 : wa.cell? ⟨gb, 2, none⟩ = some (sv t) := hbx.cell 2
  clear hm h hbx hat hwl hng ht hv hS
  generalize hP : wpt p = P at *
  have HP := Lib.hid hP
  clear hP
  go_enter Try.func46, Try.ntmps46
  go_wp2_with fail
  refine (HM.out _).mono ?_
  rintro e w1 ⟨rfl, hb1⟩
  have hx1 := HX.out.of (hb1.block gb HX.out.lt)
  have H1 := Lib.hid (HA.out.below hb1)
  have L1 := Lib.hid (HW.out.trans (WL.below hb1))
  have d0 : w1.cell? ⟨gb, 0, none⟩ = some (.int .i64 1) := hx1.cell 0
  have d1 : w1.cell? ⟨gb, 1, none⟩ = some (.int .i64 n) := hx1.cell 1
  have d2 : w1.cell? ⟨gb, 2, none⟩ = some (sv t) := hx1.cell 2
  have X1 := Lib.hid hx1
  clear hb1 hx1 c0 c1 c2 hwa hgb
  go_wp2_with fail
  rw [← HP.out]
  refine (wbyte_any p v S 1 _ H1.out (by omega)).mono ?_
  rintro e w2 ⟨rfl, v2, h2, l2⟩
  have hx2 := X1.out.of (l2.fr.block gb X1.out.lt HN.out)
  have H2 := Lib.hid h2
  have L2 := Lib.hid (L1.out.trans l2)
  have e0 : w2.cell? ⟨gb, 0, none⟩ = some (.int .i64 1) := hx2.cell 0
  have e1 : w2.cell? ⟨gb, 1, none⟩ = some (.int .i64 n) := hx2.cell 1
  have e2 : w2.cell? ⟨gb, 2, none⟩ = some (sv t) := hx2.cell 2
  clear h2 l2 hx2 d0 d1 d2
  rw [HP.out]
  go_wp2_with fail
  rw [← HP.out]
  refine (wint_any p v2 (S.byte 1) n _ H2.out).mono ?_
  rintro e w3 ⟨rfl, v3, h3, l3⟩
  go_wp2
  go_end0
  exact ⟨rfl, v3, by rw [HS.out]; exact h3, L2.out.trans l3⟩

set_option maxHeartbeats 1000000 in
theorem wcell_2 (p : Option Nat) (v : Value) (S S' : WS) (n : Int) (t : List UInt8) (w : World) (h : WAt w p v S) (ht : t.length ≤ maxLen) (hm : CellP.may ⟨2, n, t⟩ = true) (hv : S.cell ⟨2, n, t⟩ = S') (hS : S' = (S.byte 2).text t) :
    Calls Try.prog 46 #[wpt p, .agg #[.int .i64 2, .int .i64 n, sv t]] w (WP p v w S') := by
  have hnot : ∀ (x : Bool) (w : World), (Op.unary .not (.bool x)).run Try.prog w = .ok (.bool (!x)) w := fun _ _ => rfl
  obtain ⟨wa, hwa⟩ : ∃ wa, w.alloc (.cells #[.int .i64 2, .int .i64 n, sv t] 93) = wa := ⟨_, rfl⟩
  obtain ⟨gb, hgb⟩ : ∃ gb, w.heap.size = gb := ⟨_, rfl⟩
  have hbx : Blk wa gb 93 #[.int .i64 2, .int .i64 n, sv t] := by rw [← hwa, ← hgb]; exact Blk.new w 93 _
  have hat : WAt wa p v S := by rw [← hwa]; exact h.alloc _
  have hwl : WL p v w v wa := by rw [← hwa]; exact WL.alloc0 p v w _
  have hng : ¬ WFt p v gb := fun e => by have := h.lt gb e; omega
  have HM : Hid (∀ w, Calls Try.prog 84 #[.agg #[.int .i64 2, .int .i64 n, sv t]] w fun e w' => e = .returned (.bool true) ∧ Below w.heap.size w w') := Lib.hid fun w => maybe_is ⟨2, n, t⟩ true hm w
  have HA := Lib.hid hat
  have HW := Lib.hid hwl
  have HN := Lib.hid hng
  have HX := Lib.hid hbx
  have HT := Lib.hid ht
  have HS := Lib.hid hS
  have c0 : wa.cell? ⟨gb, 0, none⟩ = some (.int .i64 2) := hbx.cell 0
  have c1 : wa.cell? ⟨gb, 1, none⟩ = some (.int .i64 n) := hbx.cell 1
  have c2 : wa.cell? ⟨gb, 2, none⟩ = some (sv t) := hbx.cell 2
  clear hm h hbx hat hwl hng ht hv hS
  generalize hP : wpt p = P at *
  have HP := Lib.hid hP
  clear hP
  go_enter Try.func46, Try.ntmps46
  go_wp2_with fail
  refine (HM.out _).mono ?_
  rintro e w1 ⟨rfl, hb1⟩
  have hx1 := HX.out.of (hb1.block gb HX.out.lt)
  have H1 := Lib.hid (HA.out.below hb1)
  have L1 := Lib.hid (HW.out.trans (WL.below hb1))
  have d0 : w1.cell? ⟨gb, 0, none⟩ = some (.int .i64 2) := hx1.cell 0
  have d1 : w1.cell? ⟨gb, 1, none⟩ = some (.int .i64 n) := hx1.cell 1
  have d2 : w1.cell? ⟨gb, 2, none⟩ = some (sv t) := hx1.cell 2
  have X1 := Lib.hid hx1
  clear hb1 hx1 c0 c1 c2 hwa hgb
  go_wp2_with fail
  rw [← HP.out]
  refine (wbyte_any p v S 2 _ H1.out (by omega)).mono ?_
  rintro e w2 ⟨rfl, v2, h2, l2⟩
  have hx2 := X1.out.of (l2.fr.block gb X1.out.lt HN.out)
  have H2 := Lib.hid h2
  have L2 := Lib.hid (L1.out.trans l2)
  have e0 : w2.cell? ⟨gb, 0, none⟩ = some (.int .i64 2) := hx2.cell 0
  have e1 : w2.cell? ⟨gb, 1, none⟩ = some (.int .i64 n) := hx2.cell 1
  have e2 : w2.cell? ⟨gb, 2, none⟩ = some (sv t) := hx2.cell 2
  clear h2 l2 hx2 d0 d1 d2
  rw [HP.out]
  go_wp2_with fail
  rw [← HP.out]
  refine (wtext_any p v2 (S.byte 2) t _ H2.out HT.out).mono ?_
  rintro e w3 ⟨rfl, v3, h3, l3⟩
  go_wp2
  go_end0
  exact ⟨rfl, v3, by rw [HS.out]; exact h3, L2.out.trans l3⟩

theorem wcell_any (p : Option Nat) (v : Value) (S : WS) (c : CellP) (w : World) (h : WAt w p v S) (hc : c.text.length ≤ maxLen) : Calls Try.prog 46 #[wpt p, c.val] w (WP p v w (S.cell c)) := by
  obtain ⟨k, n, t⟩ := c
  cases hm : CellP.may ⟨k, n, t⟩ with
  | false => exact wcell_no p v S _ k n t w h hc hm rfl (by unfold WS.cell; rw [hm]; rfl)
  | true =>
    rcases may_kind hm with e | e | e <;> (obtain rfl : k = _ := e)
    · exact wcell_0 p v S _ n t w h hc hm rfl (by unfold WS.cell; rw [hm]; rfl)
    · exact wcell_1 p v S _ n t w h hc hm rfl (by unfold WS.cell; rw [hm]; rfl)
    · exact wcell_2 p v S _ n t w h hc hm rfl (by unfold WS.cell; rw [hm]; rfl)
end Go.Proofs.Ytjhjcdfhfjeogaa
