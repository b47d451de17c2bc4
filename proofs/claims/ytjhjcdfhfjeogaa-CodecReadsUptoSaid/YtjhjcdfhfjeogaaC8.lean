/- The rows by their calls; a fact, a schema taken up. -/
import Derived.Test.YtjhjcdfhfjeogaaC7
namespace Go.Proofs.Ytjhjcdfhfjeogaa
open Go.RowKit Go.Maps
set_option linter.unusedVariables false

theorem RowE.bound {α : Type} {K : Nat → Prop} {w : World} {size : Nat} {E : α → List Value → Prop} {v : Value} {l : List α} (h : RowE K w size E v l) (hs : 0 < size) : RowE (fun k => K k ∧ k < w.heap.size) w size E v l := by
  obtain ⟨A, c, e, hm, h⟩ := h
  refine ⟨A, c, e, hm, fun hl => ?_⟩
  obtain ⟨g, off, e1, hg, h⟩ := h hl
  refine ⟨g, off, e1, ⟨hg, ?_⟩, h⟩
  obtain ⟨cs, h1, h2, _⟩ := h 0 hl
  have h3 := h2 0 hs
  rw [List.getElem?_eq_getElem (by omega)] at h3
  exact World.block_lt_of_cell? _ _ h3
def RS.texts (S : RS) : List (List UInt8) × RS := S.several RS.text 4
def RS.cells (S : RS) : List CellP × RS := S.several RS.cell 1
def RS.ints (S : RS) : List Int × RS := S.several RS.int 8
def FactP.zero : FactP := ⟨[], []⟩
def RS.fact (S : RS) : FactP × RS := (if S.texts.2.ints.2.fault = 0 then ⟨S.texts.1, S.texts.2.ints.1⟩ else FactP.zero, S.texts.2.ints.2)
def RS.schema (S : RS) : (List (List UInt8) × List (List UInt8)) × RS := (if S.texts.2.texts.2.fault = 0 then (S.texts.1, S.texts.2.texts.1) else ([], []), S.texts.2.texts.2)
theorem ints_any (p : Option Nat) (S : RS) (w : World) (h : RAt w p S) : Calls Try.prog 92 #[wpt p, .int .i64 8, .func (.func 58) #[wpt p] #[]] w (RPr p w 1 intG S.ints.1 S.ints.2) := several_ints p S 8 (by omega) (by omega) w h
set_option maxHeartbeats 400000 in
theorem rtexts_any (p : Option Nat) (S : RS) (w : World) (h : RAt w p S) : Calls Try.prog 60 #[wpt p] w (RPr p w 1 strG S.texts.1 S.texts.2) := by
  have HS : Hid (Calls Try.prog 89 #[wpt p, .int .i64 4, .func (.func 36) #[wpt p] #[]] w (RPr p w 1 strG S.texts.1 S.texts.2)) := Lib.hid (several_texts p S 4 (by omega) (by omega) w h)
  have hmf := mkf
  clear h
  generalize hP : wpt p = P at *
  clear hP
  go_enter Try.func60, Try.ntmps60
  go_wp2_with fail
  refine HS.out.mono ?_
  rintro e w1 ⟨V, rfl, h1, h2, h3⟩
  go_wp2
  go_ret
  exact ⟨V, rfl, h1, h2, h3⟩
set_option maxHeartbeats 400000 in
theorem rcells_any (p : Option Nat) (S : RS) (w : World) (h : RAt w p S) : Calls Try.prog 62 #[wpt p] w (RPr p w 3 cellG S.cells.1 S.cells.2) := by
  have HS : Hid (Calls Try.prog 91 #[wpt p, .int .i64 1, .func (.func 61) #[wpt p] #[]] w (RPr p w 3 cellG S.cells.1 S.cells.2)) := Lib.hid (several_cells p S 1 (by omega) (by omega) w h)
  have hmf := mkf
  clear h
  generalize hP : wpt p = P at *
  clear hP
  go_enter Try.func62, Try.ntmps62
  go_wp2_with fail
  refine HS.out.mono ?_
  rintro e w1 ⟨V, rfl, h1, h2, h3⟩
  go_wp2
  go_ret
  exact ⟨V, rfl, h1, h2, h3⟩
/-- A call that tells two rows. -/
def RP2i (p : Option Nat) (w : World) (d : List (List UInt8)) (m : List Int) (S' : RS) (e : Ending) (w' : World) : Prop :=
  ∃ dv mv, e = .returned (.agg #[dv, mv]) ∧ RAt w' p S' ∧ Fr (RFt p) w w' ∧ RowE (fun k => w.heap.size ≤ k) w' 1 strE dv d ∧ RowE (fun k => w.heap.size ≤ k) w' 1 intE mv m
theorem told93i (p : Option Nat) (S : RS) (K : Nat → Prop) (dv mv : Value) (d : List (List UInt8)) (m : List Int) (w : World) (h : RAt w p S) (hd : RowE K w 1 strE dv d) (hm : RowE K w 1 intE mv m) :
    Calls Try.prog 93 #[wpt p, .agg #[dv, mv]] w fun e w' => ∃ A1 n1 c1 A2 n2 c2, e = .returned (.agg #[.slice A1 n1 c1, .slice A2 n2 c2]) ∧ Below w.heap.size w w' ∧ RowE K w 1 strE (.slice A1 n1 c1) (if S.fault = 0 then d else []) ∧ RowE K w 1 intE (.slice A2 n2 c2) (if S.fault = 0 then m else []) := by
  obtain ⟨A1, n1, c1, rfl⟩ := hd.slice
  obtain ⟨A2, n2, c2, rfl⟩ := hm.slice
  refine (told93 p S A1 A2 n1 n2 c1 c2 w h).mono ?_
  rintro e w' ⟨rfl, hb⟩
  by_cases h0 : S.fault = 0
  · rw [if_pos h0, if_pos h0, if_pos h0]; exact ⟨_, _, _, _, _, _, rfl, hb, hd, hm⟩
  · rw [if_neg h0, if_neg h0, if_neg h0]; exact ⟨_, _, _, _, _, _, rfl, hb, RowE.nil _ _ _ _ _, RowE.nil _ _ _ _ _⟩
set_option maxRecDepth 100000 in
set_option maxHeartbeats 2000000 in
theorem rfact_any (p : Option Nat) (S : RS) (w : World) (h : RAt w p S) : Calls Try.prog 63 #[wpt p] w (RP2i p w S.fact.1.dims S.fact.1.meas S.fact.2) := by
  obtain ⟨w0, hw0⟩ : ∃ w0, w.alloc (.cells #[.slice none 0 0, .slice none 0 0] 99) = w0 := ⟨_, rfl⟩
  obtain ⟨gr, hgr⟩ : ∃ gr, w.heap.size = gr := ⟨_, rfl⟩
  have h0 : RAt w0 p S := by rw [← hw0]; exact h.alloc _
  have hb0 : Blk w0 gr 99 #[.slice none 0 0, .slice none 0 0] := by rw [← hw0, ← hgr]; exact Blk.new w 99 _
  have hf0 : Fr (RFt p) w w0 := by rw [← hw0]; exact (Fr.refl _ w).alloc _
  have hs0 : gr < w0.heap.size := hb0.lt
  have hnr : ¬ RFt p gr := fun e => by have := h.lt gr e; omega
  have H0 := Lib.hid h0
  have X0 := Lib.hid hb0
  have F0 := Lib.hid hf0
  have S0 := Lib.hid hs0
  have NR := Lib.hid hnr
  have GR := Lib.hid hgr
  have PB : Hid (∀ k, RFt p k → k < gr) := Lib.hid fun k hk => hgr ▸ h.lt k hk
  have hmf := mkf
  have HV1 : Hid (S.fact.2 = S.texts.2.ints.2) := Lib.hid rfl
  have HV2 : Hid (S.fact.1.dims = if S.texts.2.ints.2.fault = 0 then S.texts.1 else []) := Lib.hid (by simp only [RS.fact]; split <;> rfl)
  have HV3 : Hid (S.fact.1.meas = if S.texts.2.ints.2.fault = 0 then S.texts.2.ints.1 else []) := Lib.hid (by simp only [RS.fact]; split <;> rfl)
  clear h h0 hb0 hf0 hnr hs0
  generalize hP : wpt p = P at *
  have HP := Lib.hid hP
  clear hP
  go_enter Try.func63, Try.ntmps63
  go_wp2_with fail
  rw [← HP.out]
  refine (rtexts_any p S w0 H0.out).mono ?_
  rintro e w1 ⟨dv, rfl, h1, f1, r1⟩
  have hx1 := X0.out.of (f1.block gr X0.out.lt NR.out)
  have H1 := Lib.hid h1
  have hr1 := (r1.bound (by omega)).mono (K' := fun k => gr < k ∧ k < w1.heap.size) fun k hk => ⟨by have := S0.out; have := hk.1; omega, hk.2⟩
  have R1 := Lib.hid hr1
  have X1 := Lib.hid hx1
  have F1 := Lib.hid (F0.out.then f1)
  clear h1 f1 r1 hx1 hw0 hgr hr1
  rw [HP.out]
  go_wp2_with fail
  rw [← HP.out]
  refine (ints_any p S.texts.2 w1 H1.out).mono ?_
  rintro e w2 ⟨mv, rfl, h2, f2, r2⟩
  have hx2 := X1.out.of (f2.block gr X1.out.lt NR.out)
  have H2 := Lib.hid h2
  have hr2 : RowE (fun k => gr < k ∧ k < w2.heap.size) w2 1 strE dv S.texts.1 := (R1.out.of (fun k hk => f2.block k hk.2 fun e => by have := PB.out k e; omega) fun _ _ h => h).mono fun k hk => ⟨hk.1, Nat.lt_of_lt_of_le hk.2 f2.size⟩
  have hr3 : RowE (fun k => gr < k ∧ k < w2.heap.size) w2 1 intE mv S.texts.2.ints.1 := (r2.bound (by omega)).mono fun k hk => ⟨by have := X1.out.lt; have := hk.1; omega, hk.2⟩
  have R2 := Lib.hid hr2
  have R3 := Lib.hid hr3
  have X2 := Lib.hid hx2
  have F2 := Lib.hid (F1.out.then f2)
  obtain ⟨A1, n1, c1, rfl⟩ := hr2.slice
  obtain ⟨A2, n2, c2, rfl⟩ := hr3.slice
  clear h2 f2 r2 hx2 hr2 hr3 R1 X1 F1 H1
  rw [HP.out]
  go_wp2_with fail
  rw [← HP.out]
  refine (told93i p S.texts.2.ints.2 _ _ _ _ _ w2 H2.out R2.out R3.out).mono ?_
  rintro e w3 ⟨B1, m1, k1, B2, m2, k2, rfl, hb3, q1, q2⟩
  have hx3 := X2.out.of (hb3.block gr X2.out.lt)
  have z0 : w3.cell? ⟨gr, 0, none⟩ = some (.slice none 0 0) := hx3.cell 0
  have z1 : w3.cell? ⟨gr, 1, none⟩ = some (.slice none 0 0) := hx3.cell 1
  have y0 := hx3.frozen 0
  have y1 := hx3.frozen 1
  have hfin : RAt ((w3.setCell ⟨gr, 0, none⟩ (.slice B1 m1 k1)).setCell ⟨gr, 1, none⟩ (.slice B2 m2 k2)) p S.texts.2.ints.2 ∧ Fr (RFt p) w ((w3.setCell ⟨gr, 0, none⟩ (.slice B1 m1 k1)).setCell ⟨gr, 1, none⟩ (.slice B2 m2 k2)) ∧
      (∀ k, gr < k ∧ k < w2.heap.size → ((w3.setCell ⟨gr, 0, none⟩ (.slice B1 m1 k1)).setCell ⟨gr, 1, none⟩ (.slice B2 m2 k2)).heap[k]? = w2.heap[k]?) := by
    have hset : ∀ k, k ≠ gr → ((w3.setCell ⟨gr, 0, none⟩ (.slice B1 m1 k1)).setCell ⟨gr, 1, none⟩ (.slice B2 m2 k2)).heap[k]? = w3.heap[k]? := fun k hk => by
      rw [Below.heap_setCell _ _ _ k hk, Below.heap_setCell _ _ _ k hk]
    refine ⟨(H2.out.below hb3).of fun k hk => hset k fun e => NR.out (e ▸ hk), ?_, fun k hk => ?_⟩
    · have hlt : ¬ gr < w.heap.size := by have := GR.out; omega
      exact ((F2.out.then (Fr.of_below hb3).any).setCell (p := ⟨gr, 0, none⟩) (fun h => absurd h hlt) _).setCell (p := ⟨gr, 1, none⟩) (fun h => absurd h hlt) _
    · rw [hset k (by omega)]; exact hb3.block k hk.2
  have HF := Lib.hid hfin
  have Q1 := Lib.hid q1
  have Q2 := Lib.hid q2
  clear hfin q1 q2 hb3 hx3
  go_wp2
  refine bodyPost_ret (v := .agg #[.slice B1 m1 k1, .slice B2 m2 k2]) (by simp [results, Try.results63, go_sem, z0, z1]) rfl ?_
  obtain ⟨e1, e2, e3⟩ := HF.out
  have hkw : ∀ k, gr < k ∧ k < w2.heap.size → w.heap.size ≤ k := fun k hk => by have := GR.out; omega
  exact ⟨_, _, rfl, by rw [HV1.out]; exact e1, e2, by rw [HV2.out]; exact (Q1.out.of e3 fun _ _ h => h).mono hkw, by rw [HV3.out]; exact (Q2.out.of e3 fun _ _ h => h).mono hkw⟩
/-- A call that tells two rows. -/
def RP2t (p : Option Nat) (w : World) (d : List (List UInt8)) (m : List (List UInt8)) (S' : RS) (e : Ending) (w' : World) : Prop :=
  ∃ dv mv, e = .returned (.agg #[dv, mv]) ∧ RAt w' p S' ∧ Fr (RFt p) w w' ∧ RowE (fun k => w.heap.size ≤ k) w' 1 strE dv d ∧ RowE (fun k => w.heap.size ≤ k) w' 1 strE mv m
theorem told95t (p : Option Nat) (S : RS) (K : Nat → Prop) (dv mv : Value) (d : List (List UInt8)) (m : List (List UInt8)) (w : World) (h : RAt w p S) (hd : RowE K w 1 strE dv d) (hm : RowE K w 1 strE mv m) :
    Calls Try.prog 95 #[wpt p, .agg #[dv, mv]] w fun e w' => ∃ A1 n1 c1 A2 n2 c2, e = .returned (.agg #[.slice A1 n1 c1, .slice A2 n2 c2]) ∧ Below w.heap.size w w' ∧ RowE K w 1 strE (.slice A1 n1 c1) (if S.fault = 0 then d else []) ∧ RowE K w 1 strE (.slice A2 n2 c2) (if S.fault = 0 then m else []) := by
  obtain ⟨A1, n1, c1, rfl⟩ := hd.slice
  obtain ⟨A2, n2, c2, rfl⟩ := hm.slice
  refine (told95 p S A1 A2 n1 n2 c1 c2 w h).mono ?_
  rintro e w' ⟨rfl, hb⟩
  by_cases h0 : S.fault = 0
  · rw [if_pos h0, if_pos h0, if_pos h0]; exact ⟨_, _, _, _, _, _, rfl, hb, hd, hm⟩
  · rw [if_neg h0, if_neg h0, if_neg h0]; exact ⟨_, _, _, _, _, _, rfl, hb, RowE.nil _ _ _ _ _, RowE.nil _ _ _ _ _⟩
set_option maxRecDepth 100000 in
set_option maxHeartbeats 2000000 in
theorem rschema_any (p : Option Nat) (S : RS) (w : World) (h : RAt w p S) : Calls Try.prog 65 #[wpt p] w (RP2t p w S.schema.1.1 S.schema.1.2 S.schema.2) := by
  obtain ⟨w0, hw0⟩ : ∃ w0, w.alloc (.cells #[.slice none 0 0, .slice none 0 0] 104) = w0 := ⟨_, rfl⟩
  obtain ⟨gr, hgr⟩ : ∃ gr, w.heap.size = gr := ⟨_, rfl⟩
  have h0 : RAt w0 p S := by rw [← hw0]; exact h.alloc _
  have hb0 : Blk w0 gr 104 #[.slice none 0 0, .slice none 0 0] := by rw [← hw0, ← hgr]; exact Blk.new w 104 _
  have hf0 : Fr (RFt p) w w0 := by rw [← hw0]; exact (Fr.refl _ w).alloc _
  have hs0 : gr < w0.heap.size := hb0.lt
  have hnr : ¬ RFt p gr := fun e => by have := h.lt gr e; omega
  have H0 := Lib.hid h0
  have X0 := Lib.hid hb0
  have F0 := Lib.hid hf0
  have S0 := Lib.hid hs0
  have NR := Lib.hid hnr
  have GR := Lib.hid hgr
  have PB : Hid (∀ k, RFt p k → k < gr) := Lib.hid fun k hk => hgr ▸ h.lt k hk
  have hmf := mkf
  have HV1 : Hid (S.schema.2 = S.texts.2.texts.2) := Lib.hid rfl
  have HV2 : Hid (S.schema.1.1 = if S.texts.2.texts.2.fault = 0 then S.texts.1 else []) := Lib.hid (by simp only [RS.schema]; split <;> rfl)
  have HV3 : Hid (S.schema.1.2 = if S.texts.2.texts.2.fault = 0 then S.texts.2.texts.1 else []) := Lib.hid (by simp only [RS.schema]; split <;> rfl)
  clear h h0 hb0 hf0 hnr hs0
  generalize hP : wpt p = P at *
  have HP := Lib.hid hP
  clear hP
  go_enter Try.func65, Try.ntmps65
  go_wp2_with fail
  rw [← HP.out]
  refine (rtexts_any p S w0 H0.out).mono ?_
  rintro e w1 ⟨dv, rfl, h1, f1, r1⟩
  have hx1 := X0.out.of (f1.block gr X0.out.lt NR.out)
  have H1 := Lib.hid h1
  have hr1 := (r1.bound (by omega)).mono (K' := fun k => gr < k ∧ k < w1.heap.size) fun k hk => ⟨by have := S0.out; have := hk.1; omega, hk.2⟩
  have R1 := Lib.hid hr1
  have X1 := Lib.hid hx1
  have F1 := Lib.hid (F0.out.then f1)
  clear h1 f1 r1 hx1 hw0 hgr hr1
  rw [HP.out]
  go_wp2_with fail
  rw [← HP.out]
  refine (rtexts_any p S.texts.2 w1 H1.out).mono ?_
  rintro e w2 ⟨mv, rfl, h2, f2, r2⟩
  have hx2 := X1.out.of (f2.block gr X1.out.lt NR.out)
  have H2 := Lib.hid h2
  have hr2 : RowE (fun k => gr < k ∧ k < w2.heap.size) w2 1 strE dv S.texts.1 := (R1.out.of (fun k hk => f2.block k hk.2 fun e => by have := PB.out k e; omega) fun _ _ h => h).mono fun k hk => ⟨hk.1, Nat.lt_of_lt_of_le hk.2 f2.size⟩
  have hr3 : RowE (fun k => gr < k ∧ k < w2.heap.size) w2 1 strE mv S.texts.2.texts.1 := (r2.bound (by omega)).mono fun k hk => ⟨by have := X1.out.lt; have := hk.1; omega, hk.2⟩
  have R2 := Lib.hid hr2
  have R3 := Lib.hid hr3
  have X2 := Lib.hid hx2
  have F2 := Lib.hid (F1.out.then f2)
  obtain ⟨A1, n1, c1, rfl⟩ := hr2.slice
  obtain ⟨A2, n2, c2, rfl⟩ := hr3.slice
  clear h2 f2 r2 hx2 hr2 hr3 R1 X1 F1 H1
  rw [HP.out]
  go_wp2_with fail
  rw [← HP.out]
  refine (told95t p S.texts.2.texts.2 _ _ _ _ _ w2 H2.out R2.out R3.out).mono ?_
  rintro e w3 ⟨B1, m1, k1, B2, m2, k2, rfl, hb3, q1, q2⟩
  have hx3 := X2.out.of (hb3.block gr X2.out.lt)
  have z0 : w3.cell? ⟨gr, 0, none⟩ = some (.slice none 0 0) := hx3.cell 0
  have z1 : w3.cell? ⟨gr, 1, none⟩ = some (.slice none 0 0) := hx3.cell 1
  have y0 := hx3.frozen 0
  have y1 := hx3.frozen 1
  have hfin : RAt ((w3.setCell ⟨gr, 0, none⟩ (.slice B1 m1 k1)).setCell ⟨gr, 1, none⟩ (.slice B2 m2 k2)) p S.texts.2.texts.2 ∧ Fr (RFt p) w ((w3.setCell ⟨gr, 0, none⟩ (.slice B1 m1 k1)).setCell ⟨gr, 1, none⟩ (.slice B2 m2 k2)) ∧
      (∀ k, gr < k ∧ k < w2.heap.size → ((w3.setCell ⟨gr, 0, none⟩ (.slice B1 m1 k1)).setCell ⟨gr, 1, none⟩ (.slice B2 m2 k2)).heap[k]? = w2.heap[k]?) := by
    have hset : ∀ k, k ≠ gr → ((w3.setCell ⟨gr, 0, none⟩ (.slice B1 m1 k1)).setCell ⟨gr, 1, none⟩ (.slice B2 m2 k2)).heap[k]? = w3.heap[k]? := fun k hk => by
      rw [Below.heap_setCell _ _ _ k hk, Below.heap_setCell _ _ _ k hk]
    refine ⟨(H2.out.below hb3).of fun k hk => hset k fun e => NR.out (e ▸ hk), ?_, fun k hk => ?_⟩
    · have hlt : ¬ gr < w.heap.size := by have := GR.out; omega
      exact ((F2.out.then (Fr.of_below hb3).any).setCell (p := ⟨gr, 0, none⟩) (fun h => absurd h hlt) _).setCell (p := ⟨gr, 1, none⟩) (fun h => absurd h hlt) _
    · rw [hset k (by omega)]; exact hb3.block k hk.2
  have HF := Lib.hid hfin
  have Q1 := Lib.hid q1
  have Q2 := Lib.hid q2
  clear hfin q1 q2 hb3 hx3
  go_wp2
  refine bodyPost_ret (v := .agg #[.slice B1 m1 k1, .slice B2 m2 k2]) (by simp [results, Try.results65, go_sem, z0, z1]) rfl ?_
  obtain ⟨e1, e2, e3⟩ := HF.out
  have hkw : ∀ k, gr < k ∧ k < w2.heap.size → w.heap.size ≤ k := fun k hk => by have := GR.out; omega
  exact ⟨_, _, rfl, by rw [HV1.out]; exact e1, e2, by rw [HV2.out]; exact (Q1.out.of e3 fun _ _ h => h).mono hkw, by rw [HV3.out]; exact (Q2.out.of e3 fun _ _ h => h).mono hkw⟩
end Go.Proofs.Ytjhjcdfhfjeogaa
