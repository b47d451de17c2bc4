/- The rows by their calls; a fact, a schema taken up. -/
import Derived.Test.YtoaiofjcjjkfaaaGreatDoorM3
import Derived.Lib.QuietBelow
import Derived.Deep.DeepCutAuto
import Derived.Deep.RegionLaw
import Derived.Laws.StructEq
import Derived.Shelf.Strconv.Itoa3
import Derived.Shelf.Strconv.AtoiAll
import Derived.Shelf.Strconv.ErrVarAll
import Derived.Shelf.Strings.Prefix
import Derived.Shelf.LaysM
import Derived.Shelf.LaysC
import Derived.Test.YtoaiofjcjjkfaaaGreatDoorProg
import Derived.Shelf.Strings.BuilderK
import Derived.Lib.ItoaMem
import Derived.Lib.AppendIntMem
import Derived.Lib.AtoiAllCases
import Derived.WalkSmall
namespace Go.Proofs.YtoaiofjcjjkfaaaGreatDoor
open Go.RowKit Go.Maps
set_option linter.unusedVariables false

theorem RowE.bound {α : Type} {K : Nat → Prop} {w : World} {size : Nat} {E : α → List Value → Prop} {v : Value} {l : List α} (h : RowE K w size E v l) (hs : 0 < size) : RowE (fun k => K k ∧ k < w.heap.size) w size E v l := by
  obtain ⟨A, c, e, hm, h⟩ := h
  refine ⟨A, c, e, hm, fun hl => ?_⟩
  obtain ⟨g, off, e1, hg, h⟩ := h hl
  refine ⟨g, off, e1, ⟨hg, ?_⟩, h⟩
  obtain ⟨cs, h1, h2, _⟩ := h 0 hl
  have h3 := h2 0 hs
  rw [List.getElem?_eq_getElem (by omega)] at h3
  exact World.block_lt_of_cell? _ _ h3
def RS.texts (S : RS) : List (List UInt8) × RS := S.several RS.text 4
def RS.cells (S : RS) : List CellP × RS := S.several RS.cell 1
def RS.ints (S : RS) : List Int × RS := S.several RS.int 8
def FactP.zero : FactP := ⟨[], []⟩
def RS.fact (S : RS) : FactP × RS := (if S.texts.2.ints.2.fault = 0 then ⟨S.texts.1, S.texts.2.ints.1⟩ else FactP.zero, S.texts.2.ints.2)
def RS.schema (S : RS) : (List (List UInt8) × List (List UInt8)) × RS := (if S.texts.2.texts.2.fault = 0 then (S.texts.1, S.texts.2.texts.1) else ([], []), S.texts.2.texts.2)
theorem ints_any (p : Option Nat) (S : RS) (w : World) (h : RAt w p S) : Calls Tryz.prog 156 #[wpt p, .int .i64 8, .func (.func 89) #[wpt p] #[]] w (RPr p w 1 intG S.ints.1 S.ints.2) := several_ints p S 8 (by omega) (by omega) w h
set_option maxHeartbeats 400000 in
theorem rtexts_any (p : Option Nat) (S : RS) (w : World) (h : RAt w p S) : Calls Tryz.prog 152 #[wpt p] w (RPr p w 1 strG S.texts.1 S.texts.2) := by
  have HS : Hid (Calls Tryz.prog 180 #[wpt p, .int .i64 4, .func (.func 162) #[wpt p] #[]] w (RPr p w 1 strG S.texts.1 S.texts.2)) := Lib.hid (several_texts p S 4 (by omega) (by omega) w h)
  have hmf := mkf
  clear h
  generalize hP : wpt p = P at *
  clear hP
  go_enter Tryz.func152, Tryz.ntmps152
  go_wp2_with fail
  refine HS.out.mono ?_
  rintro e w1 ⟨V, rfl, h1, h2, h3⟩
  go_wp2
  go_ret
  exact ⟨V, rfl, h1, h2, h3⟩
/-- A call that tells two rows. -/
def RP2i (p : Option Nat) (w : World) (d : List (List UInt8)) (m : List Int) (S' : RS) (e : Ending) (w' : World) : Prop :=
  ∃ dv mv, e = .returned (.agg #[dv, mv]) ∧ RAt w' p S' ∧ Fr (RFt p) w w' ∧ RowE (fun k => w.heap.size ≤ k) w' 1 strE dv d ∧ RowE (fun k => w.heap.size ≤ k) w' 1 intE mv m
theorem told93i (p : Option Nat) (S : RS) (K : Nat → Prop) (dv mv : Value) (d : List (List UInt8)) (m : List Int) (w : World) (h : RAt w p S) (hd : RowE K w 1 strE dv d) (hm : RowE K w 1 intE mv m) :
    Calls Tryz.prog 157 #[wpt p, .agg #[dv, mv]] w fun e w' => ∃ A1 n1 c1 A2 n2 c2, e = .returned (.agg #[.slice A1 n1 c1, .slice A2 n2 c2]) ∧ Below w.heap.size w w' ∧ RowE K w 1 strE (.slice A1 n1 c1) (if S.fault = 0 then d else []) ∧ RowE K w 1 intE (.slice A2 n2 c2) (if S.fault = 0 then m else []) := by
  obtain ⟨A1, n1, c1, rfl⟩ := hd.slice
  obtain ⟨A2, n2, c2, rfl⟩ := hm.slice
  refine (told93 p S A1 A2 n1 n2 c1 c2 w h).mono ?_
  rintro e w' ⟨rfl, hb⟩
  by_cases h0 : S.fault = 0
  · rw [if_pos h0, if_pos h0, if_pos h0]; exact ⟨_, _, _, _, _, _, rfl, hb, hd, hm⟩
  · rw [if_neg h0, if_neg h0, if_neg h0]; exact ⟨_, _, _, _, _, _, rfl, hb, RowE.nil _ _ _ _ _, RowE.nil _ _ _ _ _⟩
set_option maxRecDepth 100000 in
set_option maxHeartbeats 2000000 in
theorem rfact_any (p : Option Nat) (S : RS) (w : World) (h : RAt w p S) : Calls Tryz.prog 96 #[wpt p] w (RP2i p w S.fact.1.dims S.fact.1.meas S.fact.2) := by
  obtain ⟨w0, hw0⟩ : ∃ w0, w.alloc (.cells #[.slice none 0 0, .slice none 0 0] 139) = w0 := ⟨_, rfl⟩
  obtain ⟨gr, hgr⟩ : ∃ gr, w.heap.size = gr := ⟨_, rfl⟩
  have h0 : RAt w0 p S := by rw [← hw0]; exact h.alloc _
  have hb0 : Blk w0 gr 139 #[.slice none 0 0, .slice none 0 0] := by rw [← hw0, ← hgr]; exact Blk.new w 139 _
  have hf0 : Fr (RFt p) w w0 := by rw [← hw0]; exact (Fr.refl _ w).alloc _
  have hs0 : gr < w0.heap.size := hb0.lt
  have hnr : ¬ RFt p gr := fun e => by have := h.lt gr e; omega
  have H0 := Lib.hid h0
  have X0 := Lib.hid hb0
  have F0 := Lib.hid hf0
  have S0 := Lib.hid hs0
  have NR := Lib.hid hnr
  have GR := Lib.hid hgr
  have PB : Hid (∀ k, RFt p k → k < gr) := Lib.hid fun k hk => hgr ▸ h.lt k hk
  have hmf := mkf
  have HV1 : Hid (S.fact.2 = S.texts.2.ints.2) := Lib.hid rfl
  have HV2 : Hid (S.fact.1.dims = if S.texts.2.ints.2.fault = 0 then S.texts.1 else []) := Lib.hid (by simp only [RS.fact]; split <;> rfl)
  have HV3 : Hid (S.fact.1.meas = if S.texts.2.ints.2.fault = 0 then S.texts.2.ints.1 else []) := Lib.hid (by simp only [RS.fact]; split <;> rfl)
  clear h h0 hb0 hf0 hnr hs0
  generalize hP : wpt p = P at *
  have HP := Lib.hid hP
  clear hP
  go_enter Tryz.func96, Tryz.ntmps96
  go_wp2_with fail
  rw [← HP.out]
  refine (rtexts_any p S w0 H0.out).mono ?_
  rintro e w1 ⟨dv, rfl, h1, f1, r1⟩
  have hx1 := X0.out.of (f1.block gr X0.out.lt NR.out)
  have H1 := Lib.hid h1
  have hr1 := (r1.bound (by omega)).mono (K' := fun k => gr < k ∧ k < w1.heap.size) fun k hk => ⟨by have := S0.out; have := hk.1; omega, hk.2⟩
  have R1 := Lib.hid hr1
  have X1 := Lib.hid hx1
  have F1 := Lib.hid (F0.out.then f1)
  clear h1 f1 r1 hx1 hw0 hgr hr1
  rw [HP.out]
  go_wp2_with fail
  rw [← HP.out]
  refine (ints_any p S.texts.2 w1 H1.out).mono ?_
  rintro e w2 ⟨mv, rfl, h2, f2, r2⟩
  have hx2 := X1.out.of (f2.block gr X1.out.lt NR.out)
  have H2 := Lib.hid h2
  have hr2 : RowE (fun k => gr < k ∧ k < w2.heap.size) w2 1 strE dv S.texts.1 := (R1.out.of (fun k hk => f2.block k hk.2 fun e => by have := PB.out k e; omega) fun _ _ h => h).mono fun k hk => ⟨hk.1, Nat.lt_of_lt_of_le hk.2 f2.size⟩
  have hr3 : RowE (fun k => gr < k ∧ k < w2.heap.size) w2 1 intE mv S.texts.2.ints.1 := (r2.bound (by omega)).mono fun k hk => ⟨by have := X1.out.lt; have := hk.1; omega, hk.2⟩
  have R2 := Lib.hid hr2
  have R3 := Lib.hid hr3
  have X2 := Lib.hid hx2
  have F2 := Lib.hid (F1.out.then f2)
  obtain ⟨A1, n1, c1, rfl⟩ := hr2.slice
  obtain ⟨A2, n2, c2, rfl⟩ := hr3.slice
  clear h2 f2 r2 hx2 hr2 hr3 R1 X1 F1 H1
  rw [HP.out]
  go_wp2_with fail
  rw [← HP.out]
  refine (told93i p S.texts.2.ints.2 _ _ _ _ _ w2 H2.out R2.out R3.out).mono ?_
  rintro e w3 ⟨B1, m1, k1, B2, m2, k2, rfl, hb3, q1, q2⟩
  have hx3 := X2.out.of (hb3.block gr X2.out.lt)
  have z0 : w3.cell? ⟨gr, 0, none⟩ = some (.slice none 0 0) := hx3.cell 0
  have z1 : w3.cell? ⟨gr, 1, none⟩ = some (.slice none 0 0) := hx3.cell 1
  have y0 := hx3.frozen 0
  have y1 := hx3.frozen 1
  have hfin : RAt ((w3.setCell ⟨gr, 0, none⟩ (.slice B1 m1 k1)).setCell ⟨gr, 1, none⟩ (.slice B2 m2 k2)) p S.texts.2.ints.2 ∧ Fr (RFt p) w ((w3.setCell ⟨gr, 0, none⟩ (.slice B1 m1 k1)).setCell ⟨gr, 1, none⟩ (.slice B2 m2 k2)) ∧
      (∀ k, gr < k ∧ k < w2.heap.size → ((w3.setCell ⟨gr, 0, none⟩ (.slice B1 m1 k1)).setCell ⟨gr, 1, none⟩ (.slice B2 m2 k2)).heap[k]? = w2.heap[k]?) := by
    have hset : ∀ k, k ≠ gr → ((w3.setCell ⟨gr, 0, none⟩ (.slice B1 m1 k1)).setCell ⟨gr, 1, none⟩ (.slice B2 m2 k2)).heap[k]? = w3.heap[k]? := fun k hk => by
      rw [Below.heap_setCell _ _ _ k hk, Below.heap_setCell _ _ _ k hk]
    refine ⟨(H2.out.below hb3).of fun k hk => hset k fun e => NR.out (e ▸ hk), ?_, fun k hk => ?_⟩
    · have hlt : ¬ gr < w.heap.size := by have := GR.out; omega
      exact ((F2.out.then (Fr.of_below hb3).any).setCell (p := ⟨gr, 0, none⟩) (fun h => absurd h hlt) _).setCell (p := ⟨gr, 1, none⟩) (fun h => absurd h hlt) _
    · rw [hset k (by omega)]; exact hb3.block k hk.2
  have HF := Lib.hid hfin
  have Q1 := Lib.hid q1
  have Q2 := Lib.hid q2
  clear hfin q1 q2 hb3 hx3
  go_wp2
  refine bodyPost_ret (v := .agg #[.slice B1 m1 k1, .slice B2 m2 k2]) (by simp [results, Tryz.results96, go_sem, z0, z1]) rfl ?_
  obtain ⟨e1, e2, e3⟩ := HF.out
  have hkw : ∀ k, gr < k ∧ k < w2.heap.size → w.heap.size ≤ k := fun k hk => by have := GR.out; omega
  exact ⟨_, _, rfl, by rw [HV1.out]; exact e1, e2, by rw [HV2.out]; exact (Q1.out.of e3 fun _ _ h => h).mono hkw, by rw [HV3.out]; exact (Q2.out.of e3 fun _ _ h => h).mono hkw⟩
/-- A call that tells two rows. -/
def RP2t (p : Option Nat) (w : World) (d : List (List UInt8)) (m : List (List UInt8)) (S' : RS) (e : Ending) (w' : World) : Prop :=
  ∃ dv mv, e = .returned (.agg #[dv, mv]) ∧ RAt w' p S' ∧ Fr (RFt p) w w' ∧ RowE (fun k => w.heap.size ≤ k) w' 1 strE dv d ∧ RowE (fun k => w.heap.size ≤ k) w' 1 strE mv m
theorem told95t (p : Option Nat) (S : RS) (K : Nat → Prop) (dv mv : Value) (d : List (List UInt8)) (m : List (List UInt8)) (w : World) (h : RAt w p S) (hd : RowE K w 1 strE dv d) (hm : RowE K w 1 strE mv m) :
    Calls Tryz.prog 153 #[wpt p, .agg #[dv, mv]] w fun e w' => ∃ A1 n1 c1 A2 n2 c2, e = .returned (.agg #[.slice A1 n1 c1, .slice A2 n2 c2]) ∧ Below w.heap.size w w' ∧ RowE K w 1 strE (.slice A1 n1 c1) (if S.fault = 0 then d else []) ∧ RowE K w 1 strE (.slice A2 n2 c2) (if S.fault = 0 then m else []) := by
  obtain ⟨A1, n1, c1, rfl⟩ := hd.slice
  obtain ⟨A2, n2, c2, rfl⟩ := hm.slice
  refine (told95 p S A1 A2 n1 n2 c1 c2 w h).mono ?_
  rintro e w' ⟨rfl, hb⟩
  by_cases h0 : S.fault = 0
  · rw [if_pos h0, if_pos h0, if_pos h0]; exact ⟨_, _, _, _, _, _, rfl, hb, hd, hm⟩
  · rw [if_neg h0, if_neg h0, if_neg h0]; exact ⟨_, _, _, _, _, _, rfl, hb, RowE.nil _ _ _ _ _, RowE.nil _ _ _ _ _⟩
set_option maxRecDepth 100000 in
set_option maxHeartbeats 2000000 in
theorem rschema_any (p : Option Nat) (S : RS) (w : World) (h : RAt w p S) : Calls Tryz.prog 90 #[wpt p] w (RP2t p w S.schema.1.1 S.schema.1.2 S.schema.2) := by
  obtain ⟨w0, hw0⟩ : ∃ w0, w.alloc (.cells #[.slice none 0 0, .slice none 0 0] 24) = w0 := ⟨_, rfl⟩
  obtain ⟨gr, hgr⟩ : ∃ gr, w.heap.size = gr := ⟨_, rfl⟩
  have h0 : RAt w0 p S := by rw [← hw0]; exact h.alloc _
  have hb0 : Blk w0 gr 24 #[.slice none 0 0, .slice none 0 0] := by rw [← hw0, ← hgr]; exact Blk.new w 24 _
  have hf0 : Fr (RFt p) w w0 := by rw [← hw0]; exact (Fr.refl _ w).alloc _
  have hs0 : gr < w0.heap.size := hb0.lt
  have hnr : ¬ RFt p gr := fun e => by have := h.lt gr e; omega
  have H0 := Lib.hid h0
  have X0 := Lib.hid hb0
  have F0 := Lib.hid hf0
  have S0 := Lib.hid hs0
  have NR := Lib.hid hnr
  have GR := Lib.hid hgr
  have PB : Hid (∀ k, RFt p k → k < gr) := Lib.hid fun k hk => hgr ▸ h.lt k hk
  have hmf := mkf
  have HV1 : Hid (S.schema.2 = S.texts.2.texts.2) := Lib.hid rfl
  have HV2 : Hid (S.schema.1.1 = if S.texts.2.texts.2.fault = 0 then S.texts.1 else []) := Lib.hid (by simp only [RS.schema]; split <;> rfl)
  have HV3 : Hid (S.schema.1.2 = if S.texts.2.texts.2.fault = 0 then S.texts.2.texts.1 else []) := Lib.hid (by simp only [RS.schema]; split <;> rfl)
  clear h h0 hb0 hf0 hnr hs0
  generalize hP : wpt p = P at *
  have HP := Lib.hid hP
  clear hP
  go_enter Tryz.func90, Tryz.ntmps90
  go_wp2_with fail
  rw [← HP.out]
  refine (rtexts_any p S w0 H0.out).mono ?_
  rintro e w1 ⟨dv, rfl, h1, f1, r1⟩
  have hx1 := X0.out.of (f1.block gr X0.out.lt NR.out)
  have H1 := Lib.hid h1
  have hr1 := (r1.bound (by omega)).mono (K' := fun k => gr < k ∧ k < w1.heap.size) fun k hk => ⟨by have := S0.out; have := hk.1; omega, hk.2⟩
  have R1 := Lib.hid hr1
  have X1 := Lib.hid hx1
  have F1 := Lib.hid (F0.out.then f1)
  clear h1 f1 r1 hx1 hw0 hgr hr1
  rw [HP.out]
  go_wp2_with fail
  rw [← HP.out]
  refine (rtexts_any p S.texts.2 w1 H1.out).mono ?_
  rintro e w2 ⟨mv, rfl, h2, f2, r2⟩
  have hx2 := X1.out.of (f2.block gr X1.out.lt NR.out)
  have H2 := Lib.hid h2
  have hr2 : RowE (fun k => gr < k ∧ k < w2.heap.size) w2 1 strE dv S.texts.1 := (R1.out.of (fun k hk => f2.block k hk.2 fun e => by have := PB.out k e; omega) fun _ _ h => h).mono fun k hk => ⟨hk.1, Nat.lt_of_lt_of_le hk.2 f2.size⟩
  have hr3 : RowE (fun k => gr < k ∧ k < w2.heap.size) w2 1 strE mv S.texts.2.texts.1 := (r2.bound (by omega)).mono fun k hk => ⟨by have := X1.out.lt; have := hk.1; omega, hk.2⟩
  have R2 := Lib.hid hr2
  have R3 := Lib.hid hr3
  have X2 := Lib.hid hx2
  have F2 := Lib.hid (F1.out.then f2)
  obtain ⟨A1, n1, c1, rfl⟩ := hr2.slice
  obtain ⟨A2, n2, c2, rfl⟩ := hr3.slice
  clear h2 f2 r2 hx2 hr2 hr3 R1 X1 F1 H1
  rw [HP.out]
  go_wp2_with fail
  rw [← HP.out]
  refine (told95t p S.texts.2.texts.2 _ _ _ _ _ w2 H2.out R2.out R3.out).mono ?_
  rintro e w3 ⟨B1, m1, k1, B2, m2, k2, rfl, hb3, q1, q2⟩
  have hx3 := X2.out.of (hb3.block gr X2.out.lt)
  have z0 : w3.cell? ⟨gr, 0, none⟩ = some (.slice none 0 0) := hx3.cell 0
  have z1 : w3.cell? ⟨gr, 1, none⟩ = some (.slice none 0 0) := hx3.cell 1
  have y0 := hx3.frozen 0
  have y1 := hx3.frozen 1
  have hfin : RAt ((w3.setCell ⟨gr, 0, none⟩ (.slice B1 m1 k1)).setCell ⟨gr, 1, none⟩ (.slice B2 m2 k2)) p S.texts.2.texts.2 ∧ Fr (RFt p) w ((w3.setCell ⟨gr, 0, none⟩ (.slice B1 m1 k1)).setCell ⟨gr, 1, none⟩ (.slice B2 m2 k2)) ∧
      (∀ k, gr < k ∧ k < w2.heap.size → ((w3.setCell ⟨gr, 0, none⟩ (.slice B1 m1 k1)).setCell ⟨gr, 1, none⟩ (.slice B2 m2 k2)).heap[k]? = w2.heap[k]?) := by
    have hset : ∀ k, k ≠ gr → ((w3.setCell ⟨gr, 0, none⟩ (.slice B1 m1 k1)).setCell ⟨gr, 1, none⟩ (.slice B2 m2 k2)).heap[k]? = w3.heap[k]? := fun k hk => by
      rw [Below.heap_setCell _ _ _ k hk, Below.heap_setCell _ _ _ k hk]
    refine ⟨(H2.out.below hb3).of fun k hk => hset k fun e => NR.out (e ▸ hk), ?_, fun k hk => ?_⟩
    · have hlt : ¬ gr < w.heap.size := by have := GR.out; omega
      exact ((F2.out.then (Fr.of_below hb3).any).setCell (p := ⟨gr, 0, none⟩) (fun h => absurd h hlt) _).setCell (p := ⟨gr, 1, none⟩) (fun h => absurd h hlt) _
    · rw [hset k (by omega)]; exact hb3.block k hk.2
  have HF := Lib.hid hfin
  have Q1 := Lib.hid q1
  have Q2 := Lib.hid q2
  clear hfin q1 q2 hb3 hx3
  go_wp2
  refine bodyPost_ret (v := .agg #[.slice B1 m1 k1, .slice B2 m2 k2]) (by simp [results, Tryz.results90, go_sem, z0, z1]) rfl ?_
  obtain ⟨e1, e2, e3⟩ := HF.out
  have hkw : ∀ k, gr < k ∧ k < w2.heap.size → w.heap.size ≤ k := fun k hk => by have := GR.out; omega
  exact ⟨_, _, rfl, by rw [HV1.out]; exact e1, e2, by rw [HV2.out]; exact (Q1.out.of e3 fun _ _ h => h).mono hkw, by rw [HV3.out]; exact (Q2.out.of e3 fun _ _ h => h).mono hkw⟩
end Go.Proofs.YtoaiofjcjjkfaaaGreatDoor
/- A reader takes up facts. -/
namespace Go.Proofs.YtoaiofjcjjkfaaaGreatDoor
open Go.RowKit Go.Maps
set_option linter.unusedVariables false

abbrev factG (K : Nat → Prop) (w : World) (f : FactP) (cs : List Value) : Prop := factE K w f cs
theorem factG_elem : Elem factG := ⟨fun K K' w w' x cs h hk => by
  obtain ⟨dv, mv, e, h1, h2⟩ := h
  exact ⟨dv, mv, e, ((h1.bound (by omega)).of (w' := w') (fun k hk' => (hk k hk'.1 hk'.2).2) fun _ _ h => h).mono fun k hk' => (hk k hk'.1 hk'.2).1, ((h2.bound (by omega)).of (w' := w') (fun k hk' => (hk k hk'.1 hk'.2).2) fun _ _ h => h).mono fun k hk' => (hk k hk'.1 hk'.2).1⟩⟩
theorem fact_stops : Stops RS.fact := fun S h => by
  have h1 : S.texts.2 = S := several_stops text_stops 4 S h
  show S.texts.2.ints.2 = S
  rw [h1]
  exact several_stops int_stops 8 S h
def RS.facts (S : RS) : List FactP × RS := S.several RS.fact 8
theorem info99 : (Tryz.prog.info? 139).map (fun i => (i.zero, i.size, i.bytes)) = some (some (.agg #[.slice none 0 0, .slice none 0 0]), 2, 48) := by kernel_rfl
set_option maxRecDepth 100000 in
set_option maxHeartbeats 4000000 in
theorem several_facts (p : Option Nat) (S : RS) (k : Nat) (hk : 0 < k) (hk8 : k ≤ 8) (w : World) (h : RAt w p S) :
    Calls Tryz.prog 95 #[wpt p, .int .i64 (k : Int), .func (.func 96) #[wpt p] #[]] w (RPr p w 2 factG (S.several RS.fact k).1 (S.several RS.fact k).2) := by
  obtain ⟨b, hb⟩ : ∃ b, w.heap.size = b := ⟨_, rfl⟩
  obtain ⟨w0, hw0⟩ : ∃ w0, w.alloc (.cells #[] 139) = w0 := ⟨_, rfl⟩
  have hpb : ∀ j, RFt p j → j < b := fun j hj => by have := h.lt j hj; omega
  have hg0 : Grow b 139 2 factG w0 (.slice (some ⟨b, 0, none⟩) 0 0) [] := by rw [← hw0, ← hb]; exact Grow.nil w.heap.size 139 2 factG w (Nat.le_refl _)
  have h0 : RAt w0 p S := by rw [← hw0]; exact h.alloc _
  have f0 : Fr (RFt p) w w0 := by rw [← hw0]; exact (Fr.refl _ w).alloc _
  have hml := many_le S k
  have hsl := h.len
  have HM := Lib.hid (rmany_any p S k hk hk8 w0 h0)
  have HV : Hid (S.several RS.fact k = (if (seq RS.fact (S.many k).1 (S.many k).2).2.fault = 0 then (seq RS.fact (S.many k).1 (S.many k).2).1 else [], (seq RS.fact (S.many k).1 (S.many k).2).2)) := Lib.hid rfl
  have HG0 := Lib.hid hg0
  have F0 := Lib.hid f0
  have PB := Lib.hid hpb
  have hn : (S.many k).1 ≤ 1073741824 := by omega
  have HBS := Lib.hid (show b = w.heap.size from hb.symm)
  have HW0 := Lib.hid hw0
  generalize (S.many k).1 = n at *
  generalize (S.many k).2 = S1 at *
  generalize hP : wpt p = P at *
  have HP := Lib.hid hP
  clear hP h h0 f0 hpb hg0 hml hsl hk hk8
  go_enter Tryz.func95, Tryz.ntmps95
  go_wp2_with fail
  refine HM.out.mono ?_
  rintro e w1 ⟨rfl, h1, f1⟩
  have hg1 := HG0.out.keep factG_elem f1 PB.out
  have H1 := Lib.hid h1
  have F1 := Lib.hid (F0.out.then f1)
  have G1 := Lib.hid hg1
  clear h1 f1 hg1 hb hw0
  go_wp2
  go_loopw [7, 12] (fun v i wr => ∃ j : Nat, ∃ A c, j ≤ n ∧ i = .int .i64 j ∧ v = .slice A j c ∧ Grow b 139 2 factG wr (.slice A j c) (seq RS.fact j S1).1 ∧ RAt wr p (seq RS.fact j S1).2 ∧ Fr (RFt p) w wr) (fun _ i _ => n - (intOf i).toNat)
  case atStart => exact ⟨0, _, _, by omega, rfl, rfl, G1.out, H1.out, F1.out⟩
  case round =>
    obtain ⟨j, A, c, hj, rfl, rfl, hg, hr, hf⟩ := hrel
    have HG := Lib.hid hg
    have HR0 := Lib.hid hr
    have HF := Lib.hid hf
    have HQ : Hid (seq RS.fact (j + 1) S1 = ((seq RS.fact j S1).1 ++ [(RS.fact (seq RS.fact j S1).2).1], (RS.fact (seq RS.fact j S1).2).2)) := Lib.hid rfl
    have HL := Lib.hid (seq_len RS.fact S1 j)
    clear hg hr hf
    by_cases hlt : j < n
    · go_wp2_with fail
      rw [← HP.out]
      refine (rfact_any p (seq RS.fact j S1).2 wr HR0.out).mono ?_
      rintro e w3 ⟨dv, mv, rfl, h3, f3, rd, rm⟩
      obtain ⟨A1, n1, k1, rfl⟩ := rd.slice
      obtain ⟨A2, n2, k2, rfl⟩ := rm.slice
      have hg3 := HG.out.keep factG_elem f3 PB.out
      have hel : factG (fun x => wr.heap.size ≤ x) w3 (RS.fact (seq RS.fact j S1).2).1 [.slice A1 n1 k1, .slice A2 n2 k2] := ⟨_, _, rfl, rd, rm⟩
      obtain ⟨A', c', w4, hap, hg4, f4, hlt4⟩ := hg3.more factG_elem (w0 := wr) (by rw [HBS.out]; exact HF.out.size) f3.size (fun x hx => (HG.out.lt x hx).2) 76 Tryz.underlying76 (.agg #[.slice none 0 0, .slice none 0 0]) info99 rfl (by omega) _ [.slice A1 n1 k1, .slice A2 n2 k2] rfl (by simp [Value.oneCell']) hel (by rw [HL.out]; omega) (by rw [HL.out]; unfold maxLen; omega)
      rw [HL.out] at hap hg4
      have h4 : RAt w4 p (RS.fact (seq RS.fact j S1).2).2 := h3.fr f4 fun x hx hx' => by have := (HG.out.lt x hx).1; have := PB.out x hx'; omega
      have hf4 : Fr (RFt p) w w4 := (HF.out.then f3).trans f4 fun x hlx hx => by have := (HG.out.lt x hx).1; have := HBS.out; omega
      have HAP := Lib.hid hap
      have HG4 : Hid (Grow b 139 2 factG w4 (.slice A' (j + 1) c') (seq RS.fact (j + 1) S1).1) := Lib.hid (by rw [HQ.out]; exact hg4)
      have HR4 : Hid (RAt w4 p (seq RS.fact (j + 1) S1).2) := Lib.hid (by rw [HQ.out]; exact h4)
      have HF4 := Lib.hid hf4
      clear h3 f3 hg3 hel hap hg4 f4 hlt4 h4 hf4 rd rm
      rw [HP.out]
      go_wp2_with (at_builtin; refine wpList_add rfl _ _ _ _ rfl _ _ _ _ rfl rfl (HAP.out _) ?_)
      by_cases hz : (seq RS.fact (j + 1) S1).2.fault = 0
      · have HZ := Lib.hid hz
        clear hz
        rw [← HP.out]
        refine (rstop_no p _ w4 HR4.out HZ.out).mono ?_
        rintro e w' ⟨rfl, rfl⟩
        rw [HP.out]
        go_wp2
        go_roundw
        case rel => exact ⟨j + 1, A', c', by omega, by go_num, by go_num, HG4.out, HR4.out, HF4.out⟩
        case measure => simp [intOf]; omega
      · have HZ := Lib.hid hz
        clear hz
        rw [← HP.out]
        refine (rstop_yes p _ w4 HR4.out HZ.out).mono ?_
        rintro e w' ⟨rfl, rfl⟩
        rw [HP.out]
        go_wp2_with fail
        rw [← HP.out]
        refine (told106 p _ _ w4 HR4.out).mono ?_
        rw [if_neg HZ.out]
        rintro e w' ⟨rfl, rfl⟩
        have HE : Hid (S.several RS.fact k = ([], (seq RS.fact (j + 1) S1).2)) := Lib.hid (by rw [HV.out, seq_stop fact_stops S1 (j + 1) n (by omega) HZ.out, if_neg HZ.out])
        go_wp2
        go_ret
        exact ⟨_, rfl, by rw [HE.out]; exact HR4.out, HF4.out, by rw [HE.out]; exact RowE.nil _ _ _ _ _⟩
    · obtain rfl : j = n := by omega
      go_wp2_with fail
      rw [← HP.out]
      refine (told106 p _ _ _ HR0.out).mono ?_
      by_cases hz : (seq RS.fact j S1).2.fault = 0
      · rw [if_pos hz]
        rintro e w' ⟨rfl, rfl⟩
        have HE : Hid (S.several RS.fact k = seq RS.fact j S1) := Lib.hid (by rw [HV.out, if_pos hz])
        have hrow := HG.out.row factG_elem (by rw [HL.out]; unfold maxLen; omega)
        rw [HBS.out] at hrow
        have HROW := Lib.hid hrow
        clear hz hrow
        go_wp2
        go_ret
        exact ⟨_, rfl, by rw [HE.out]; exact HR0.out, HF.out, by rw [HE.out]; exact HROW.out⟩
      · rw [if_neg hz]
        rintro e w' ⟨rfl, rfl⟩
        have HE : Hid (S.several RS.fact k = ([], (seq RS.fact j S1).2)) := Lib.hid (by rw [HV.out, if_neg hz])
        clear hz
        go_wp2
        go_ret
        exact ⟨_, rfl, by rw [HE.out]; exact HR0.out, HF.out, by rw [HE.out]; exact RowE.nil _ _ _ _ _⟩
set_option maxHeartbeats 400000 in
theorem rfacts_any (p : Option Nat) (S : RS) (w : World) (h : RAt w p S) : Calls Tryz.prog 46 #[wpt p] w (RPr p w 2 factG S.facts.1 S.facts.2) := by
  have HS : Hid (Calls Tryz.prog 95 #[wpt p, .int .i64 8, .func (.func 96) #[wpt p] #[]] w (RPr p w 2 factG S.facts.1 S.facts.2)) := Lib.hid (several_facts p S 8 (by omega) (by omega) w h)
  have hmf := mkf
  clear h
  generalize hP : wpt p = P at *
  clear hP
  go_enter Tryz.func46, Tryz.ntmps46
  go_wp2_with fail
  refine HS.out.mono ?_
  rintro e w1 ⟨V, rfl, h1, h2, h3⟩
  go_wp2
  go_ret
  exact ⟨V, rfl, h1, h2, h3⟩
end Go.Proofs.YtoaiofjcjjkfaaaGreatDoor
/- A thing: what a writer lays down of it. -/
namespace Go.Proofs.YtoaiofjcjjkfaaaGreatDoor
open Go.RowKit Go.Maps
set_option linter.unusedVariables false

structure ThingP where
  kind : Int
  n : Int
  s : List UInt8
  l : List (List UInt8)
  cells : List CellP
  facts : List FactP
  meas : List (List UInt8)
/-- Its cells, and what they lead to. -/
structure ThingAt (K : Nat → Prop) (w : World) (t : ThingP) (lv cv fv mv : Value) : Prop where
  kb : i64 t.kind
  nb : i64 t.n
  sb : t.s.length ≤ maxLen
  l : RowE K w 1 strE lv t.l
  c : RowE K w 3 cellE cv t.cells
  f : RowE K w 2 (factE K w) fv t.facts
  m : RowE K w 1 strE mv t.meas
def tcells (t : ThingP) (lv cv fv mv : Value) : List Value := [.int .i64 t.kind, .int .i64 t.n, sv t.s, lv, cv, fv, mv]
def thingE (K : Nat → Prop) (w : World) (t : ThingP) (cs : List Value) : Prop := ∃ lv cv fv mv, cs = tcells t lv cv fv mv ∧ ThingAt K w t lv cv fv mv
theorem RowE.factOf {K : Nat → Prop} {w w' : World} {v : Value} {l : List FactP} (h : RowE K w 2 (factE K w) v l) (hk : ∀ k, K k → w'.heap[k]? = w.heap[k]?) : RowE K w' 2 (factE K w') v l := h.of hk fun _ _ h => h.of hk
theorem ThingAt.of {K : Nat → Prop} {w w' : World} {t : ThingP} {lv cv fv mv : Value} (h : ThingAt K w t lv cv fv mv) (hk : ∀ k, K k → w'.heap[k]? = w.heap[k]?) : ThingAt K w' t lv cv fv mv :=
  ⟨h.kb, h.nb, h.sb, h.l.of hk fun _ _ h => h, h.c.of hk fun _ _ h => h, h.f.factOf hk, h.m.of hk fun _ _ h => h⟩
theorem thingE.of {K : Nat → Prop} {w w' : World} {t : ThingP} {cs : List Value} (h : thingE K w t cs) (hk : ∀ k, K k → w'.heap[k]? = w.heap[k]?) : thingE K w' t cs := by
  obtain ⟨lv, cv, fv, mv, e, h⟩ := h
  exact ⟨lv, cv, fv, mv, e, h.of hk⟩

/-! ### One, Any -/
def one (l : List CellP) : CellP := l.headD CellP.zero
def any (l : List FactP) : FactP := l.headD FactP.zero
set_option maxHeartbeats 1000000 in
theorem one_any (K : Nat → Prop) (cv : Value) (l : List CellP) (w : World) (h : RowE K w 3 cellE cv l) : Calls Tryz.prog 145 #[cv] w fun e w' => e = .returned (one l).val ∧ Below w.heap.size w w' := by
  obtain ⟨A, c, rfl, hm, hel⟩ := h
  cases l with
  | nil =>
    clear hel hm
    go_enter Tryz.func145, Tryz.ntmps145
    go_wp2
    exact bodyPost_ret (v := .agg #[.int .i64 0, .int .i64 0, sv []]) (by simp [results, Tryz.results145, go_sem]) rfl ⟨rfl, Fr.below ((Fr.refl No w).alloc _)⟩
  | cons x l =>
    obtain ⟨g, off, rfl, hg, hcell⟩ := hel (by simp)
    obtain ⟨cs, hl, hc, rfl, _⟩ := hcell 0 (by simp)
    have c0 : w.cell? ⟨g, off, none⟩ = some (.int .i64 x.kind) := by have := hc 0 (by omega); simpa using this
    have c1 : w.cell? ⟨g, off + 1, none⟩ = some (.int .i64 x.int) := by have := hc 1 (by omega); simpa using this
    have c2 : w.cell? ⟨g, off + 2, none⟩ = some (sv x.text) := by have := hc 2 (by omega); simpa using this
    have hlen : (0 : Int) < ((x :: l).length : Nat) := by simp only [List.length_cons]; omega
    have hne : ((((x :: l).length : Nat) : Int) == 0) = false := by rw [beq_eq_false_iff_ne]; omega
    have hgw : g < w.heap.size := World.block_lt_of_cell? _ _ c0
    unfold maxLen at hm
    have hx : (one (x :: l)).val = .agg #[.int .i64 x.kind, .int .i64 x.int, sv x.text] := rfl
    rw [hx]
    clear hel hcell hc hl hx hg
    generalize (x :: l).length = n at *
    go_enter Tryz.func145, Tryz.ntmps145
    go_wp2
    exact bodyPost_ret (v := .agg #[.int .i64 x.kind, .int .i64 x.int, sv x.text]) (by simp [results, Tryz.results145, go_sem]) rfl ⟨rfl, Fr.below ((Fr.refl No w).alloc _)⟩
theorem one_ok {K : Nat → Prop} {cv : Value} {l : List CellP} {w : World} (h : RowE K w 3 cellE cv l) : (one l).Ok := by
  obtain ⟨A, c, rfl, hm, hel⟩ := h
  cases l with
  | nil => exact ⟨i64_small 0 (by omega), i64_small 0 (by omega), by simp [one, CellP.zero]⟩
  | cons x l =>
    obtain ⟨g, off, rfl, hg, hcell⟩ := hel (by simp)
    obtain ⟨cs, hl, hc, _, ho⟩ := hcell 0 (by simp)
    exact ho
set_option maxHeartbeats 1000000 in
theorem any_any (K : Nat → Prop) (fv : Value) (l : List FactP) (w : World) (h : RowE K w 2 (factE K w) fv l) : Calls Tryz.prog 148 #[fv] w fun e w' => ∃ dv mv, e = .returned (.agg #[dv, mv]) ∧ RowE K w 1 strE dv (any l).dims ∧ RowE K w 1 intE mv (any l).meas ∧ Below w.heap.size w w' := by
  obtain ⟨A, c, rfl, hm, hel⟩ := h
  cases l with
  | nil =>
    clear hel hm
    go_enter Tryz.func148, Tryz.ntmps148
    go_wp2
    exact bodyPost_ret (v := .agg #[.slice none 0 0, .slice none 0 0]) (by simp [results, Tryz.results148, go_sem]) rfl ⟨_, _, rfl, RowE.nil _ _ _ _ _, RowE.nil _ _ _ _ _, Fr.below ((Fr.refl No w).alloc _)⟩
  | cons x l =>
    obtain ⟨g, off, rfl, hg, hcell⟩ := hel (by simp)
    obtain ⟨cs, hl, hc, dv, mv, rfl, rd, rm⟩ := hcell 0 (by simp)
    have c0 : w.cell? ⟨g, off, none⟩ = some dv := by have := hc 0 (by omega); simpa using this
    have c1 : w.cell? ⟨g, off + 1, none⟩ = some mv := by have := hc 1 (by omega); simpa using this
    have hlen : (0 : Int) < ((x :: l).length : Nat) := by simp only [List.length_cons]; omega
    have hne : ((((x :: l).length : Nat) : Int) == 0) = false := by rw [beq_eq_false_iff_ne]; omega
    have hgw : g < w.heap.size := World.block_lt_of_cell? _ _ c0
    unfold maxLen at hm
    have RD : Hid (RowE K w 1 strE dv (any (x :: l)).dims) := Lib.hid rd
    have RM : Hid (RowE K w 1 intE mv (any (x :: l)).meas) := Lib.hid rm
    obtain ⟨A1, n1, k1, rfl⟩ := rd.slice
    obtain ⟨A2, n2, k2, rfl⟩ := rm.slice
    generalize (any (x :: l)).dims = D at *
    generalize (any (x :: l)).meas = M at *
    clear hel hcell hc hl hg rd rm
    generalize (x :: l).length = n at *
    go_enter Tryz.func148, Tryz.ntmps148
    go_wp2
    exact bodyPost_ret (v := .agg #[.slice A1 n1 k1, .slice A2 n2 k2]) (by simp [results, Tryz.results148, go_sem]) rfl ⟨_, _, rfl, RD.out, RM.out, Fr.below ((Fr.refl No w).alloc _)⟩
end Go.Proofs.YtoaiofjcjjkfaaaGreatDoor
/- Plain: what was laid down is taken up again; cut short it ends short. -/
namespace Go.Proofs.YtoaiofjcjjkfaaaGreatDoor
open Go.RowKit Go.Maps
set_option linter.unusedVariables false

/-! ### the bytes of things -/
def bText (s : List UInt8) : List UInt8 := low s.length 4 ++ s
def bRow {α : Type} (f : α → List UInt8) (l : List α) : List UInt8 := low l.length 4 ++ l.flatMap f
def bCell (c : CellP) : List UInt8 := if c.kind = 1 then low 1 1 ++ enc8 c.int else if c.kind = 2 then low 2 1 ++ bText c.text else low 0 1
def bFact (f : FactP) : List UInt8 := bRow bText f.dims ++ bRow enc8 f.meas
def bThing (t : ThingP) : List UInt8 :=
  if t.kind = 0 then low (t.n % 256).toNat 1 else if t.kind = 1 then enc8 t.n else if t.kind = 2 then low t.n.toNat 4 else if t.kind = 3 then bText t.s
  else if t.kind = 4 then bRow bText t.l else if t.kind = 5 then bCell (one t.cells) else if t.kind = 6 then bRow bCell t.cells else if t.kind = 7 then bFact (any t.facts)
  else if t.kind = 8 then bRow bFact t.facts else bRow bText t.l ++ bRow bText t.meas

/-! ### laid down -/
/-- Where nothing was wrong behind it, b was laid down. -/
def Lays (f : WS → WS) (ok : Prop) (b : List UInt8) : Prop := ∀ S : WS, (f S).fault = 0 → S.fault = 0 ∧ ok ∧ (f S).data = S.data ++ b
theorem Lays.then {f g : WS → WS} {p q : Prop} {a b : List UInt8} (hf : Lays f p a) (hg : Lays g q b) : Lays (fun S => g (f S)) (p ∧ q) (a ++ b) := fun S h => by
  obtain ⟨h1, h2, h3⟩ := hg _ h
  obtain ⟨h4, h5, h6⟩ := hf _ h1
  exact ⟨h4, ⟨h5, h2⟩, by rw [h3, h6, List.append_assoc]⟩
theorem Lays.ok {f : WS → WS} {p q : Prop} {b : List UInt8} (hf : Lays f p b) (h : p → q) : Lays f q b := fun S hS => by
  obtain ⟨h1, h2, h3⟩ := hf S hS; exact ⟨h1, h h2, h3⟩
theorem lays_lay (m : List UInt8) : Lays (fun S => S.lay m) True m := fun S h => by
  simp only [WS.lay] at h ⊢
  by_cases h0 : S.fault = 0
  · rw [if_pos h0] at h ⊢
    by_cases h1 : m.length + S.data.length > 65536
    · rw [if_pos h1] at h; simp at h
    · rw [if_neg h1]; exact ⟨h0, trivial, rfl⟩
  · rw [if_neg h0] at h; exact absurd h h0
theorem fail_not (S : WS) (e : Int) (he : e ≠ 0) : (S.fail e).fault ≠ 0 := by
  unfold WS.fail; split
  · exact he
  · assumption
theorem lays_count (n : Int) : Lays (fun S => S.count n) (0 ≤ n ∧ n ≤ 4294967295) (low n.toNat 4) := fun S h => by
  simp only [WS.count] at h ⊢
  by_cases hn : n < 0 ∨ n > 4294967295
  · rw [if_pos hn] at h; exact absurd h (fail_not S 1 (by decide))
  · rw [if_neg hn] at h ⊢
    obtain ⟨h1, _, h3⟩ := lays_lay (low n.toNat 4) S h
    exact ⟨h1, by omega, h3⟩
theorem lays_text (s : List UInt8) : Lays (fun S => S.text s) (s.length ≤ 4294967295) (bText s) := by
  have := (lays_count (s.length : Int)).then (lays_lay s)
  exact this.ok fun h => by omega
theorem lays_int (n : Int) : Lays (fun S => S.int n) True (enc8 n) := lays_lay _
theorem lays_byte (n : Nat) : Lays (fun S => S.byte n) True (low n 1) := lays_lay _
theorem lays_fold {α : Type} {f : WS → α → WS} {ok : α → Prop} {b : α → List UInt8} (hf : ∀ x, Lays (fun S => f S x) (ok x) (b x)) : ∀ l : List α, Lays (fun S => l.foldl f S) (∀ x ∈ l, ok x) (l.flatMap b)
  | [] => fun S h => ⟨h, by simp, by simp⟩
  | x :: l => by
    have := (hf x).then (lays_fold hf l)
    refine (show Lays (fun S => (x :: l).foldl f S) (ok x ∧ ∀ y ∈ l, ok y) (b x ++ l.flatMap b) from this).ok fun h => ?_
    intro y hy
    rcases List.mem_cons.1 hy with rfl | hy
    · exact h.1
    · exact h.2 y hy
theorem lays_row {α : Type} {f : WS → α → WS} {ok : α → Prop} {b : α → List UInt8} (hf : ∀ x, Lays (fun S => f S x) (ok x) (b x)) (l : List α) : Lays (fun S => S.row f l) (l.length ≤ 4294967295 ∧ ∀ x ∈ l, ok x) (bRow b l) := by
  have := (lays_count (l.length : Int)).then (lays_fold hf l)
  exact (show Lays (fun S => S.row f l) _ (bRow b l) from this).ok fun h => ⟨by omega, h.2⟩
def okText (s : List UInt8) : Prop := s.length ≤ 4294967295
def okCell (c : CellP) : Prop := c.may = true ∧ okText c.text
theorem lays_cell (c : CellP) : Lays (fun S => S.cell c) (okCell c) (bCell c) := fun S h => by
  simp only [WS.cell] at h ⊢
  cases hm : c.may with
  | false => rw [hm] at h; exact absurd h (fail_not S 1 (by decide))
  | true =>
    rw [hm] at h
    simp only [if_true] at h ⊢
    have hk := may_kind hm
    by_cases h1 : c.kind = 1
    · rw [if_pos h1] at h ⊢
      obtain ⟨q1, _, q3⟩ := ((lays_byte 1).then (lays_int c.int)) S h
      have ht : c.text = [] := by
        unfold CellP.may at hm; rw [h1] at hm; simpa using hm
      exact ⟨q1, ⟨hm, by unfold okText; rw [ht]; simp⟩, by unfold bCell; rw [if_pos h1]; exact q3⟩
    · rw [if_neg h1] at h ⊢
      by_cases h2 : c.kind = 2
      · rw [if_pos h2] at h ⊢
        obtain ⟨q1, q2, q3⟩ := ((lays_byte 2).then (lays_text c.text)) S h
        exact ⟨q1, ⟨hm, q2.2⟩, by unfold bCell; rw [if_neg h1, if_pos h2]; exact q3⟩
      · rw [if_neg h2] at h ⊢
        obtain ⟨q1, _, q3⟩ := (lays_byte 0) S h
        have h0 : c.kind = 0 := by omega
        have ht : c.text = [] := by
          unfold CellP.may at hm; rw [h0] at hm; simp at hm; exact hm.2
        exact ⟨q1, ⟨hm, by unfold okText; rw [ht]; simp⟩, by unfold bCell; rw [if_neg h1, if_neg h2]; exact q3⟩
def okTexts (l : List (List UInt8)) : Prop := l.length ≤ 4294967295 ∧ ∀ s ∈ l, okText s
def okFact (f : FactP) : Prop := okTexts f.dims ∧ f.meas.length ≤ 4294967295
theorem lays_fact (f : FactP) : Lays (fun S => S.fact f) (okFact f) (bFact f) :=
  (show Lays (fun S => S.fact f) _ (bFact f) from (lays_row lays_text f.dims).then (lays_row lays_int f.meas)).ok fun h => ⟨h.1, h.2.1⟩
def okThing (t : ThingP) : Prop :=
  if t.kind = 0 then True else if t.kind = 1 then True else if t.kind = 2 then 0 ≤ t.n ∧ t.n ≤ 4294967295 else if t.kind = 3 then okText t.s
  else if t.kind = 4 then okTexts t.l else if t.kind = 5 then okCell (one t.cells) else if t.kind = 6 then t.cells.length ≤ 4294967295 ∧ ∀ c ∈ t.cells, okCell c else if t.kind = 7 then okFact (any t.facts)
  else if t.kind = 8 then t.facts.length ≤ 4294967295 ∧ ∀ f ∈ t.facts, okFact f else okTexts t.l ∧ okTexts t.meas
/-! ### taken up -/
/-- b says x, and cut short it ends short. -/
structure Dec {α : Type} (f : RS → α × RS) (x : α) (b : List UInt8) : Prop where
  all : ∀ R, f ⟨b ++ R, 0⟩ = (x, ⟨R, 0⟩)
  cut : ∀ m, m < b.length → (f ⟨b.take m, 0⟩).2 = ⟨[], 20⟩
  stop : Stops f
theorem dec_take (n : Nat) (b : List UInt8) (hb : b.length = n) : Dec (fun S => S.take n) b b := by
  refine ⟨fun R => ?_, fun m hm => ?_, take_stops n⟩
  · show RS.take ⟨b ++ R, 0⟩ n = _
    unfold RS.take
    rw [if_pos rfl, if_neg (by simp; omega)]
    simp [← hb]
  · show (RS.take ⟨b.take m, 0⟩ n).2 = _
    unfold RS.take
    rw [if_pos rfl, if_pos (by simp; omega)]
/-- one behind the other -/
theorem Dec.then {α β γ : Type} {f : RS → α × RS} {g : RS → β × RS} {x : α} {y : β} {a b : List UInt8} (hf : Dec f x a) (hg : Dec g y b) {h : RS → γ × RS} {z : γ}
    (h2 : ∀ S, (h S).2 = (g (f S).2).2) (h1 : ∀ S, (f S).1 = x → (g (f S).2).1 = y → (g (f S).2).2.fault = 0 → (h S).1 = z) : Dec h z (a ++ b) := by
  refine ⟨fun R => ?_, fun m hm => ?_, fun S hS => ?_⟩
  · have e1 := hf.all (b ++ R)
    have e2 := hg.all R
    rw [← List.append_assoc] at e1
    have e3 := h2 ⟨a ++ b ++ R, 0⟩
    rw [e1] at e3
    simp only [e2] at e3
    refine Prod.ext (h1 _ (by rw [e1]) (by rw [e1]; simp only [e2]) (by rw [e1]; simp only [e2])) e3
  · rw [h2]
    by_cases hm1 : m < a.length
    · have e : (a ++ b).take m = a.take m := by rw [List.take_append_of_le_length (by omega)]
      rw [e, hf.cut m hm1]
      exact hg.stop _ (by decide)
    · have e : (a ++ b).take m = a ++ b.take (m - a.length) := by rw [List.take_append, List.take_of_length_le (by omega)]
      rw [e, hf.all]
      exact hg.cut _ (by rw [List.length_append] at hm; omega)
  · rw [h2, hf.stop S hS, hg.stop S hS]
end Go.Proofs.YtoaiofjcjjkfaaaGreatDoor
/- The document's bytes: counts, texts, facts. -/
namespace Go.Proofs.YtoaiofjcjjkfaaaGreatDoor
open Go.RowKit Go.Maps Go.Sort
set_option linter.unusedVariables false

def Told (l : List UInt8) (w : World) (e : Ending) (w' : World) : Prop := e = .returned (sv l) ∧ Below w.heap.size w w'
theorem dcount_any (n : Nat) (hn : n < 2 ^ 63) (w : World) : Calls Tryz.prog 146 #[.int .i64 (n : Int)] w (Told (low n 4) w) := by
  have HL := Lib.hid (Num_any n 4 w (by omega) (by omega))
  have hu : IntKind.u64.wrap (n : Int) = (n : Int) := by rw [IntKind.wrap_u64]; omega
  clear hn
  go_enter Tryz.func146, Tryz.ntmps146
  go_wp2_with (go_at_call 38; refine HL.out.mono ?_; rintro e w1 ⟨rfl, hb1⟩)
  go_ret
  exact ⟨rfl, hb1⟩
theorem dtext_any (s : List UInt8) (hs : s.length ≤ 4611686018427387904) (w : World) : Calls Tryz.prog 142 #[sv s] w (Told (bText s) w) := by
  have HC := Lib.hid (dcount_any s.length (by omega) w)
  unfold Told at HC
  have HB : Hid (bText s = low s.length 4 ++ s) := Lib.hid rfl
  obtain ⟨A, hA⟩ : ∃ A, low s.length 4 = A := ⟨_, rfl⟩
  have hla : A.length = 4 := by rw [← hA, low_len]
  have hcat : ∀ w0, (Op.stringOp .add ⟨A.toArray⟩ ⟨s.toArray⟩).run Tryz.prog w0 = .ok (.string ⟨(A ++ s).toArray⟩) w0 := fun w0 => run_cat _ _ (by omega) w0
  rw [hA] at HC HB
  obtain ⟨X, hX⟩ : ∃ X, A ++ s = X := ⟨_, rfl⟩
  rw [hX] at HB hcat
  clear hA hla hX
  go_enter Tryz.func142, Tryz.ntmps142
  go_wp2_with (go_at_call 146; refine HC.out.mono ?_; rintro e w1 ⟨rfl, hb1⟩; have B1 := Lib.hid hb1; clear hb1)
  go_ret
  exact ⟨by rw [HB.out]; rfl, B1.out⟩
theorem flat_snoc {α : Type} (b : α → List UInt8) (l : List α) (j : Nat) (h : j < l.length) : (l.take (j + 1)).flatMap b = (l.take j).flatMap b ++ b l[j] := by
  rw [List.take_succ_eq_append_getElem h, List.flatMap_append]; simp
theorem flat_pre {α : Type} (b : α → List UInt8) (l : List α) (j : Nat) : ((l.take j).flatMap b).length ≤ (l.flatMap b).length := by
  conv => rhs; rw [← List.take_append_drop j l]
  rw [List.flatMap_append, List.length_append]; omega
theorem flat_one {α : Type} (b : α → List UInt8) (l : List α) (j : Nat) (h : j < l.length) : (b l[j]).length ≤ (l.flatMap b).length := by
  have h1 := flat_pre b l (j + 1)
  rw [flat_snoc b l j h, List.length_append] at h1
  omega
theorem row_bound {α : Type} (b : α → List UInt8) (l : List α) : (l.flatMap b).length ≤ (bRow b l).length := by unfold bRow; rw [List.length_append]; omega
set_option maxRecDepth 100000 in
set_option maxHeartbeats 1000000 in
theorem dtexts_any (vl : Value) (l : List (List UInt8)) (w : World) (hr : RowE (fun k => k < w.heap.size) w 1 strE vl l) (hb : (bRow bText l).length ≤ 1152921504606846976) : Calls Tryz.prog 143 #[vl] w (Told (bRow bText l) w) := by
  obtain ⟨A, c, rfl, hm, hel⟩ := hr
  have HE := Lib.hid hel
  unfold maxLen at hm
  have HC := Lib.hid (dcount_any l.length (by omega) w)
  unfold Told at HC
  have hfl := row_bound bText l
  obtain ⟨n, hn⟩ : ∃ n, l.length = n := ⟨_, rfl⟩
  rw [hn] at hm HC
  have HN := Lib.hid hn
  have HFL := Lib.hid hfl
  have HBD := Lib.hid hb
  rw [hn]
  clear hn hel hfl hb
  go_enter Tryz.func143, Tryz.ntmps143
  go_wp2_with fail
  refine HC.out.mono ?_
  rintro e w1 ⟨rfl, hb1⟩
  have B1 := Lib.hid hb1
  clear hb1
  go_wp2
  go_loopw [3, 4] (fun x i wr => ∃ j : Nat, ∃ X, j ≤ n ∧ i = .int .i64 j ∧ x = sv X ∧ X = low n 4 ++ (l.take j).flatMap bText ∧ Below w.heap.size w wr) (fun _ i _ => n - (intOf i).toNat)
  case atStart => exact ⟨0, _, by omega, rfl, rfl, by simp, B1.out⟩
  case round =>
    obtain ⟨j, X, hj, rfl, rfl, hX, hbw⟩ := hrel
    have HX := Lib.hid hX
    have HB := Lib.hid hbw
    clear hX hbw
    by_cases hlt : j < n
    · have hjl : j < l.length := by rw [HN.out]; exact hlt
      obtain ⟨g, off, rfl, hg, hcell⟩ := HE.out (by omega)
      obtain ⟨cs, hlen, hcs2, rfl, hmx⟩ := hcell j hjl
      have hc : _ = some (sv l[j]) := (cell_of_heap (HB.out.block g hg)).trans (hcs2 0 (by omega))
      simp only [Nat.mul_one, Nat.add_zero] at hc
      have h1 := flat_pre bText l j
      have h2 := flat_one bText l j hjl
      have h3 := HFL.out
      have h4 := HBD.out
      have hxl : X.length ≤ 1152921504606846980 := by rw [HX.out, List.length_append, low_len]; omega
      have hsl : l[j].length ≤ 1152921504606846976 := by
        have : (bText l[j]).length = 4 + l[j].length := by unfold bText; rw [List.length_append, low_len]
        omega
      have hcat : ∀ w0, (Op.stringOp .add ⟨X.toArray⟩ ⟨(bText l[j]).toArray⟩).run Tryz.prog w0 = .ok (.string ⟨(X ++ bText l[j]).toArray⟩) w0 := fun w0 => run_cat _ _ (by omega) w0
      have HT := Lib.hid (dtext_any l[j] (by omega))
      have HQ : Hid (X ++ bText l[j] = low n 4 ++ (l.take (j + 1)).flatMap bText) := Lib.hid (by rw [flat_snoc bText l j hjl, HX.out, List.append_assoc])
      unfold Told at HT
      generalize bText l[j] = T at *
      generalize l[j] = s at *
      generalize X ++ T = Y at *
      clear h1 h2 h3 h4 hxl hsl hcell hcs2 hlen hmx
      go_wp2_with (go_at_call 142; refine (HT.out _).mono ?_; rintro e w3 ⟨rfl, hb3⟩; have B3 := Lib.hid (HB.out.trans (hb3.mono HB.out.size)); clear hb3)
      go_roundw
      case rel => exact ⟨j + 1, Y, by omega, by go_num, rfl, HQ.out, B3.out⟩
      case measure => simp [intOf]; omega
    · obtain rfl : j = n := by omega
      go_wp2
      go_ret
      exact ⟨by rw [HX.out, ← HN.out, List.take_length]; rfl, HB.out⟩
end Go.Proofs.YtoaiofjcjjkfaaaGreatDoor
/- The document's bytes of a fact; two lists of texts that are the same. -/
namespace Go.Proofs.YtoaiofjcjjkfaaaGreatDoor
open Go.RowKit Go.Maps Go.Sort
set_option linter.unusedVariables false

theorem regrown_heap {w : World} {k : Nat} (hk : k < w.heap.size) (dd : Nat) (os : Array Obj) : (grow (redrawn w dd) os).heap[k]? = w.heap[k]? := (below_regrown w dd os).block k hk
theorem RowE.regrown {α : Type} {w : World} {B size : Nat} {E : α → List Value → Prop} {v : Value} {l : List α} (h : RowE (fun k => k < B) w size E v l) (hB : B ≤ w.heap.size) (dd : Nat) (os : Array Obj) : RowE (fun k => k < B) (grow (redrawn w dd) os) size E v l := h.of (fun k hk => regrown_heap (Nat.lt_of_lt_of_le hk hB) dd os) fun _ _ h => h
theorem RowE.up {α : Type} {w : World} {B size : Nat} {E : α → List Value → Prop} {v : Value} {l : List α} (h : RowE (fun k => k < B) w size E v l) (hB : B ≤ w.heap.size) : RowE (fun k => k < w.heap.size) w size E v l := h.mono fun k hk => Nat.lt_of_lt_of_le hk hB

def IntB (x : Value) (X : List UInt8) : Prop := x = sv X
set_option maxRecDepth 100000 in
set_option maxHeartbeats 2000000 in
theorem dfact_any (dv mv : Value) (f : FactP) (w : World) (hd : RowE (fun k => k < w.heap.size) w 1 strE dv f.dims) (hm : RowE (fun k => k < w.heap.size) w 1 intE mv f.meas) (hb : (bFact f).length ≤ 1152921504606846976) : Calls Tryz.prog 147 #[.agg #[dv, mv]] w (Told (bFact f) w) := by
  obtain ⟨A1, n1, c1, rfl⟩ := hd.slice
  obtain ⟨A, c, rfl, hml, hel⟩ := hm
  unfold maxLen at hml
  obtain ⟨wa, hwa⟩ : ∃ wa, w.alloc (.cells #[.slice A1 n1 c1, .slice A f.meas.length c] 139) = wa := ⟨_, rfl⟩
  obtain ⟨gb, hgb⟩ : ∃ gb, w.heap.size = gb := ⟨_, rfl⟩
  have hbx : Blk wa gb 139 #[.slice A1 n1 c1, .slice A f.meas.length c] := by rw [← hwa, ← hgb]; exact Blk.new w 139 _
  have hba : Below w.heap.size w wa := by rw [← hwa]; exact (Below.refl _ _).alloc (Nat.le_refl _) _
  have hda : RowE (fun k => k < w.heap.size) wa 1 strE (.slice A1 n1 c1) f.dims := hd.of (fun k hk => hba.block k hk) fun _ _ h => h
  have hl1 : (bRow bText f.dims).length + (bRow enc8 f.meas).length ≤ 1152921504606846976 := by unfold bFact at hb; rw [List.length_append] at hb; exact hb
  have KT : Hid (∀ dd os, Calls Tryz.prog 143 #[.slice A1 n1 c1] (grow (redrawn wa dd) os) fun e w'' => e = .returned (sv (bRow bText f.dims)) ∧ ∃ p : Regrown, w'' = grow (redrawn wa p.d) p.os) := Lib.hid fun dd os => Calls.regrown_of (dtexts_any _ _ _ ((hda.regrown hba.size dd os).up (Nat.le_trans hba.size (below_regrown wa dd os).size)) (by omega))
  have KC : Hid (∀ dd os, Calls Tryz.prog 146 #[.int .i64 (f.meas.length : Nat)] (grow (redrawn wa dd) os) fun e w'' => e = .returned (sv (low f.meas.length 4)) ∧ ∃ p : Regrown, w'' = grow (redrawn wa p.d) p.os) := Lib.hid fun dd os => Calls.regrown_of (dcount_any _ (by omega) _)
  have c0 : ∀ dd os, (grow (redrawn wa dd) os).cell? ⟨gb, 0, none⟩ = some (.slice A1 n1 c1) := fun dd os => cell_regrown (hbx.cell 0) dd os
  have c1' : ∀ dd os, (grow (redrawn wa dd) os).cell? ⟨gb, 1, none⟩ = some (.slice A f.meas.length c) := fun dd os => cell_regrown (hbx.cell 1) dd os
  have hcat : ∀ w0, (Op.stringOp .add ⟨(bRow bText f.dims).toArray⟩ ⟨(low f.meas.length 4).toArray⟩).run Tryz.prog w0 = .ok (.string ⟨(bRow bText f.dims ++ low f.meas.length 4).toArray⟩) w0 := fun w0 => run_cat _ _ (by rw [low_len]; omega) w0
  have HE := Lib.hid hel
  have HX := Lib.hid hbx
  have HBA := Lib.hid hba
  have hmf : (f.meas.flatMap enc8).length + 4 = (bRow enc8 f.meas).length := by unfold bRow; rw [List.length_append, low_len]; omega
  have HB : Hid (bFact f = bRow bText f.dims ++ (low f.meas.length 4 ++ f.meas.flatMap enc8)) := Lib.hid rfl
  have hxl : (bRow bText f.dims ++ low f.meas.length 4).length + (f.meas.flatMap enc8).length ≤ 1152921504606846976 := by rw [List.length_append, low_len]; omega
  have HXL := Lib.hid hxl
  obtain ⟨n, hn⟩ : ∃ n, f.meas.length = n := ⟨_, rfl⟩
  rw [hn] at hml KC c1' hcat HB HXL HX hwa ⊢
  have HN := Lib.hid hn
  generalize f.meas = M at *
  obtain ⟨Y, hY⟩ : ∃ Y, bRow bText f.dims ++ low n 4 = Y := ⟨_, rfl⟩
  rw [hY] at hcat HXL
  have HY := Lib.hid hY
  generalize bRow bText f.dims = D at *
  generalize low n 4 = L at *
  clear hn hel hbx hba hda hl1 hmf hxl hY hd hb
  go_enter Tryz.func147, Tryz.ntmps147
  go_wp2_with fail
  go_upto_region 2 with fail
  go_cut [3] (fun x wx => x = sv Y ∧ Below wa.heap.size wa wx)
  case first =>
    refine wp_region_quiet_below mixed (by kernel_rfl) ?_
    repeat (first | go_big_quiet_step (first | exact KT.out _ _ | exact KC.out _ _) | quiet_step (first | exact KT.out _ _ | exact KC.out _ _))
    refine wpQuiet_nil ?_
    intro wx hp
    have hbw : Below wa.heap.size wa wx := by obtain ⟨p, rfl⟩ := hp; exact below_regrown _ _ _
    go_wp2_with fail
    go_meet
    exact ⟨rfl, hbw⟩
  case rest =>
    obtain ⟨rfl, hbw⟩ := hcut
    have BC := Lib.hid hbw
    clear hbw c0 c1' hcat KT KC hwa hgb
    go_wp2
    go_loopw [3, 4] (fun x i wr => ∃ j : Nat, ∃ X, j ≤ n ∧ i = .int .i64 j ∧ x = sv X ∧ X = Y ++ (M.take j).flatMap enc8 ∧ Below wa.heap.size wa wr) (fun _ i _ => n - (intOf i).toNat)
    case atStart => exact ⟨0, _, by omega, rfl, rfl, by simp, BC.out⟩
    case round =>
      obtain ⟨j, X, hj, rfl, rfl, hX, hbw⟩ := hrel
      have HXX := Lib.hid hX
      have HBW := Lib.hid hbw
      have hblk : Blk wr gb 139 #[.slice A1 n1 c1, .slice A n c] := HX.out.of (hbw.block gb HX.out.lt)
      have d1 : wr.cell? ⟨gb, 1, none⟩ = some (.slice A n c) := hblk.cell 1
      clear hX hbw hblk
      by_cases hlt : j < n
      · have hjl : j < M.length := by rw [HN.out]; exact hlt
        obtain ⟨g, off, rfl, hg, hcell⟩ := HE.out (by omega)
        obtain ⟨cs, hlen, hcs2, rfl, hmx⟩ := hcell j hjl
        have hgw : g < wa.heap.size := Nat.lt_of_lt_of_le hg HBA.out.size
        have hc : _ = some (Value.int .i64 M[j]) := (cell_of_heap ((HBW.out.block g hgw).trans (HBA.out.block g hg))).trans (hcs2 0 (by omega))
        simp only [Nat.mul_one, Nat.add_zero] at hc
        have h1 := flat_pre enc8 M j
        have h2 := flat_one enc8 M j hjl
        have h3 := HXL.out
        have hxl : X.length ≤ 1152921504606846980 := by rw [HXX.out, List.length_append]; omega
        have h8 : (enc8 M[j]).length = 8 := by unfold enc8; rw [low_len]
        have hcat : ∀ w0, (Op.stringOp .add ⟨X.toArray⟩ ⟨(enc8 M[j]).toArray⟩).run Tryz.prog w0 = .ok (.string ⟨(X ++ enc8 M[j]).toArray⟩) w0 := fun w0 => run_cat _ _ (by omega) w0
        have hk : IntKind.u64.wrap M[j] = (((M[j] % 18446744073709551616).toNat : Nat) : Int) := by rw [IntKind.wrap_u64]; omega
        have HL := Lib.hid (fun w => Num_any (M[j] % 18446744073709551616).toNat 8 w (by omega) (by omega))
        have HQ : Hid (X ++ enc8 M[j] = Y ++ (M.take (j + 1)).flatMap enc8) := Lib.hid (by rw [flat_snoc enc8 M j hjl, HXX.out, List.append_assoc])
        unfold Low at HL
        have he8 : low (M[j] % 18446744073709551616).toNat 8 = enc8 M[j] := rfl
        rw [he8] at HL
        generalize enc8 M[j] = T at *
        generalize (M[j] % 18446744073709551616).toNat = tt at *
        generalize M[j] = s at *
        generalize X ++ T = Z at *
        clear h1 h2 h3 hxl h8 hcell hcs2 hlen hmx he8
        go_wp2_with (go_at_call 38; refine (HL.out _).mono ?_; rintro e w3 ⟨rfl, hb3⟩; have B3 := Lib.hid (HBW.out.trans (hb3.mono HBW.out.size)); clear hb3)
        go_roundw
        case rel => exact ⟨j + 1, Z, by omega, by go_num, rfl, HQ.out, B3.out⟩
        case measure => simp [intOf]; omega
      · obtain rfl : j = n := by omega
        go_wp2
        go_ret
        exact ⟨by rw [HB.out, ← List.append_assoc, HY.out, HXX.out, ← HN.out, List.take_length]; rfl, HBA.out.trans (HBW.out.mono HBA.out.size)⟩

/-! ### two lists of texts that are the same -/
end Go.Proofs.YtoaiofjcjjkfaaaGreatDoor
/- The document's reader in memory: Fail, take, Done, Byte, Int. -/
namespace Go.Proofs.YtoaiofjcjjkfaaaGreatDoor
open Go.RowKit Go.Maps
set_option linter.unusedVariables false

/-- How it lies. -/
structure KDAt (w : World) (g : Nat) (S : RS) : Prop where
  blk : Blk w g 97 #[sv S.rest, .int .i64 S.fault]
  len : S.rest.length ≤ 1073741824
def DFt (g k : Nat) : Prop := g = k
theorem KDAt.of {w w' : World} {g : Nat} {S : RS} (h : KDAt w g S) (hk : w'.heap[g]? = w.heap[g]?) : KDAt w' g S := ⟨h.blk.of hk, h.len⟩
theorem KDAt.lt {w : World} {g : Nat} {S : RS} (h : KDAt w g S) : g < w.heap.size := h.blk.lt
theorem KDAt.keep {w w' : World} {g : Nat} {S : RS} (h : KDAt w g S) (hb : Fr No w w') : KDAt w' g S := h.of (hb.block g h.lt id)
theorem KDAt.new (w : World) (l : List UInt8) (hl : l.length ≤ 1073741824) : KDAt (w.alloc (.cells #[sv l, .int .i64 0] 97)) w.heap.size ⟨l, 0⟩ := ⟨Blk.new w 97 _, hl⟩
/-- A call of it that tells v. -/
def DP (g : Nat) (w : World) (v : Value) (S' : RS) (e : Ending) (w' : World) : Prop := e = .returned v ∧ KDAt w' g S' ∧ Fr (DFt g) w w'
def dpt (g : Nat) : Value := .pointer (some ⟨g, 0, Option.none⟩)

theorem dfail_any (g : Nat) (S : RS) (n : Int) (w : World) (h : KDAt w g S) : Calls Tryz.prog 101 #[dpt g, .int .i64 n] w (DP g w (.tuple #[]) (S.fail n)) := by
  have c0 : w.cell? ⟨g, 0, none⟩ = some (sv S.rest) := h.blk.cell 0
  have c1 : w.cell? ⟨g, 1, none⟩ = some (.int .i64 S.fault) := h.blk.cell 1
  have f0 := h.blk.frozen 0
  have f1 := h.blk.frozen 1
  have H := Lib.hid h
  clear h
  unfold dpt
  by_cases h0 : S.fault = 0
  · rw [h0] at c1
    by_cases hn : n = 0
    · have HV : Hid (S.fail n = S) := Lib.hid (by unfold RS.fail; rw [if_neg (by simp [hn])])
      subst hn
      clear h0
      go_enter Tryz.func101, Tryz.ntmps101
      go_wp2
      go_end0
      exact ⟨rfl, by rw [HV.out]; exact H.out, Fr.refl _ _⟩
    · have HV : Hid (S.fail n = ⟨[], n⟩) := Lib.hid (by unfold RS.fail; rw [if_pos ⟨hn, h0⟩])
      have hd : (n != 0) = true := by simpa using hn
      have he : (n == 0) = false := by simpa using hn
      clear h0 hn
      go_enter Tryz.func101, Tryz.ntmps101
      go_wp2
      go_end0
      refine ⟨rfl, ?_, ((Fr.refl (DFt g) w).setCell (p := ⟨g, 1, none⟩) (fun _ => (rfl : g = g)) _).setCell (p := ⟨g, 0, none⟩) (fun _ => (rfl : g = g)) _⟩
      rw [HV.out]
      exact ⟨(H.out.blk.set_ 1 _).set_ 0 _, by simp⟩
  · have HV : Hid (S.fail n = S) := Lib.hid (by unfold RS.fail; rw [if_neg (by simp [h0])])
    have hd : (S.fault == 0) = false := by simpa using h0
    clear h0
    go_enter Tryz.func101, Tryz.ntmps101
    go_wp2
    go_end0
    exact ⟨rfl, by rw [HV.out]; exact H.out, Fr.refl _ _⟩
theorem ddone_any (g : Nat) (S : RS) (w : World) (h : KDAt w g S) : Calls Tryz.prog 51 #[dpt g] w fun e w' => e = .returned (.int .i64 S.done) ∧ w = w' := by
  have c0 : w.cell? ⟨g, 0, none⟩ = some (sv S.rest) := h.blk.cell 0
  have c1 : w.cell? ⟨g, 1, none⟩ = some (.int .i64 S.fault) := h.blk.cell 1
  clear h
  unfold dpt
  obtain ⟨R, f⟩ := S
  by_cases h0 : f = 0
  · subst h0
    cases hr : R.isEmpty with
    | true =>
      have HV : Hid (RS.done ⟨R, 0⟩ = 0) := Lib.hid (by unfold RS.done; rw [if_neg (by simpa using hr)])
      go_enter Tryz.func51, Tryz.ntmps51
      go_wp2
      go_ret
      exact ⟨ret_int HV.out.symm, rfl⟩
    | false =>
      have HV : Hid (RS.done ⟨R, 0⟩ = 22) := Lib.hid (by unfold RS.done; rw [if_pos (by simpa using hr)])
      go_enter Tryz.func51, Tryz.ntmps51
      go_wp2
      go_ret
      exact ⟨ret_int HV.out.symm, rfl⟩
  · have HV : Hid (RS.done ⟨R, f⟩ = f) := Lib.hid (by unfold RS.done; rw [if_neg (by simp [h0])])
    have hd : (f == 0) = false := by simpa using h0
    clear h0
    go_enter Tryz.func51, Tryz.ntmps51
    go_wp2
    go_ret
    exact ⟨ret_int HV.out.symm, rfl⟩

set_option maxHeartbeats 1000000 in
theorem dtake_any (g : Nat) (S : RS) (n : Nat) (w : World) (h : KDAt w g S) : Calls Tryz.prog 98 #[dpt g, .int .i64 n] w (DP g w (sv (S.take n).1) (S.take n).2) := by
  have c0 : w.cell? ⟨g, 0, none⟩ = some (sv S.rest) := h.blk.cell 0
  have c1 : w.cell? ⟨g, 1, none⟩ = some (.int .i64 S.fault) := h.blk.cell 1
  have f0 := h.blk.frozen 0
  have f1 := h.blk.frozen 1
  have H := Lib.hid h
  by_cases h0 : S.fault = 0
  · rw [h0] at c1
    by_cases hl : S.rest.length < n
    · have HV : Hid (S.take n = ([], ⟨[], 20⟩)) := Lib.hid (by unfold RS.take; rw [if_pos h0, if_pos hl])
      have HF := Lib.hid (dfail_any g S 20 w h)
      have HE : Hid (S.fail 20 = ⟨[], 20⟩) := Lib.hid (by unfold RS.fail; rw [if_pos ⟨by decide, h0⟩])
      have hlt : ((S.rest.length : Nat) : Int) < (n : Int) := by omega
      have hlr := h.len
      unfold dpt at HF ⊢
      clear h h0 hl
      go_enter Tryz.func98, Tryz.ntmps98
      go_wp2_with fail
      refine HF.out.mono ?_
      rintro e w1 ⟨rfl, h1, f1'⟩
      rw [HE.out] at h1
      have H1 := Lib.hid h1
      have F1 := Lib.hid f1'
      clear h1 f1'
      go_wp2
      go_ret
      exact ⟨by rw [HV.out]; rfl, by rw [HV.out]; exact H1.out, F1.out⟩
    · have HV : Hid (S.take n = (S.rest.take n, ⟨S.rest.drop n, 0⟩)) := Lib.hid (by unfold RS.take; rw [if_pos h0, if_neg hl])
      have hlt : (n : Int) ≤ ((S.rest.length : Nat) : Int) := by omega
      have hlr := h.len
      have hbk := h.blk
      rw [h0] at hbk
      have HW : Hid (KDAt (w.setCell ⟨g, 0, none⟩ (sv (S.rest.drop n))) g ⟨S.rest.drop n, 0⟩) := Lib.hid ⟨hbk.set_ 0 _, by simp; omega⟩
      clear hbk
      have hx : (ByteArray.mk S.rest.toArray).extract 0 n = ⟨(S.rest.take n).toArray⟩ := by rw [ext_list, List.drop_zero]
      have hy : (ByteArray.mk S.rest.toArray).extract n S.rest.length = ⟨(S.rest.drop n).toArray⟩ := by rw [ext_list, List.take_length]
      unfold dpt
      clear h h0 hl
      go_enter Tryz.func98, Tryz.ntmps98
      go_wp2
      go_ret
      refine ⟨by rw [HV.out]; first | rfl | (simp only [hx]; rfl), ?_, (Fr.refl (DFt g) w).setCell (p := ⟨g, 0, none⟩) (fun _ => (rfl : g = g)) _⟩
      rw [HV.out]
      exact HW.out
  · have HV : Hid (S.take n = ([], S)) := Lib.hid (by unfold RS.take; rw [if_neg h0])
    have hd : (S.fault != 0) = true := by simpa using h0
    unfold dpt
    clear h h0
    go_enter Tryz.func98, Tryz.ntmps98
    go_wp2
    go_ret
    exact ⟨by rw [HV.out]; rfl, by rw [HV.out]; exact H.out, Fr.refl _ _⟩
end Go.Proofs.YtoaiofjcjjkfaaaGreatDoor
/- The document's reader: Byte, Int, Count, many, Text. -/
namespace Go.Proofs.YtoaiofjcjjkfaaaGreatDoor
open Go.RowKit Go.Maps
set_option linter.unusedVariables false

theorem of_l (l : List UInt8) (hl : l.length ≤ 8) (w : World) : Calls Tryz.prog 97 #[sv l] w fun e w' => e = .returned (.int .u64 (num l : Nat)) ∧ w = w' := of_any ⟨l.toArray⟩ w (by rw [sz]; exact hl)
set_option maxHeartbeats 400000 in
theorem dint_any (g : Nat) (S : RS) (w : World) (h : KDAt w g S) : Calls Tryz.prog 48 #[dpt g] w (DP g w (.int .i64 S.int.1) S.int.2) := by
  have HT : Hid (Calls Tryz.prog 98 #[dpt g, .int .i64 8] w (DP g w (sv (S.take 8).1) (S.take 8).2)) := Lib.hid (dtake_any g S 8 w h)
  have hl := take_len S 8
  have HN : Hid (∀ w, Calls Tryz.prog 97 #[sv (S.take 8).1] w fun e w' => e = .returned (.int .u64 (num (S.take 8).1 : Nat)) ∧ w = w') := Lib.hid fun w => of_l _ (by omega) w
  have HV : Hid (S.int = (IntKind.i64.wrap (num (S.take 8).1 : Nat), (S.take 8).2)) := Lib.hid rfl
  clear h hl
  generalize (S.take 8).1 = B at *
  generalize (S.take 8).2 = S1 at *
  generalize num B = n at *
  obtain ⟨m, hm⟩ : ∃ m, IntKind.i64.wrap (n : Int) = m := ⟨_, rfl⟩
  rw [hm] at HV
  generalize dpt g = P at *
  go_enter Tryz.func48, Tryz.ntmps48
  go_wp2_with fail
  refine HT.out.mono ?_
  rintro e w1 ⟨rfl, h1, f1⟩
  have H1 := Lib.hid h1
  have F1 := Lib.hid f1
  clear h1 f1
  go_wp2_with (go_at_call 97; refine (HN.out _).mono ?_; rintro e w' ⟨rfl, rfl⟩)
  go_ret
  exact ⟨by rw [HV.out]; rfl, by rw [HV.out]; exact H1.out, F1.out⟩
theorem Fr.thenD {g : Nat} {a b c : World} (h : Fr (DFt g) a b) (k : Fr (DFt g) b c) : Fr (DFt g) a c := h.then k
/-- A count that is told: what is too great fails, what is stopped tells 0. -/
theorem take_num_stop (S : RS) (n : Nat) (h : (S.take n).2.fault ≠ 0) : num (S.take n).1 = 0 := by
  unfold RS.take at h ⊢
  split at h
  · split at h
    · rename_i h0 h1; simp only [h0, if_true, h1]; rfl
    · exact absurd rfl h
  · rename_i h0; simp only [h0, if_false]; rfl
set_option maxHeartbeats 1000000 in
theorem dcnt_any (g : Nat) (S : RS) (most : Int) (w : World) (h : KDAt w g S) : Calls Tryz.prog 50 #[dpt g, .int .i64 most] w (DP g w (.int .i64 ((S.count most).1 : Nat)) (S.count most).2) := by
  have HT : Hid (Calls Tryz.prog 98 #[dpt g, .int .i64 4] w (DP g w (sv (S.take 4).1) (S.take 4).2)) := Lib.hid (dtake_any g S 4 w h)
  have hl := take_len S 4
  have hn : num (S.take 4).1 < 4294967296 := num_le _ 4 hl
  have hz := take_num_stop S 4
  have HN : Hid (∀ w, Calls Tryz.prog 97 #[sv (S.take 4).1] w fun e w' => e = .returned (.int .u64 (num (S.take 4).1 : Nat)) ∧ w = w') := Lib.hid fun w => of_l _ (by omega) w
  have HV : Hid (S.count most = if ((num (S.take 4).1 : Nat) : Int) > most then (0, (S.take 4).2.fail 23) else (if (S.take 4).2.fault = 0 then num (S.take 4).1 else 0, (S.take 4).2)) := Lib.hid rfl
  clear h hl
  generalize (S.take 4).1 = B at *
  generalize (S.take 4).2 = S1 at *
  generalize num B = n at *
  by_cases h0 : S1.fault = 0
  · by_cases hgt : (n : Int) > most
    · have HV2 : Hid (S.count most = (0, ⟨[], 23⟩)) := Lib.hid (by rw [HV.out, if_pos hgt]; unfold RS.fail; rw [if_pos ⟨by decide, h0⟩])
      have HE : Hid (S1.fail 23 = ⟨[], 23⟩) := Lib.hid (by unfold RS.fail; rw [if_pos ⟨by decide, h0⟩])
      have hd : decide (most < (n : Int)) = true := by simpa using hgt
      have H0 := Lib.hid h0
      clear HV hgt hz h0
      unfold dpt at HT ⊢
      go_enter Tryz.func50, Tryz.ntmps50
      go_wp2_with fail
      refine HT.out.mono ?_
      rintro e w1 ⟨rfl, h1, f1⟩
      have c1 : w1.cell? ⟨g, 1, none⟩ = some (.int .i64 0) := by have := h1.blk.cell 1; rw [H0.out] at this; exact this
      have HF := Lib.hid (dfail_any g S1 23 w1 h1)
      have F1 := Lib.hid f1
      unfold dpt at HF
      clear h1 f1
      go_wp2_with fail
      refine (HN.out _).mono ?_
      rintro e w2 ⟨rfl, rfl⟩
      go_wp2_with fail
      refine HF.out.mono ?_
      rintro e w3 ⟨rfl, h3, f3⟩
      rw [HE.out] at h3
      have c3 : w3.cell? ⟨g, 1, none⟩ = some (.int .i64 23) := h3.blk.cell 1
      have H3 := Lib.hid h3
      have F3 := Lib.hid f3
      clear h3 f3 c1
      go_wp2
      go_ret
      exact ⟨by rw [HV2.out]; rfl, by rw [HV2.out]; exact H3.out, F1.out.thenD F3.out⟩
    · have HV2 : Hid (S.count most = (n, S1)) := Lib.hid (by rw [HV.out, if_neg hgt, if_pos h0])
      have hd : decide (most < (n : Int)) = false := by simpa using hgt
      have H0 := Lib.hid h0
      clear HV hgt hz h0
      unfold dpt at HT ⊢
      go_enter Tryz.func50, Tryz.ntmps50
      go_wp2_with fail
      refine HT.out.mono ?_
      rintro e w1 ⟨rfl, h1, f1⟩
      have c1 : w1.cell? ⟨g, 1, none⟩ = some (.int .i64 0) := by have := h1.blk.cell 1; rw [H0.out] at this; exact this
      have H1 := Lib.hid h1
      have F1 := Lib.hid f1
      clear h1 f1
      go_wp2_with fail
      refine (HN.out _).mono ?_
      rintro e w2 ⟨rfl, rfl⟩
      go_wp2
      go_ret
      exact ⟨by rw [HV2.out]; rfl, by rw [HV2.out]; exact H1.out, F1.out⟩
  · have HV2 : Hid (S.count most = (0, S1)) := Lib.hid (by
      rw [HV.out]
      split
      · unfold RS.fail; rw [if_neg (by simp [h0])]
      · first | rfl | rw [if_neg h0])
    have hd : (S1.fault == 0) = false := by simpa using h0
    have hd2 : (S1.fault != 0) = true := by simpa using h0
    obtain rfl := hz h0
    clear HV h0 hz
    unfold dpt at HT ⊢
    go_enter Tryz.func50, Tryz.ntmps50
    go_wp2_with fail
    refine HT.out.mono ?_
    rintro e w1 ⟨rfl, h1, f1⟩
    have c1 : w1.cell? ⟨g, 1, none⟩ = some (.int .i64 S1.fault) := h1.blk.cell 1
    have H1 := Lib.hid h1
    have F1 := Lib.hid f1
    clear h1 f1
    go_wp2_with fail
    refine (HN.out _).mono ?_
    rintro e w2 ⟨rfl, rfl⟩
    go_wp2
    go_ret
    exact ⟨by rw [HV2.out]; rfl, by rw [HV2.out]; exact H1.out, F1.out⟩
set_option maxHeartbeats 1000000 in
theorem dmany_any (g : Nat) (S : RS) (k : Nat) (hk : 0 < k) (hk8 : k ≤ 8) (w : World) (h : KDAt w g S) : Calls Tryz.prog 99 #[dpt g, .int .i64 k] w (DP g w (.int .i64 ((S.many k).1 : Nat)) (S.many k).2) := by
  have HT : Hid (Calls Tryz.prog 98 #[dpt g, .int .i64 4] w (DP g w (sv (S.take 4).1) (S.take 4).2)) := Lib.hid (dtake_any g S 4 w h)
  have hl := take_len S 4
  have hn : num (S.take 4).1 < 4294967296 := num_le _ 4 hl
  have hz := take_num_stop S 4
  have hr : (S.take 4).2.rest.length ≤ 1073741824 := Nat.le_trans (take_rest S 4) h.len
  have HN : Hid (∀ w, Calls Tryz.prog 97 #[sv (S.take 4).1] w fun e w' => e = .returned (.int .u64 (num (S.take 4).1 : Nat)) ∧ w = w') := Lib.hid fun w => of_l _ (by omega) w
  have HV : Hid (S.many k = if num (S.take 4).1 > (S.take 4).2.rest.length / k then (0, (S.take 4).2.fail 20) else (num (S.take 4).1, (S.take 4).2)) := Lib.hid rfl
  clear h hl
  generalize (S.take 4).1 = B at *
  generalize (S.take 4).2 = S1 at *
  obtain ⟨q, hq⟩ : ∃ q, S1.rest.length / k = q := ⟨_, rfl⟩
  have hqq : ((S1.rest.length : Nat) : Int) / (k : Int) = (q : Int) := by rw [← hq]; omega
  have hqr : q ≤ 1073741824 := by rw [← hq]; exact Nat.le_trans (Nat.div_le_self _ _) hr
  rw [hq] at HV
  clear hq
  generalize num B = n at *
  have hk0 : ((k : Int) == 0) = false := by rw [beq_eq_false_iff_ne]; omega
  by_cases h0 : S1.fault = 0
  · have H0 := Lib.hid h0
    by_cases hgt : q < n
    · have HV2 : Hid (S.many k = (0, ⟨[], 20⟩)) := Lib.hid (by rw [HV.out, if_pos hgt]; unfold RS.fail; rw [if_pos ⟨by decide, h0⟩])
      have HE : Hid (S1.fail 20 = ⟨[], 20⟩) := Lib.hid (by unfold RS.fail; rw [if_pos ⟨by decide, h0⟩])
      clear HV hz h0
      unfold dpt at HT ⊢
      go_enter Tryz.func99, Tryz.ntmps99
      go_wp2_with fail
      refine HT.out.mono ?_
      rintro e w1 ⟨rfl, h1, f1⟩
      have c0 : w1.cell? ⟨g, 0, none⟩ = some (sv S1.rest) := h1.blk.cell 0
      have c1 : w1.cell? ⟨g, 1, none⟩ = some (.int .i64 0) := by have := h1.blk.cell 1; rw [H0.out] at this; exact this
      have HF := Lib.hid (dfail_any g S1 20 w1 h1)
      have F1 := Lib.hid f1
      unfold dpt at HF
      clear h1 f1
      go_wp2_with fail
      refine (HN.out _).mono ?_
      rintro e w2 ⟨rfl, rfl⟩
      go_wp2_with fail
      refine HF.out.mono ?_
      rintro e w3 ⟨rfl, h3, f3⟩
      rw [HE.out] at h3
      have c3 : w3.cell? ⟨g, 1, none⟩ = some (.int .i64 20) := h3.blk.cell 1
      have H3 := Lib.hid h3
      have F3 := Lib.hid f3
      clear h3 f3 c1 c0
      go_wp2
      go_ret
      exact ⟨by rw [HV2.out]; rfl, by rw [HV2.out]; exact H3.out, F1.out.thenD F3.out⟩
    · have HV2 : Hid (S.many k = (n, S1)) := Lib.hid (by rw [HV.out, if_neg hgt])
      have hle : n ≤ q := by omega
      clear HV hz h0 hgt
      unfold dpt at HT ⊢
      go_enter Tryz.func99, Tryz.ntmps99
      go_wp2_with fail
      refine HT.out.mono ?_
      rintro e w1 ⟨rfl, h1, f1⟩
      have c0 : w1.cell? ⟨g, 0, none⟩ = some (sv S1.rest) := h1.blk.cell 0
      have c1 : w1.cell? ⟨g, 1, none⟩ = some (.int .i64 0) := by have := h1.blk.cell 1; rw [H0.out] at this; exact this
      have H1 := Lib.hid h1
      have F1 := Lib.hid f1
      clear h1 f1
      go_wp2_with fail
      refine (HN.out _).mono ?_
      rintro e w2 ⟨rfl, rfl⟩
      go_wp2
      go_ret
      exact ⟨by rw [HV2.out]; rfl, by rw [HV2.out]; exact H1.out, F1.out⟩
  · obtain rfl := hz h0
    have HV2 : Hid (S.many k = (0, S1)) := Lib.hid (by rw [HV.out, if_neg (by omega)])
    have hd : (S1.fault == 0) = false := by simpa using h0
    have hd2 : (S1.fault != 0) = true := by simpa using h0
    clear HV h0 hz
    unfold dpt at HT ⊢
    go_enter Tryz.func99, Tryz.ntmps99
    go_wp2_with fail
    refine HT.out.mono ?_
    rintro e w1 ⟨rfl, h1, f1⟩
    have c1 : w1.cell? ⟨g, 1, none⟩ = some (.int .i64 S1.fault) := h1.blk.cell 1
    have H1 := Lib.hid h1
    have F1 := Lib.hid f1
    clear h1 f1
    go_wp2_with fail
    refine (HN.out _).mono ?_
    rintro e w2 ⟨rfl, rfl⟩
    go_wp2
    go_ret
    exact ⟨by rw [HV2.out]; rfl, by rw [HV2.out]; exact H1.out, F1.out⟩
set_option maxHeartbeats 400000 in
theorem dtext_r (g : Nat) (S : RS) (w : World) (h : KDAt w g S) : Calls Tryz.prog 100 #[dpt g] w (DP g w (sv S.text.1) S.text.2) := by
  have HM : Hid (Calls Tryz.prog 99 #[dpt g, .int .i64 1] w (DP g w (.int .i64 ((S.many 1).1 : Nat)) (S.many 1).2)) := Lib.hid (dmany_any g S 1 (by omega) (by omega) w h)
  have HV : Hid (S.text = (S.many 1).2.take (S.many 1).1) := Lib.hid rfl
  clear h
  generalize (S.many 1).1 = n at *
  generalize (S.many 1).2 = S1 at *
  generalize hP : dpt g = P at *
  have HP := Lib.hid hP
  clear hP
  go_enter Tryz.func100, Tryz.ntmps100
  go_wp2_with fail
  refine HM.out.mono ?_
  rintro e w1 ⟨rfl, h1, f1⟩
  have F1 := Lib.hid f1
  have H2 := Lib.hid (dtake_any g S1 n w1 h1)
  rw [HP.out] at H2
  clear h1 f1
  go_wp2_with (go_at_call 98; refine H2.out.mono ?_; rintro e w2 ⟨rfl, h2, f2⟩)
  go_ret
  exact ⟨by rw [HV.out]; rfl, by rw [HV.out]; exact h2, F1.out.thenD f2⟩
end Go.Proofs.YtoaiofjcjjkfaaaGreatDoor
/- The document's reader takes up a cell. -/
namespace Go.Proofs.YtoaiofjcjjkfaaaGreatDoor
open Go.RowKit Go.Maps
set_option linter.unusedVariables false

def set3 (w : World) (g : Nat) (u0 u1 u2 : Value) : World := ((w.setCell ⟨g, 0, none⟩ u0).setCell ⟨g, 1, none⟩ u1).setCell ⟨g, 2, none⟩ u2
theorem set3_fin {g gr : Nat} {w w7 : World} {S1 : RS} (h7 : KDAt w7 g S1) (F7 : Fr (DFt g) w w7) (hne : g ≠ gr) (hgr : w.heap.size ≤ gr) (u0 u1 u2 : Value) : KDAt (set3 w7 gr u0 u1 u2) g S1 ∧ Fr (DFt g) w (set3 w7 gr u0 u1 u2) := by
  unfold set3
  refine ⟨h7.of ?_, ?_⟩
  · rw [Below.heap_setCell _ _ _ g hne, Below.heap_setCell _ _ _ g hne, Below.heap_setCell _ _ _ g hne]
  · have hlt : ¬ gr < w.heap.size := by omega
    exact ((F7.setCell (p := ⟨gr, 0, none⟩) (fun h => absurd h hlt) _).setCell (p := ⟨gr, 1, none⟩) (fun h => absurd h hlt) _).setCell (p := ⟨gr, 2, none⟩) (fun h => absurd h hlt) _
end Go.Proofs.YtoaiofjcjjkfaaaGreatDoor
/- The document's reader takes up any cell. -/
namespace Go.Proofs.YtoaiofjcjjkfaaaGreatDoor
open Go.RowKit Go.Maps
set_option linter.unusedVariables false

end Go.Proofs.YtoaiofjcjjkfaaaGreatDoor
/- The document's reader takes up texts, cells. -/
namespace Go.Proofs.YtoaiofjcjjkfaaaGreatDoor
open Go.RowKit Go.Maps
set_option linter.unusedVariables false

theorem Grow.nil0 {α : Type} (b e size : Nat) (E : (Nat → Prop) → World → α → List Value → Prop) (w : World) : Grow b e size E w (.slice none 0 0) ([] : List α) :=
  ⟨fun _ => False, [], ⟨by simp, .inl ⟨rfl, rfl⟩⟩, fun j h => absurd h (by simp), fun k h => h.elim⟩
/-- A call of the document's reader that tells a row. -/
def DPr {α : Type} (g : Nat) (w : World) (size : Nat) (E : (Nat → Prop) → World → α → List Value → Prop) (l : List α) (S' : RS) (e : Ending) (w' : World) : Prop :=
  ∃ V, e = .returned V ∧ KDAt w' g S' ∧ Fr (DFt g) w w' ∧ RowE (fun k => w.heap.size ≤ k) w' size (E (fun k => w.heap.size ≤ k) w') V l
set_option maxRecDepth 100000 in
set_option maxHeartbeats 4000000 in
theorem dtexts_r (g : Nat) (S : RS) (w : World) (h : KDAt w g S) : Calls Tryz.prog 49 #[dpt g] w (DPr g w 1 strG (S.several RS.text 4).1 (S.several RS.text 4).2) := by
  obtain ⟨b, hb⟩ : ∃ b, w.heap.size = b := ⟨_, rfl⟩
  have hpb : ∀ j, DFt g j → j < b := fun j hj => by have := h.lt; unfold DFt at hj; omega
  have hml := many_le S 4
  have hsl := h.len
  have HM := Lib.hid (dmany_any g S 4 (by omega) (by omega) w h)
  have HV : Hid (S.several RS.text 4 = (if (seq RS.text (S.many 4).1 (S.many 4).2).2.fault = 0 then (seq RS.text (S.many 4).1 (S.many 4).2).1 else [], (seq RS.text (S.many 4).1 (S.many 4).2).2)) := Lib.hid rfl
  have PB := Lib.hid hpb
  have hn : (S.many 4).1 ≤ 1073741824 := by omega
  have HBS := Lib.hid (show b = w.heap.size from hb.symm)
  generalize (S.many 4).1 = n at *
  generalize (S.many 4).2 = S1 at *
  clear h hpb hml hsl
  unfold dpt at HM ⊢
  go_enter Tryz.func49, Tryz.ntmps49
  go_wp2_with fail
  refine HM.out.mono ?_
  rintro e w1 ⟨rfl, h1, f1⟩
  have H1 := Lib.hid h1
  have F1 := Lib.hid f1
  clear h1 f1 hb
  go_wp2
  go_loopw [4, 5] (fun v i wr => ∃ j : Nat, ∃ A c, j ≤ n ∧ i = .int .i64 j ∧ v = .slice A j c ∧ Grow b 9 1 strG wr (.slice A j c) (seq RS.text j S1).1 ∧ KDAt wr g (seq RS.text j S1).2 ∧ Fr (DFt g) w wr) (fun _ i _ => n - (intOf i).toNat)
  case atStart => exact ⟨0, _, _, by omega, rfl, rfl, Grow.nil0 _ _ _ _ _, H1.out, F1.out⟩
  case round =>
    obtain ⟨j, A, c, hj, rfl, rfl, hg, hr, hf⟩ := hrel
    have HG := Lib.hid hg
    have HR0 := Lib.hid hr
    have HF := Lib.hid hf
    have HQ : Hid (seq RS.text (j + 1) S1 = ((seq RS.text j S1).1 ++ [(RS.text (seq RS.text j S1).2).1], (RS.text (seq RS.text j S1).2).2)) := Lib.hid rfl
    have HL := Lib.hid (seq_len RS.text S1 j)
    clear hg hr hf
    by_cases hlt : j < n
    · go_wp2_with fail
      have HC := dtext_r g (seq RS.text j S1).2 wr HR0.out
      unfold dpt  at HC
      refine HC.mono ?_
      clear HC
      rintro e w3 ⟨rfl, h3, f3⟩
      have hg3 := HG.out.keep strG_elem f3 PB.out
      have hel : strG (fun x => wr.heap.size ≤ x) w3 (RS.text (seq RS.text j S1).2).1 [sv (RS.text (seq RS.text j S1).2).1] := ⟨rfl, by have := text_le (seq RS.text j S1).2; have := HR0.out.len; unfold maxLen; omega⟩
      obtain ⟨A', c', w4, hap, hg4, f4, hlt4⟩ := hg3.more strG_elem (w0 := wr) (by rw [HBS.out]; exact HF.out.size) f3.size (fun x hx => (HG.out.lt x hx).2) 22 Tryz.underlying22 (.string ⟨#[]⟩) info9 rfl (by omega) _ [sv (RS.text (seq RS.text j S1).2).1] rfl (by simp [Value.oneCell']) hel (by rw [HL.out]; omega) (by rw [HL.out]; unfold maxLen; omega)
      rw [HL.out] at hap hg4
      have h4 : KDAt w4 g (RS.text (seq RS.text j S1).2).2 := h3.of (f4.block g h3.lt fun hx => by have := (HG.out.lt g hx).1; have := PB.out g rfl; omega)
      have hf4 : Fr (DFt g) w w4 := (HF.out.thenD f3).trans f4 fun x hlx hx => by have := (HG.out.lt x hx).1; have := HBS.out; omega
      have HAP := Lib.hid hap
      have HG4 : Hid (Grow b 9 1 strG w4 (.slice A' (j + 1) c') (seq RS.text (j + 1) S1).1) := Lib.hid (by rw [HQ.out]; exact hg4)
      have HR4 : Hid (KDAt w4 g (seq RS.text (j + 1) S1).2) := Lib.hid (by rw [HQ.out]; exact h4)
      have HF4 := Lib.hid hf4
      clear h3 f3 hg3 hel hap hg4 f4 hlt4 h4 hf4
      go_wp2_with (at_builtin; refine wpList_add rfl _ _ _ _ rfl _ _ _ _ rfl rfl (HAP.out _) ?_)
      go_roundw
      case rel => exact ⟨j + 1, A', c', by omega, by go_num, by go_num, HG4.out, HR4.out, HF4.out⟩
      case measure => simp [intOf]; omega
    · obtain rfl : j = n := by omega
      have e1 : wr.cell? ⟨g, 1, none⟩ = some (.int .i64 (seq RS.text j S1).2.fault) := HR0.out.blk.cell 1
      by_cases hz : (seq RS.text j S1).2.fault = 0
      · rw [hz] at e1
        have HE : Hid (S.several RS.text 4 = seq RS.text j S1) := Lib.hid (by rw [HV.out, if_pos hz])
        have hrow := HG.out.row strG_elem (by rw [HL.out]; unfold maxLen; omega)
        rw [HBS.out] at hrow
        have HROW := Lib.hid hrow
        clear hz hrow
        go_wp2
        go_ret
        exact ⟨_, rfl, by rw [HE.out]; exact HR0.out, HF.out, by rw [HE.out]; exact HROW.out⟩
      · have hd : ((seq RS.text j S1).2.fault != 0) = true := by simpa using hz
        have HE : Hid (S.several RS.text 4 = ([], (seq RS.text j S1).2)) := Lib.hid (by rw [HV.out, if_neg hz])
        clear hz
        go_wp2
        go_ret
        exact ⟨_, rfl, by rw [HE.out]; exact HR0.out, HF.out, by rw [HE.out]; exact RowE.nil _ _ _ _ _⟩
end Go.Proofs.YtoaiofjcjjkfaaaGreatDoor
/- The document's reader takes up cells. -/
namespace Go.Proofs.YtoaiofjcjjkfaaaGreatDoor
open Go.RowKit Go.Maps
set_option linter.unusedVariables false

end Go.Proofs.YtoaiofjcjjkfaaaGreatDoor
/- The document's reader takes up a fact. -/
namespace Go.Proofs.YtoaiofjcjjkfaaaGreatDoor
open Go.RowKit Go.Maps
set_option linter.unusedVariables false

/-- append, as one step of a region that draws, by its run. -/
theorem step_add {ops : Array Oper} {o : Oper} {a : Act} {w w' : World} {v' : Value} {K : Act → World → Prop} {Q : Exit → Act → World → Prop} {E : Prop}
    (hg : o.guard = none) (sl x : Operand) (t1 t2 : TypeId) (hop : o.op = Op.call { callee := Callee.builtin Builtin.append, args := #[sl, x], argTypes := #[t1, t2] })
    (v vx : Value) (hs : a.eval sl = v) (hx : a.eval x = vx) (hr : (Builtin.append_ #[t1, t2] o.type #[v, vx]).run Tryz.prog w = .ok v' w') (hK : K (a.put o.dst v') w') :
    if Region.wanted o (yielded ops a.tmps) = true then Oper.wp Tryz.prog o a w K Q else E := by
  have hw : Region.wanted o (yielded ops a.tmps) = true := by simp [Region.wanted, hg]
  rw [if_pos hw]
  unfold Oper.wp
  simp [execOp, hop, resolve, invoke, builtin, hs, hx, hr, Result.andThen]
  exact hK
/-- A call of the document's reader that tells a fact. -/
def DPf (g : Nat) (w : World) (f : FactP) (S' : RS) (e : Ending) (w' : World) : Prop :=
  ∃ dv mv, e = .returned (.agg #[dv, mv]) ∧ KDAt w' g S' ∧ Fr (DFt g) w w' ∧ RowE (fun k => w.heap.size ≤ k) w' 1 strE dv f.dims ∧ RowE (fun k => w.heap.size ≤ k) w' 1 intE mv f.meas
/-- The reader's block, or the fact's. -/
def FB (g fb k : Nat) : Prop := k = g ∨ k = fb

set_option maxRecDepth 100000 in
set_option maxHeartbeats 4000000 in
theorem dfact_r (g : Nat) (S : RS) (w : World) (h : KDAt w g S) : Calls Tryz.prog 102 #[dpt g] w (DPf g w S.fact.1 S.fact.2) := by
  obtain ⟨w0, hw0⟩ : ∃ w0, w.alloc (.cells #[.slice none 0 0, .slice none 0 0] 139) = w0 := ⟨_, rfl⟩
  obtain ⟨gr, hgr⟩ : ∃ gr, w.heap.size = gr := ⟨_, rfl⟩
  have h0 : KDAt w0 g S := by rw [← hw0]; exact h.keep ((Fr.refl _ w).alloc _)
  have hb0 : Blk w0 gr 139 #[.slice none 0 0, .slice none 0 0] := by rw [← hw0, ← hgr]; exact Blk.new w 139 _
  have hf0 : Fr (DFt g) w w0 := by rw [← hw0]; exact (Fr.refl _ w).alloc _
  have hlt := h.lt
  have hggr : g < gr := by omega
  have H0 := Lib.hid h0
  have X0 := Lib.hid hb0
  have F0 := Lib.hid hf0
  have GR := Lib.hid hgr
  have HT := Lib.hid (dtexts_r g S w0 h0)
  have HVf : Hid (S.fact = (if S.texts.2.ints.2.fault = 0 then ⟨S.texts.1, S.texts.2.ints.1⟩ else FactP.zero, S.texts.2.ints.2)) := Lib.hid rfl

  have HTX : Hid (S.several RS.text 4 = S.texts) := Lib.hid rfl
  clear h h0 hb0 hf0
  unfold dpt at HT ⊢
  go_enter Tryz.func102, Tryz.ntmps102
  go_wp2_with fail

  refine HT.out.mono ?_
  rw [HTX.out]
  rintro e w1 ⟨dv, rfl, h1, f1, r1⟩
  clear HT
  have hx1 : Blk w1 gr 139 #[.slice none 0 0, .slice none 0 0] := X0.out.of (f1.block gr X0.out.lt fun e => by unfold DFt at e; omega)
  obtain ⟨A1, n1, c1, rfl⟩ := r1.slice
  have hs0 := X0.out.lt
  have hr1 := (r1.bound (by omega)).mono (K' := fun k => gr < k ∧ k < w1.heap.size) fun k hk => ⟨by have := hk.1; omega, hk.2⟩
  obtain ⟨w2, hw2⟩ : ∃ w2, w1.alloc (.cells #[.slice A1 n1 c1, .slice none 0 0] 139) = w2 := ⟨_, rfl⟩
  obtain ⟨fb, hfb⟩ : ∃ fb, w1.heap.size = fb := ⟨_, rfl⟩
  have h2 : KDAt w2 g S.texts.2 := by rw [← hw2]; exact h1.keep ((Fr.refl _ w1).alloc _)
  have hb2 : Blk w2 fb 139 #[.slice A1 n1 c1, .slice none 0 0] := by rw [← hw2, ← hfb]; exact Blk.new w1 139 _
  have hf2 : Fr (DFt g) w w2 := by rw [← hw2]; exact (F0.out.thenD f1).alloc _
  have hfa : Fr No w1 w2 := by rw [← hw2]; exact (Fr.refl _ w1).alloc _
  have hx2 : Blk w2 gr 139 #[.slice none 0 0, .slice none 0 0] := hx1.of (hfa.block gr hx1.lt id)
  have hr2 : RowE (fun k => gr < k ∧ k < fb) w2 1 strE (.slice A1 n1 c1) S.texts.1 := by rw [← hfb]; exact hr1.of (fun k hk => hfa.block k hk.2 id) fun _ _ h => h
  obtain ⟨b, hb⟩ : ∃ b, w2.heap.size = b := ⟨_, rfl⟩
  have hgfb : gr < fb := by have := hx1.lt; omega
  have hfbb : fb < b := by have := hb2.lt; omega
  have hml := many_le S.texts.2 8
  have hsl := h2.len
  have HM := Lib.hid (dmany_any g S.texts.2 8 (by omega) (by omega) w2 h2)
  have HV : Hid (S.texts.2.ints = (if (seq RS.int (S.texts.2.many 8).1 (S.texts.2.many 8).2).2.fault = 0 then (seq RS.int (S.texts.2.many 8).1 (S.texts.2.many 8).2).1 else [], (seq RS.int (S.texts.2.many 8).1 (S.texts.2.many 8).2).2)) := Lib.hid rfl
  have hn : (S.texts.2.many 8).1 ≤ 1073741824 := by omega
  have X2 := Lib.hid hx2
  have R2 := Lib.hid hr2
  have B2 := Lib.hid hb2
  have F2 := Lib.hid hf2
  have W2 := Lib.hid hw2
  have SB := Lib.hid hb
  have SF := Lib.hid hfb
  generalize (S.texts.2.many 8).1 = n at *
  generalize (S.texts.2.many 8).2 = S1 at *
  clear h1 f1 r1 hx1 hr1 h2 hb2 hf2 hfa hx2 hr2 hml hsl hb hfb hw2 hgr hw0 hlt H0 X0 F0
  unfold dpt at HM
  go_wp2_with fail
  rw [W2.out, SF.out]
  refine HM.out.mono ?_
  rintro e w3 ⟨rfl, h3, f3⟩
  have hb3 : Blk w3 fb 139 #[.slice A1 n1 c1, .slice none 0 0] := B2.out.of (f3.block fb B2.out.lt fun e => by unfold DFt at e; omega)
  have B3 := Lib.hid hb3
  have H3 := Lib.hid h3
  have F3 : Hid (Fr (FB g fb) w2 w3) := Lib.hid (f3.mono fun k _ hk => .inl hk.symm)
  clear h3 f3 HM hb3
  go_wp2
  go_loopw [5] (fun i wr => ∃ j : Nat, ∃ A c, j ≤ n ∧ i = .int .i64 j ∧ Blk wr fb 139 #[.slice A1 n1 c1, .slice A j c] ∧ Grow b 2 1 intG wr (.slice A j c) (seq RS.int j S1).1 ∧ KDAt wr g (seq RS.int j S1).2 ∧ Fr (FB g fb) w2 wr) (fun i _ => n - (intOf i).toNat)
  case atStart => exact ⟨0, _, _, by omega, rfl, B3.out, Grow.nil0 _ _ _ _ _, H3.out, F3.out⟩
  case round =>
    obtain ⟨j, A, c, hj, rfl, hbk, hg, hr, hf⟩ := hrel
    have HB := Lib.hid hbk
    have HG := Lib.hid hg
    have HR0 := Lib.hid hr
    have HF := Lib.hid hf
    have HQ : Hid (seq RS.int (j + 1) S1 = ((seq RS.int j S1).1 ++ [(RS.int (seq RS.int j S1).2).1], (RS.int (seq RS.int j S1).2).2)) := Lib.hid rfl
    have HL := Lib.hid (seq_len RS.int S1 j)
    clear hbk hg hr hf
    by_cases hlt : j < n
    · have x1 : wr.cell? ⟨fb, 1, none⟩ = some (.slice A j c) := HB.out.cell 1
      have HC : Hid (Calls Tryz.prog 48 #[dpt g] wr.drew fun e w4 => e = .returned (.int .i64 (RS.int (seq RS.int j S1).2).1) ∧ ∃ A' c' w5, w4.cell? ⟨fb, 1, none⟩ = some (.slice A j c) ∧ (w4.alloc (.cells #[.int .i64 (RS.int (seq RS.int j S1).2).1] 2)).cell? ⟨fb, 1, none⟩ = some (.slice A j c) ∧ w5.cell? ⟨fb, 1, none⟩ = some (.slice A j c) ∧ w5.frozen? ⟨fb, 1, none⟩ = false ∧
          (∀ ty, (Builtin.append_ #[137, 137] ty #[.slice A j c, .slice (some ⟨w4.heap.size, 0, none⟩) 1 1]).run Tryz.prog (w4.alloc (.cells #[.int .i64 (RS.int (seq RS.int j S1).2).1] 2)) = .ok (.slice A' (j + 1) c') w5) ∧
          Blk w5 fb 139 #[.slice A1 n1 c1, .slice A j c] ∧ Grow b 2 1 intG w5 (.slice A' (j + 1) c') (seq RS.int (j + 1) S1).1 ∧ KDAt w5 g (seq RS.int (j + 1) S1).2 ∧ Fr (FB g fb) w2 w5) := by
        refine Lib.hid ((dint_any g (seq RS.int j S1).2 wr.drew (HR0.out.keep ((Fr.refl _ _).drew))).mono ?_)
        rintro e w4 ⟨rfl, h4, f4⟩
        refine ⟨rfl, ?_⟩
        have hg4 := HG.out.keep intG_elem (((Fr.refl (DFt g) wr).drew).trans f4 fun _ _ h => h) (fun k hk => by unfold DFt at hk; omega)
        have hb4 : Blk w4 fb 139 #[.slice A1 n1 c1, .slice A j c] := HB.out.of (f4.block fb HB.out.lt fun e => by unfold DFt at e; omega)
        have hel : intG (fun x => wr.heap.size ≤ x) w4 (RS.int (seq RS.int j S1).2).1 [.int .i64 (RS.int (seq RS.int j S1).2).1] := ⟨rfl, int_bd _⟩
        have hbw : b ≤ wr.heap.size := by have := HF.out.size; rw [SB.out] at this; exact this
        obtain ⟨A', c', w5, hap, hg5, f5, hlt5⟩ := hg4.more intG_elem (w0 := wr) hbw f4.size (fun x hx => (HG.out.lt x hx).2) 137 Tryz.underlying137 (.int .i64 0) info2 rfl (by omega) _ [.int .i64 (RS.int (seq RS.int j S1).2).1] rfl (by simp [Value.oneCell']) hel (by rw [HL.out]; omega) (by rw [HL.out]; unfold maxLen; omega)
        rw [HL.out] at hap hg5
        have hb5 : Blk w5 fb 139 #[.slice A1 n1 c1, .slice A j c] := hb4.of (f5.block fb hb4.lt fun hx => by have := (HG.out.lt fb hx).1; omega)
        refine ⟨A', c', w5, hb4.cell 1, (hb4.of (((Fr.refl No w4).alloc _).block fb hb4.lt id)).cell 1, hb5.cell 1, hb5.frozen 1, hap, hb5, by rw [HQ.out]; exact hg5, by rw [HQ.out]; exact h4.of (f5.block g h4.lt fun hx => by have := (HG.out.lt g hx).1; omega), ?_⟩
        exact (HF.out.trans ((((Fr.refl (FB g fb) wr).drew).trans f4 fun k _ hk => .inl (by unfold DFt at hk; exact hk.symm))) fun _ _ h => h).trans f5 fun x hlx hx => by have := (HG.out.lt x hx).1; have := SB.out; omega
      unfold dpt at HC
      generalize (RS.int (seq RS.int j S1).2).1 = xv at *
      go_upto_region 6 with fail
      go_region_law (first
        | (refine step_add rfl _ _ _ _ rfl _ _ rfl rfl (HAP.out _) ?_)
        | (go_simp; go_at_call 48; refine HC.out.mono ?_; rintro e w4 ⟨rfl, A', c', w5, x4, x5, y1, z1, hap, hB, hG, hR, hF⟩; have HAP := Lib.hid hap; have HB5 := Lib.hid hB; have HG5 := Lib.hid hG; have HR5 := Lib.hid hR; have HF5 := Lib.hid hF; clear hap hB hG hR hF))
      all_goals
        go_wp2
        go_roundw
        case rel => exact ⟨j + 1, A', c', by omega, by go_num, HB5.out.set_ 1 _, HG5.out.keep intG_elem (Fr.set0 fb _ 1 _) (fun k hk => by have : k = fb := hk; omega), HR5.out.of (Below.heap_setCell _ _ _ _ (by show g ≠ fb; omega)), (HF5.out.setCell (p := ⟨fb, 1, none⟩) (fun _ => .inr rfl) _)⟩
        case measure => simp [intOf]; omega
    · obtain rfl : j = n := by omega
      have hbx : Blk wr gr 139 #[.slice none 0 0, .slice none 0 0] := X2.out.of (HF.out.block gr X2.out.lt fun hk => by unfold FB at hk; omega)
      have e1 : wr.cell? ⟨g, 1, none⟩ = some (.int .i64 (seq RS.int j S1).2.fault) := HR0.out.blk.cell 1
      have x0 : wr.cell? ⟨fb, 0, none⟩ = some (.slice A1 n1 c1) := HB.out.cell 0
      have x1 : wr.cell? ⟨fb, 1, none⟩ = some (.slice A j c) := HB.out.cell 1
      have z0 : wr.cell? ⟨gr, 0, none⟩ = some (.slice none 0 0) := hbx.cell 0
      have z1 : wr.cell? ⟨gr, 1, none⟩ = some (.slice none 0 0) := hbx.cell 1
      have y0 := hbx.frozen 0
      have y1 := hbx.frozen 1
      have hrd : RowE (fun k => gr < k ∧ k < fb) wr 1 strE (.slice A1 n1 c1) S.texts.1 := R2.out.of (fun k hk => HF.out.block k (by rw [SB.out]; omega) fun e => by unfold FB at e; omega) fun _ _ h => h
      have hfin : ∀ u0 u1, KDAt ((wr.setCell ⟨gr, 0, none⟩ u0).setCell ⟨gr, 1, none⟩ u1) g (seq RS.int j S1).2 ∧ Fr (DFt g) w ((wr.setCell ⟨gr, 0, none⟩ u0).setCell ⟨gr, 1, none⟩ u1) ∧
          (∀ k, gr < k → ((wr.setCell ⟨gr, 0, none⟩ u0).setCell ⟨gr, 1, none⟩ u1).heap[k]? = wr.heap[k]?) := by
        intro u0 u1
        have hset : ∀ k, k ≠ gr → ((wr.setCell ⟨gr, 0, none⟩ u0).setCell ⟨gr, 1, none⟩ u1).heap[k]? = wr.heap[k]? := fun k hk => by
          rw [Below.heap_setCell _ _ _ k hk, Below.heap_setCell _ _ _ k hk]
        refine ⟨HR0.out.of (hset g (by omega)), ?_, fun k hk => hset k (by omega)⟩
        have hnew : ¬ gr < w.heap.size := by rw [GR.out]; omega
        have hw : Fr (DFt g) w wr := F2.out.trans HF.out fun k hk hk' => by
          rcases hk' with e | e
          · exact e.symm
          · have := GR.out; omega
        exact (hw.setCell (p := ⟨gr, 0, none⟩) (fun h => absurd h hnew) _).setCell (p := ⟨gr, 1, none⟩) (fun h => absurd h hnew) _
      have HFIN := Lib.hid hfin
      have HRD := Lib.hid hrd
      have hkw : ∀ k, gr < k → w.heap.size ≤ k := fun k hk => by have := GR.out; omega
      have HKW := Lib.hid hkw
      clear hbx hrd hfin hkw
      by_cases hz : (seq RS.int j S1).2.fault = 0
      · rw [hz] at e1
        have hrm := HG.out.row intG_elem (by rw [HL.out]; unfold maxLen; omega)
        have HRM := Lib.hid hrm
        have HE : Hid (S.fact = (⟨S.texts.1, (seq RS.int j S1).1⟩, (seq RS.int j S1).2)) := Lib.hid (by rw [HVf.out, HV.out, if_pos hz, if_pos hz])
        clear hz hrm
        go_wp2
        refine bodyPost_ret (v := .agg #[.slice A1 n1 c1, .slice A j c]) (by simp [results, Tryz.results102, go_sem, z0, z1]) rfl ?_
        obtain ⟨q1, q2, q3⟩ := HFIN.out (.slice A1 n1 c1) (.slice A j c)
        exact ⟨_, _, rfl, by rw [HE.out]; exact q1, q2, by rw [HE.out]; exact (HRD.out.of (fun k hk => q3 k hk.1) fun _ _ h => h).mono fun k hk => HKW.out k hk.1,
          by rw [HE.out]; exact (HRM.out.of (fun k hk => q3 k (by omega)) fun _ _ h => h).mono fun k hk => HKW.out k (by omega)⟩
      · have hd : ((seq RS.int j S1).2.fault != 0) = true := by simpa using hz
        have HE : Hid (S.fact = (FactP.zero, (seq RS.int j S1).2)) := Lib.hid (by rw [HVf.out, HV.out, if_neg (by exact hz)])
        clear hz
        go_wp2
        refine bodyPost_ret (v := .agg #[.slice none 0 0, .slice none 0 0]) (by simp [results, Tryz.results102, go_sem, z0, z1]) rfl ?_
        obtain ⟨q1, q2, q3⟩ := HFIN.out (.slice none 0 0) (.slice none 0 0)
        exact ⟨_, _, rfl, by rw [HE.out]; exact q1, q2, by rw [HE.out]; exact RowE.nil _ _ _ _ _, by rw [HE.out]; exact RowE.nil _ _ _ _ _⟩
end Go.Proofs.YtoaiofjcjjkfaaaGreatDoor
/- The document's bytes of a cell. -/
namespace Go.Proofs.YtoaiofjcjjkfaaaGreatDoor
open Go.RowKit Go.Maps Go.Sort
set_option linter.unusedVariables false

def ok2 (ok : Bool) (l : List UInt8) : List UInt8 := if ok = true then l else []
/-- Bytes, and whether a thing may be. -/
def Told2 (l : List UInt8) (ok : Bool) (w : World) (e : Ending) (w' : World) : Prop := e = .returned (.tuple #[sv (ok2 ok l), .bool ok]) ∧ Below w.heap.size w w'
theorem u64_nat (n : Int) : IntKind.u64.wrap n = (((n % 18446744073709551616).toNat : Nat) : Int) := by rw [IntKind.wrap_u64]; omega
set_option maxRecDepth 100000 in
set_option maxHeartbeats 4000000 in
theorem dcell_any (c : CellP) (w : World) (hb : c.kind = 2 → c.text.length ≤ 1152921504606846976) : Calls Tryz.prog 144 #[c.val] w (Told2 (bCell c) c.may w) := by
  obtain ⟨k, n, t⟩ := c
  have hbl : Below w.heap.size w (w.alloc (.cells #[.int .i64 k, .int .i64 n, sv t] 185)) := (Below.refl _ _).alloc (Nat.le_refl _) _
  have HB := Lib.hid hbl
  clear hbl
  unfold CellP.val Told2
  by_cases h0 : k = 0
  · subst h0
    have HQ : Hid (bCell ⟨0, n, t⟩ = [0]) := Lib.hid (by unfold bCell; simp [low])
    clear hb
    by_cases hn : n = 0
    · subst hn
      have HM : Hid (CellP.may ⟨0, 0, t⟩ = t.isEmpty) := Lib.hid (by simp [CellP.may])
      cases ht : t.isEmpty <;> rw [ht] at HM
      all_goals
        go_enter Tryz.func144, Tryz.ntmps144
        go_wp2
        go_ret2
        exact ⟨by rw [HM.out, HQ.out]; rfl, HB.out⟩
    · have HM : Hid (CellP.may ⟨0, n, t⟩ = false) := Lib.hid (by simp [CellP.may, hn])
      have h1 : (n == 0) = false := by simpa using hn
      clear hn
      go_enter Tryz.func144, Tryz.ntmps144
      go_wp2
      go_ret2
      exact ⟨by rw [HM.out, HQ.out]; rfl, HB.out⟩
  · by_cases h1 : k = 1
    · subst h1
      have HM : Hid (CellP.may ⟨1, n, t⟩ = t.isEmpty) := Lib.hid (by simp [CellP.may])
      have HQ : Hid (bCell ⟨1, n, t⟩ = [1] ++ enc8 n) := Lib.hid (by unfold bCell; simp [low])
      have hk := u64_nat n
      have HL := Lib.hid (fun w => Num_any (n % 18446744073709551616).toNat 8 w (by omega) (by omega))
      unfold Low at HL
      have he8 : low (n % 18446744073709551616).toNat 8 = enc8 n := rfl
      rw [he8] at HL
      have hl8 : (enc8 n).length = 8 := by unfold enc8; rw [low_len]
      have hcat : ∀ w0, (Op.stringOp .add ⟨#[1]⟩ ⟨(enc8 n).toArray⟩).run Tryz.prog w0 = .ok (.string ⟨([1] ++ enc8 n).toArray⟩) w0 := fun w0 => run_cat [1] _ (by rw [hl8]; simp) w0
      obtain ⟨X, hX⟩ : ∃ X, [1] ++ enc8 n = X := ⟨_, rfl⟩
      rw [hX] at HQ hcat
      generalize enc8 n = T at *
      generalize (n % 18446744073709551616).toNat = tt at *
      clear hX he8 hl8 hb h0
      cases ht : t.isEmpty <;> rw [ht] at HM
      · go_enter Tryz.func144, Tryz.ntmps144
        go_wp2
        go_ret2
        exact ⟨by rw [HM.out]; rfl, HB.out⟩
      · go_enter Tryz.func144, Tryz.ntmps144
        go_wp2_with fail
        refine (HL.out _).mono ?_
        rintro e w3 ⟨rfl, hb3⟩
        have B3 := Lib.hid (HB.out.trans (hb3.mono HB.out.size))
        clear hb3
        go_wp2
        go_ret2
        exact ⟨by rw [HM.out, HQ.out]; rfl, B3.out⟩
    · by_cases h2 : k = 2
      · subst h2
        have HM : Hid (CellP.may ⟨2, n, t⟩ = (n == 0)) := Lib.hid (by simp [CellP.may])
        have HQ : Hid (bCell ⟨2, n, t⟩ = [2] ++ bText t) := Lib.hid (by unfold bCell; simp [low])
        have htl := hb rfl
        simp only at htl
        have HL := Lib.hid (fun w => dtext_any t (by omega) w)
        unfold Told at HL
        have hl8 : (bText t).length = 4 + t.length := by unfold bText; rw [List.length_append, low_len]
        have hcat : ∀ w0, (Op.stringOp .add ⟨#[2]⟩ ⟨(bText t).toArray⟩).run Tryz.prog w0 = .ok (.string ⟨([2] ++ bText t).toArray⟩) w0 := fun w0 => run_cat [2] _ (by rw [hl8]; simp only [List.length_cons, List.length_nil]; omega) w0
        obtain ⟨X, hX⟩ : ∃ X, [2] ++ bText t = X := ⟨_, rfl⟩
        rw [hX] at HQ hcat
        generalize bText t = T at *
        clear hX hl8 hb h0 h1 htl
        by_cases hn : n = 0
        · subst hn
          go_enter Tryz.func144, Tryz.ntmps144
          go_wp2_with fail
          refine (HL.out _).mono ?_
          rintro e w3 ⟨rfl, hb3⟩
          have B3 := Lib.hid (HB.out.trans (hb3.mono HB.out.size))
          clear hb3
          go_wp2
          go_ret2
          exact ⟨by rw [HM.out, HQ.out]; rfl, B3.out⟩
        · have h1 : (n == 0) = false := by simpa using hn
          rw [h1] at HM
          clear hn
          go_enter Tryz.func144, Tryz.ntmps144
          go_wp2
          go_ret2
          exact ⟨by rw [HM.out]; rfl, HB.out⟩
      · have HM : Hid (CellP.may ⟨k, n, t⟩ = false) := Lib.hid (by simp [CellP.may, h0, h1, h2])
        have e0 : (k == 0) = false := by simpa using h0
        have e1 : (k == 1) = false := by simpa using h1
        have e2 : (k == 2) = false := by simpa using h2
        clear h0 h1 h2 hb
        go_enter Tryz.func144, Tryz.ntmps144
        go_wp2
        go_ret2
        exact ⟨by rw [HM.out]; rfl, HB.out⟩
end Go.Proofs.YtoaiofjcjjkfaaaGreatDoor
/- Two things that are the same. -/
namespace Go.Proofs.YtoaiofjcjjkfaaaGreatDoor
open Go.RowKit Go.Maps Go.Sort
set_option linter.unusedVariables false

theorem neq93 (a b : Int) (s : List UInt8) (w : World) : (binOp .neq 185 (.agg #[.int .i64 a, .int .i64 b, sv s]) (.agg #[.int .i64 a, .int .i64 b, sv s])).run Tryz.prog w = .ok (.bool false) w := by
  have hS : Tryz.prog.underlying 185 = some (.struct (Tryz.prog.fieldsOf 185)) := by kernel_rfl
  have hp : Tryz.prog.stoodInHeld 185 = false := by kernel_rfl
  rw [run_neq_struct, show (10000 : Nat) = 9999 + 1 from rfl, run_equalIn_agg w 9999 185 _ _ hS hp]
  simp only [Program.fieldsOf, Tryz.underlying185]
  simp [Op.eqFields, go_sem]

/-- The cells of element j of a row, in any world that has its block. -/
theorem RowE.at_ {α : Type} {K : Nat → Prop} {w : World} {size : Nat} {E : α → List Value → Prop} {A : Option Addr} {n c : Nat} {l : List α} (hn : l.length = n) (h : RowE K w size E (.slice A n c) l) (j : Nat) (hj : j < l.length) :
    ∃ g off cs, A = some ⟨g, off, none⟩ ∧ K g ∧ E l[j] cs ∧ cs.length = size ∧ ∀ w' : World, w'.heap[g]? = w.heap[g]? → ∀ i, i < size → w'.cell? ⟨g, off + j * size + i, none⟩ = cs[i]? := by
  obtain ⟨A', c', e, hm, hel⟩ := h
  injection e with e1 e2 e3
  subst e1
  obtain ⟨g, off, rfl, hg, hcell⟩ := hel (by omega)
  obtain ⟨cs, hl, hc, hE⟩ := hcell j hj
  exact ⟨g, off, cs, rfl, hg, hE, hl, fun w' hw i hi => (cell_of_heap hw).trans (hc i hi)⟩
theorem RowE.len_ {α : Type} {K : Nat → Prop} {w : World} {size : Nat} {E : α → List Value → Prop} {v : Value} {l : List α} (h : RowE K w size E v l) : ∃ A c, v = .slice A l.length c ∧ l.length ≤ maxLen := by
  obtain ⟨A, c, e, hm, _⟩ := h
  exact ⟨A, c, e, hm⟩

end Go.Proofs.YtoaiofjcjjkfaaaGreatDoor
/- normal: a thing with what its kind has alone. -/
namespace Go.Proofs.YtoaiofjcjjkfaaaGreatDoor
open Go.RowKit Go.Maps
set_option linter.unusedVariables false

theorem ThingAt.mono {K K' : Nat → Prop} {w : World} {t : ThingP} {lv cv fv mv : Value} (h : ThingAt K w t lv cv fv mv) (hk : ∀ k, K k → K' k) : ThingAt K' w t lv cv fv mv :=
  ⟨h.kb, h.nb, h.sb, h.l.mono hk, h.c.mono hk, (h.f.mono hk).of (fun _ _ => rfl) fun x cs hx => by
    obtain ⟨dv, mv, e, h1, h2⟩ := hx
    exact ⟨dv, mv, e, h1.mono hk, h2.mono hk⟩, h.m.mono hk⟩
theorem i64_mod (n : Int) : i64 (n % 256) := by unfold i64; omega
/-- A call that tells a thing, beside what was there. -/
def NPt (B : Nat) (w : World) (t : ThingP) (e : Ending) (w' : World) : Prop :=
  ∃ lv cv fv mv, e = .returned (.agg (tcells t lv cv fv mv).toArray) ∧ ThingAt (fun k => (k < B ∨ w.heap.size ≤ k) ∧ k < w'.heap.size) w' t lv cv fv mv ∧ Below w.heap.size w w'
end Go.Proofs.YtoaiofjcjjkfaaaGreatDoor
/- The document's bytes of a thing. -/
namespace Go.Proofs.YtoaiofjcjjkfaaaGreatDoor
open Go.RowKit Go.Maps Go.Sort
set_option linter.unusedVariables false

def okB (t : ThingP) : Bool := if t.kind = 2 then decide (0 ≤ t.n ∧ t.n ≤ 4294967295) else if t.kind = 5 then (one t.cells).may else if t.kind = 6 then t.cells.all CellP.may else true
theorem low_byte (n : Int) : low (n % 18446744073709551616).toNat 1 = low (n % 256).toNat 1 := by
  have h : (n % 18446744073709551616).toNat % 256 = (n % 256).toNat % 256 := by omega
  simp only [low, h]
set_option maxRecDepth 100000 in
set_option maxHeartbeats 4000000 in
theorem dbytes_0 (n : Int) (s : List UInt8) (l : List (List UInt8)) (cl : List CellP) (fl : List FactP) (ml : List (List UInt8)) (A1 A2 A3 A4 : Option Addr) (n1 k1 n2 k2 n3 k3 n4 k4 : Nat) (w : World) (ht : ThingAt (fun k => k < w.heap.size) w ⟨0, n, s, l, cl, fl, ml⟩ (.slice A1 n1 k1) (.slice A2 n2 k2) (.slice A3 n3 k3) (.slice A4 n4 k4)) :
    Calls Tryz.prog 84 #[.agg #[.int .i64 0, .int .i64 n, sv s, .slice A1 n1 k1, .slice A2 n2 k2, .slice A3 n3 k3, .slice A4 n4 k4]] w (Told2 (low (n % 256).toNat 1) (true) w) := by
  obtain ⟨wa, hwa⟩ : ∃ wa, w.alloc (.cells #[.int .i64 0, .int .i64 n, sv s, .slice A1 n1 k1, .slice A2 n2 k2, .slice A3 n3 k3, .slice A4 n4 k4] 86) = wa := ⟨_, rfl⟩
  obtain ⟨gb, hgb⟩ : ∃ gb, w.heap.size = gb := ⟨_, rfl⟩
  have hbx : Blk wa gb 86 #[.int .i64 0, .int .i64 n, sv s, .slice A1 n1 k1, .slice A2 n2 k2, .slice A3 n3 k3, .slice A4 n4 k4] := by rw [← hwa, ← hgb]; exact Blk.new w 86 _
  have hba : Below w.heap.size w wa := by rw [← hwa]; exact (Below.refl _ _).alloc (Nat.le_refl _) _
  have hta := (ht.of fun k hk => hba.block k hk).mono fun k hk => Nat.lt_of_lt_of_le hk hba.size
  have HX := Lib.hid hbx
  have HBA := Lib.hid hba
  have HT := Lib.hid hta
  have HWA := Lib.hid hwa
  have HGB := Lib.hid hgb
  unfold Told2
  have hk64 := u64_nat n
  have HL := Lib.hid (fun w => Num_any (n % 18446744073709551616).toNat 1 w (by omega) (by omega))
  unfold Low at HL
  rw [low_byte] at HL
  generalize low (n % 256).toNat 1 = T at *
  generalize (n % 18446744073709551616).toNat = tt at *
  clear hwa hgb hbx hba hta ht
  go_enter Tryz.func84, Tryz.ntmps84
  go_wp2_with fail
  refine (HL.out _).mono ?_
  rintro e w3 ⟨rfl, hb3⟩
  rw [HWA.out] at hb3
  have B3 := Lib.hid (HBA.out.trans (hb3.mono HBA.out.size))
  clear hb3
  go_wp2
  go_ret2
  exact ⟨rfl, B3.out⟩
set_option maxRecDepth 100000 in
set_option maxHeartbeats 4000000 in
theorem dbytes_1 (n : Int) (s : List UInt8) (l : List (List UInt8)) (cl : List CellP) (fl : List FactP) (ml : List (List UInt8)) (A1 A2 A3 A4 : Option Addr) (n1 k1 n2 k2 n3 k3 n4 k4 : Nat) (w : World) (ht : ThingAt (fun k => k < w.heap.size) w ⟨1, n, s, l, cl, fl, ml⟩ (.slice A1 n1 k1) (.slice A2 n2 k2) (.slice A3 n3 k3) (.slice A4 n4 k4)) :
    Calls Tryz.prog 84 #[.agg #[.int .i64 1, .int .i64 n, sv s, .slice A1 n1 k1, .slice A2 n2 k2, .slice A3 n3 k3, .slice A4 n4 k4]] w (Told2 (enc8 n) (true) w) := by
  obtain ⟨wa, hwa⟩ : ∃ wa, w.alloc (.cells #[.int .i64 1, .int .i64 n, sv s, .slice A1 n1 k1, .slice A2 n2 k2, .slice A3 n3 k3, .slice A4 n4 k4] 86) = wa := ⟨_, rfl⟩
  obtain ⟨gb, hgb⟩ : ∃ gb, w.heap.size = gb := ⟨_, rfl⟩
  have hbx : Blk wa gb 86 #[.int .i64 1, .int .i64 n, sv s, .slice A1 n1 k1, .slice A2 n2 k2, .slice A3 n3 k3, .slice A4 n4 k4] := by rw [← hwa, ← hgb]; exact Blk.new w 86 _
  have hba : Below w.heap.size w wa := by rw [← hwa]; exact (Below.refl _ _).alloc (Nat.le_refl _) _
  have hta := (ht.of fun k hk => hba.block k hk).mono fun k hk => Nat.lt_of_lt_of_le hk hba.size
  have HX := Lib.hid hbx
  have HBA := Lib.hid hba
  have HT := Lib.hid hta
  have HWA := Lib.hid hwa
  have HGB := Lib.hid hgb
  unfold Told2
  have hk64 := u64_nat n
  have HL := Lib.hid (fun w => Num_any (n % 18446744073709551616).toNat 8 w (by omega) (by omega))
  unfold Low at HL
  have he8 : low (n % 18446744073709551616).toNat 8 = enc8 n := rfl
  rw [he8] at HL
  clear he8
  generalize enc8 n = T at *
  generalize (n % 18446744073709551616).toNat = tt at *
  clear hwa hgb hbx hba hta ht
  go_enter Tryz.func84, Tryz.ntmps84
  go_wp2_with fail
  refine (HL.out _).mono ?_
  rintro e w3 ⟨rfl, hb3⟩
  rw [HWA.out] at hb3
  have B3 := Lib.hid (HBA.out.trans (hb3.mono HBA.out.size))
  clear hb3
  go_wp2
  go_ret2
  exact ⟨rfl, B3.out⟩
set_option maxRecDepth 100000 in
set_option maxHeartbeats 4000000 in
theorem dbytes_2 (n : Int) (s : List UInt8) (l : List (List UInt8)) (cl : List CellP) (fl : List FactP) (ml : List (List UInt8)) (A1 A2 A3 A4 : Option Addr) (n1 k1 n2 k2 n3 k3 n4 k4 : Nat) (w : World) (ht : ThingAt (fun k => k < w.heap.size) w ⟨2, n, s, l, cl, fl, ml⟩ (.slice A1 n1 k1) (.slice A2 n2 k2) (.slice A3 n3 k3) (.slice A4 n4 k4)) (h0 : 0 ≤ n) (h1 : n ≤ 4294967295) :
    Calls Tryz.prog 84 #[.agg #[.int .i64 2, .int .i64 n, sv s, .slice A1 n1 k1, .slice A2 n2 k2, .slice A3 n3 k3, .slice A4 n4 k4]] w (Told2 (low n.toNat 4) (true) w) := by
  obtain ⟨wa, hwa⟩ : ∃ wa, w.alloc (.cells #[.int .i64 2, .int .i64 n, sv s, .slice A1 n1 k1, .slice A2 n2 k2, .slice A3 n3 k3, .slice A4 n4 k4] 86) = wa := ⟨_, rfl⟩
  obtain ⟨gb, hgb⟩ : ∃ gb, w.heap.size = gb := ⟨_, rfl⟩
  have hbx : Blk wa gb 86 #[.int .i64 2, .int .i64 n, sv s, .slice A1 n1 k1, .slice A2 n2 k2, .slice A3 n3 k3, .slice A4 n4 k4] := by rw [← hwa, ← hgb]; exact Blk.new w 86 _
  have hba : Below w.heap.size w wa := by rw [← hwa]; exact (Below.refl _ _).alloc (Nat.le_refl _) _
  have hta := (ht.of fun k hk => hba.block k hk).mono fun k hk => Nat.lt_of_lt_of_le hk hba.size
  have HX := Lib.hid hbx
  have HBA := Lib.hid hba
  have HT := Lib.hid hta
  have HWA := Lib.hid hwa
  have HGB := Lib.hid hgb
  unfold Told2
  have hk64 := u64_nat n
  have hnn : (n % 18446744073709551616).toNat = n.toNat := by omega
  have HL := Lib.hid (fun w => Num_any n.toNat 4 w (by omega) (by omega))
  unfold Low at HL
  rw [hnn] at hk64
  clear hnn
  generalize low n.toNat 4 = T at *
  generalize n.toNat = tt at *
  clear hwa hgb hbx hba hta ht
  go_enter Tryz.func84, Tryz.ntmps84
  go_wp2_with fail
  refine (HL.out _).mono ?_
  rintro e w3 ⟨rfl, hb3⟩
  rw [HWA.out] at hb3
  have B3 := Lib.hid (HBA.out.trans (hb3.mono HBA.out.size))
  clear hb3
  go_wp2
  go_ret2
  exact ⟨rfl, B3.out⟩
set_option maxRecDepth 100000 in
set_option maxHeartbeats 4000000 in
theorem dbytes_2n (n : Int) (s : List UInt8) (l : List (List UInt8)) (cl : List CellP) (fl : List FactP) (ml : List (List UInt8)) (A1 A2 A3 A4 : Option Addr) (n1 k1 n2 k2 n3 k3 n4 k4 : Nat) (w : World) (ht : ThingAt (fun k => k < w.heap.size) w ⟨2, n, s, l, cl, fl, ml⟩ (.slice A1 n1 k1) (.slice A2 n2 k2) (.slice A3 n3 k3) (.slice A4 n4 k4)) (hx : ¬ (0 ≤ n ∧ n ≤ 4294967295)) :
    Calls Tryz.prog 84 #[.agg #[.int .i64 2, .int .i64 n, sv s, .slice A1 n1 k1, .slice A2 n2 k2, .slice A3 n3 k3, .slice A4 n4 k4]] w (Told2 (low n.toNat 4) (false) w) := by
  obtain ⟨wa, hwa⟩ : ∃ wa, w.alloc (.cells #[.int .i64 2, .int .i64 n, sv s, .slice A1 n1 k1, .slice A2 n2 k2, .slice A3 n3 k3, .slice A4 n4 k4] 86) = wa := ⟨_, rfl⟩
  obtain ⟨gb, hgb⟩ : ∃ gb, w.heap.size = gb := ⟨_, rfl⟩
  have hbx : Blk wa gb 86 #[.int .i64 2, .int .i64 n, sv s, .slice A1 n1 k1, .slice A2 n2 k2, .slice A3 n3 k3, .slice A4 n4 k4] := by rw [← hwa, ← hgb]; exact Blk.new w 86 _
  have hba : Below w.heap.size w wa := by rw [← hwa]; exact (Below.refl _ _).alloc (Nat.le_refl _) _
  have hta := (ht.of fun k hk => hba.block k hk).mono fun k hk => Nat.lt_of_lt_of_le hk hba.size
  have HX := Lib.hid hbx
  have HBA := Lib.hid hba
  have HT := Lib.hid hta
  have HWA := Lib.hid hwa
  have HGB := Lib.hid hgb
  unfold Told2
  clear hwa hgb hbx hba hta ht
  have hc : n < 0 ∨ (0 ≤ n ∧ 4294967295 < n) := by omega
  clear hx
  rcases hc with hc | ⟨hc, hd⟩
  all_goals
    go_enter Tryz.func84, Tryz.ntmps84
    go_wp2
    go_ret2
    exact ⟨rfl, by rw [HWA.out]; exact HBA.out⟩
set_option maxRecDepth 100000 in
set_option maxHeartbeats 4000000 in
theorem dbytes_3 (n : Int) (s : List UInt8) (l : List (List UInt8)) (cl : List CellP) (fl : List FactP) (ml : List (List UInt8)) (A1 A2 A3 A4 : Option Addr) (n1 k1 n2 k2 n3 k3 n4 k4 : Nat) (w : World) (ht : ThingAt (fun k => k < w.heap.size) w ⟨3, n, s, l, cl, fl, ml⟩ (.slice A1 n1 k1) (.slice A2 n2 k2) (.slice A3 n3 k3) (.slice A4 n4 k4)) (hb : (bText s).length ≤ 1152921504606846976) :
    Calls Tryz.prog 84 #[.agg #[.int .i64 3, .int .i64 n, sv s, .slice A1 n1 k1, .slice A2 n2 k2, .slice A3 n3 k3, .slice A4 n4 k4]] w (Told2 (bText s) (true) w) := by
  obtain ⟨wa, hwa⟩ : ∃ wa, w.alloc (.cells #[.int .i64 3, .int .i64 n, sv s, .slice A1 n1 k1, .slice A2 n2 k2, .slice A3 n3 k3, .slice A4 n4 k4] 86) = wa := ⟨_, rfl⟩
  obtain ⟨gb, hgb⟩ : ∃ gb, w.heap.size = gb := ⟨_, rfl⟩
  have hbx : Blk wa gb 86 #[.int .i64 3, .int .i64 n, sv s, .slice A1 n1 k1, .slice A2 n2 k2, .slice A3 n3 k3, .slice A4 n4 k4] := by rw [← hwa, ← hgb]; exact Blk.new w 86 _
  have hba : Below w.heap.size w wa := by rw [← hwa]; exact (Below.refl _ _).alloc (Nat.le_refl _) _
  have hta := (ht.of fun k hk => hba.block k hk).mono fun k hk => Nat.lt_of_lt_of_le hk hba.size
  have HX := Lib.hid hbx
  have HBA := Lib.hid hba
  have HT := Lib.hid hta
  have HWA := Lib.hid hwa
  have HGB := Lib.hid hgb
  unfold Told2
  have hsl : (bText s).length = 4 + s.length := by unfold bText; rw [List.length_append, low_len]
  have HL := Lib.hid (fun w => dtext_any s (by omega) w)
  clear hsl hb
  unfold Told at HL
  generalize bText s = T at *
  clear hwa hgb hbx hba hta ht
  go_enter Tryz.func84, Tryz.ntmps84
  go_wp2_with fail
  refine (HL.out _).mono ?_
  rintro e w3 ⟨rfl, hb3⟩
  rw [HWA.out] at hb3
  have B3 := Lib.hid (HBA.out.trans (hb3.mono HBA.out.size))
  clear hb3
  go_wp2
  go_ret2
  exact ⟨rfl, B3.out⟩
set_option maxRecDepth 100000 in
set_option maxHeartbeats 4000000 in
theorem dbytes_4 (n : Int) (s : List UInt8) (l : List (List UInt8)) (cl : List CellP) (fl : List FactP) (ml : List (List UInt8)) (A1 A2 A3 A4 : Option Addr) (n1 k1 n2 k2 n3 k3 n4 k4 : Nat) (w : World) (ht : ThingAt (fun k => k < w.heap.size) w ⟨4, n, s, l, cl, fl, ml⟩ (.slice A1 n1 k1) (.slice A2 n2 k2) (.slice A3 n3 k3) (.slice A4 n4 k4)) (hb : (bRow bText l).length ≤ 1152921504606846976) :
    Calls Tryz.prog 84 #[.agg #[.int .i64 4, .int .i64 n, sv s, .slice A1 n1 k1, .slice A2 n2 k2, .slice A3 n3 k3, .slice A4 n4 k4]] w (Told2 (bRow bText l) (true) w) := by
  obtain ⟨wa, hwa⟩ : ∃ wa, w.alloc (.cells #[.int .i64 4, .int .i64 n, sv s, .slice A1 n1 k1, .slice A2 n2 k2, .slice A3 n3 k3, .slice A4 n4 k4] 86) = wa := ⟨_, rfl⟩
  obtain ⟨gb, hgb⟩ : ∃ gb, w.heap.size = gb := ⟨_, rfl⟩
  have hbx : Blk wa gb 86 #[.int .i64 4, .int .i64 n, sv s, .slice A1 n1 k1, .slice A2 n2 k2, .slice A3 n3 k3, .slice A4 n4 k4] := by rw [← hwa, ← hgb]; exact Blk.new w 86 _
  have hba : Below w.heap.size w wa := by rw [← hwa]; exact (Below.refl _ _).alloc (Nat.le_refl _) _
  have hta := (ht.of fun k hk => hba.block k hk).mono fun k hk => Nat.lt_of_lt_of_le hk hba.size
  have HX := Lib.hid hbx
  have HBA := Lib.hid hba
  have HT := Lib.hid hta
  have HWA := Lib.hid hwa
  have HGB := Lib.hid hgb
  unfold Told2
  have HL := Lib.hid (dtexts_any _ l wa hta.l hb)
  unfold Told at HL
  generalize bRow bText l = T at *
  clear hwa hgb hbx hba hta ht
  go_enter Tryz.func84, Tryz.ntmps84
  go_wp2_with fail
  rw [HWA.out]
  refine HL.out.mono ?_
  rintro e w3 ⟨rfl, hb3⟩
  have B3 := Lib.hid (HBA.out.trans (hb3.mono HBA.out.size))
  clear hb3
  go_wp2
  go_ret2
  exact ⟨rfl, B3.out⟩
set_option maxRecDepth 100000 in
set_option maxHeartbeats 4000000 in
theorem dbytes_5 (n : Int) (s : List UInt8) (l : List (List UInt8)) (cl : List CellP) (fl : List FactP) (ml : List (List UInt8)) (A1 A2 A3 A4 : Option Addr) (n1 k1 n2 k2 n3 k3 n4 k4 : Nat) (w : World) (ht : ThingAt (fun k => k < w.heap.size) w ⟨5, n, s, l, cl, fl, ml⟩ (.slice A1 n1 k1) (.slice A2 n2 k2) (.slice A3 n3 k3) (.slice A4 n4 k4)) (hb : (bCell (one cl)).length ≤ 1152921504606846976) :
    Calls Tryz.prog 84 #[.agg #[.int .i64 5, .int .i64 n, sv s, .slice A1 n1 k1, .slice A2 n2 k2, .slice A3 n3 k3, .slice A4 n4 k4]] w (Told2 (bCell (one cl)) ((one cl).may) w) := by
  obtain ⟨wa, hwa⟩ : ∃ wa, w.alloc (.cells #[.int .i64 5, .int .i64 n, sv s, .slice A1 n1 k1, .slice A2 n2 k2, .slice A3 n3 k3, .slice A4 n4 k4] 86) = wa := ⟨_, rfl⟩
  obtain ⟨gb, hgb⟩ : ∃ gb, w.heap.size = gb := ⟨_, rfl⟩
  have hbx : Blk wa gb 86 #[.int .i64 5, .int .i64 n, sv s, .slice A1 n1 k1, .slice A2 n2 k2, .slice A3 n3 k3, .slice A4 n4 k4] := by rw [← hwa, ← hgb]; exact Blk.new w 86 _
  have hba : Below w.heap.size w wa := by rw [← hwa]; exact (Below.refl _ _).alloc (Nat.le_refl _) _
  have hta := (ht.of fun k hk => hba.block k hk).mono fun k hk => Nat.lt_of_lt_of_le hk hba.size
  have HX := Lib.hid hbx
  have HBA := Lib.hid hba
  have HT := Lib.hid hta
  have HWA := Lib.hid hwa
  have HGB := Lib.hid hgb
  unfold Told2
  have HC := Lib.hid (fun w => dcell_any (one cl) w fun h2 => by
    unfold bCell at hb
    rw [if_neg (by omega), if_pos h2, List.length_append] at hb
    unfold bText at hb
    rw [List.length_append] at hb
    omega)
  have HO := Lib.hid (one_any _ _ cl wa hta.c)
  unfold Told2 at HC
  clear hb
  unfold CellP.val at HC HO
  generalize ok2 (one cl).may (bCell (one cl)) = T at *
  generalize (one cl).may = m at *
  generalize (one cl).kind = ck at *
  generalize (one cl).int = ci at *
  generalize (one cl).text = ct at *
  clear hwa hgb hbx hba hta ht
  go_enter Tryz.func84, Tryz.ntmps84
  go_wp2_with fail
  rw [HWA.out]
  refine HO.out.mono ?_
  rintro e w3 ⟨rfl, hb3⟩
  have B3 := Lib.hid (HBA.out.trans (hb3.mono HBA.out.size))
  clear hb3
  go_wp2_with fail
  refine (HC.out _).mono ?_
  rintro e w4 ⟨rfl, hb4⟩
  have B4 := Lib.hid (B3.out.trans (hb4.mono B3.out.size))
  clear hb4
  go_wp2
  go_ret2
  exact ⟨rfl, B4.out⟩
set_option maxRecDepth 100000 in
set_option maxHeartbeats 4000000 in
theorem dbytes_7 (n : Int) (s : List UInt8) (l : List (List UInt8)) (cl : List CellP) (fl : List FactP) (ml : List (List UInt8)) (A1 A2 A3 A4 : Option Addr) (n1 k1 n2 k2 n3 k3 n4 k4 : Nat) (w : World) (ht : ThingAt (fun k => k < w.heap.size) w ⟨7, n, s, l, cl, fl, ml⟩ (.slice A1 n1 k1) (.slice A2 n2 k2) (.slice A3 n3 k3) (.slice A4 n4 k4)) (hb : (bFact (any fl)).length ≤ 1152921504606846976) :
    Calls Tryz.prog 84 #[.agg #[.int .i64 7, .int .i64 n, sv s, .slice A1 n1 k1, .slice A2 n2 k2, .slice A3 n3 k3, .slice A4 n4 k4]] w (Told2 (bFact (any fl)) (true) w) := by
  obtain ⟨wa, hwa⟩ : ∃ wa, w.alloc (.cells #[.int .i64 7, .int .i64 n, sv s, .slice A1 n1 k1, .slice A2 n2 k2, .slice A3 n3 k3, .slice A4 n4 k4] 86) = wa := ⟨_, rfl⟩
  obtain ⟨gb, hgb⟩ : ∃ gb, w.heap.size = gb := ⟨_, rfl⟩
  have hbx : Blk wa gb 86 #[.int .i64 7, .int .i64 n, sv s, .slice A1 n1 k1, .slice A2 n2 k2, .slice A3 n3 k3, .slice A4 n4 k4] := by rw [← hwa, ← hgb]; exact Blk.new w 86 _
  have hba : Below w.heap.size w wa := by rw [← hwa]; exact (Below.refl _ _).alloc (Nat.le_refl _) _
  have hta := (ht.of fun k hk => hba.block k hk).mono fun k hk => Nat.lt_of_lt_of_le hk hba.size
  have HX := Lib.hid hbx
  have HBA := Lib.hid hba
  have HT := Lib.hid hta
  have HWA := Lib.hid hwa
  have HGB := Lib.hid hgb
  unfold Told2
  have HO := Lib.hid (any_any _ _ fl wa hta.f)
  have HBF := Lib.hid hb
  obtain ⟨T, hT⟩ : ∃ T, bFact (any fl) = T := ⟨_, rfl⟩
  rw [hT]
  have HTT := Lib.hid hT
  clear hb hT
  clear hwa hgb hbx hba hta ht
  go_enter Tryz.func84, Tryz.ntmps84
  go_wp2_with fail
  rw [HWA.out]
  refine HO.out.mono ?_
  rintro e w3 ⟨dv, mv, rfl, rd, rm, hb3⟩
  have HL := Lib.hid (dfact_any dv mv (any fl) w3 ((rd.of (fun k hk => hb3.block k hk) fun _ _ h => h).mono fun k hk => Nat.lt_of_lt_of_le hk hb3.size) ((rm.of (fun k hk => hb3.block k hk) fun _ _ h => h).mono fun k hk => Nat.lt_of_lt_of_le hk hb3.size) HBF.out)
  have B3 := Lib.hid (HBA.out.trans (hb3.mono HBA.out.size))
  rw [HTT.out] at HL
  unfold Told at HL
  clear hb3 rd rm HO
  go_wp2_with fail
  refine HL.out.mono ?_
  rintro e w4 ⟨rfl, hb4⟩
  have B4 := Lib.hid (B3.out.trans (hb4.mono B3.out.size))
  clear hb4
  go_wp2
  go_ret2
  exact ⟨rfl, B4.out⟩
set_option maxRecDepth 100000 in
set_option maxHeartbeats 4000000 in
theorem dbytes_6 (n : Int) (s : List UInt8) (l : List (List UInt8)) (cl : List CellP) (fl : List FactP) (ml : List (List UInt8)) (A1 A2 A3 A4 : Option Addr) (n1 k1 n2 k2 n3 k3 n4 k4 : Nat) (w : World) (ht : ThingAt (fun k => k < w.heap.size) w ⟨6, n, s, l, cl, fl, ml⟩ (.slice A1 n1 k1) (.slice A2 n2 k2) (.slice A3 n3 k3) (.slice A4 n4 k4)) (hb : (bRow bCell cl).length ≤ 1152921504606846976) :
    Calls Tryz.prog 84 #[.agg #[.int .i64 6, .int .i64 n, sv s, .slice A1 n1 k1, .slice A2 n2 k2, .slice A3 n3 k3, .slice A4 n4 k4]] w (Told2 (bRow bCell cl) (cl.all CellP.may) w) := by
  obtain ⟨wa, hwa⟩ : ∃ wa, w.alloc (.cells #[.int .i64 6, .int .i64 n, sv s, .slice A1 n1 k1, .slice A2 n2 k2, .slice A3 n3 k3, .slice A4 n4 k4] 86) = wa := ⟨_, rfl⟩
  obtain ⟨gb, hgb⟩ : ∃ gb, w.heap.size = gb := ⟨_, rfl⟩
  have hbx : Blk wa gb 86 #[.int .i64 6, .int .i64 n, sv s, .slice A1 n1 k1, .slice A2 n2 k2, .slice A3 n3 k3, .slice A4 n4 k4] := by rw [← hwa, ← hgb]; exact Blk.new w 86 _
  have hba : Below w.heap.size w wa := by rw [← hwa]; exact (Below.refl _ _).alloc (Nat.le_refl _) _
  have hta := (ht.of fun k hk => hba.block k hk).mono fun k hk => Nat.lt_of_lt_of_le hk hba.size
  have HX := Lib.hid hbx
  have HBA := Lib.hid hba
  have HT := Lib.hid hta
  have HWA := Lib.hid hwa
  have HGB := Lib.hid hgb
  unfold Told2
  obtain ⟨bb, hbb⟩ : ∃ bb, cl.all CellP.may = bb := ⟨_, rfl⟩
  have HALL := Lib.hid hbb
  obtain ⟨n0, hn0, hm0⟩ : ∃ n0, cl.length = n0 ∧ n0 ≤ 9223372036854775807 := ⟨_, rfl, by have := hta.c.len_; obtain ⟨_, _, _, h⟩ := this; unfold maxLen at h; exact h⟩
  obtain rfl : n2 = n0 := by
    obtain ⟨A', c', e, _⟩ := hta.c.len_
    injection e with e1 e2 e3
    rw [e2]; exact hn0
  have HN := Lib.hid hn0
  have HC := Lib.hid (fun w => dcount_any n2 (by omega) w)
  unfold Told at HC
  have HFL := Lib.hid (row_bound bCell cl)
  have HBD := Lib.hid hb
  rw [hbb]
  clear hbb hn0 hb
  clear hwa hgb hbx hba hta ht
  go_enter Tryz.func84, Tryz.ntmps84
  go_wp2_with fail
  rw [HWA.out, HGB.out]
  refine (HC.out _).mono ?_
  rintro e w1 ⟨rfl, hb1⟩
  have B1 := Lib.hid (HBA.out.trans (hb1.mono HBA.out.size))
  have BA1 := Lib.hid hb1
  clear hb1
  have hx1 := HX.out.of (BA1.out.block gb HX.out.lt)
  have X1 := Lib.hid hx1
  clear hx1
  go_wp2
  go_loopw [4, 5] (fun x i wr => ∃ j : Nat, ∃ X, j ≤ n2 ∧ i = .int .i64 j ∧ x = sv X ∧ X = low n2 4 ++ (cl.take j).flatMap bCell ∧ (cl.take j).all CellP.may = true ∧ Below wa.heap.size wa wr) (fun _ i _ => n2 - (intOf i).toNat)
  case atStart => exact ⟨0, _, by omega, rfl, rfl, by simp, by simp, BA1.out⟩
  case round =>
    obtain ⟨j, X, hj, rfl, rfl, hX, hal, hbw⟩ := hrel
    have HXX := Lib.hid hX
    have HAL := Lib.hid hal
    have HBW := Lib.hid hbw
    have hblk := HX.out.of (hbw.block gb HX.out.lt)
    have d4 : wr.cell? ⟨gb, 4, none⟩ = some (.slice A2 n2 k2) := hblk.cell 4
    clear hX hal hbw hblk
    by_cases hlt : j < n2
    · have hjl : j < cl.length := by rw [HN.out]; exact hlt
      obtain ⟨g, off, cs, rfl, hg, ⟨rfl, _⟩, _, hc⟩ := RowE.at_ HN.out HT.out.c j hjl
      have hgw := HBW.out.block g hg
      have a0 : wr.cell? ⟨g, off + j * 3, none⟩ = some (.int .i64 cl[j].kind) := by simpa using hc wr hgw 0 (by omega)
      have a1 : wr.cell? ⟨g, off + j * 3 + 1, none⟩ = some (.int .i64 cl[j].int) := by simpa using hc wr hgw 1 (by omega)
      have a2 : wr.cell? ⟨g, off + j * 3 + 2, none⟩ = some (sv cl[j].text) := by simpa using hc wr hgw 2 (by omega)
      have h1 := flat_pre bCell cl j
      have h2 := flat_one bCell cl j hjl
      have h3 := HFL.out
      have h4 := HBD.out
      have hxl : X.length ≤ 1152921504606846980 := by rw [HXX.out, List.length_append, low_len]; omega
      have hcat : ∀ w0, (Op.stringOp .add ⟨X.toArray⟩ ⟨(bCell cl[j]).toArray⟩).run Tryz.prog w0 = .ok (.string ⟨(X ++ bCell cl[j]).toArray⟩) w0 := fun w0 => run_cat _ _ (by omega) w0
      have HD := dcell_any cl[j] wr fun e2 => by
        have h5 : (bCell cl[j]).length ≤ 1152921504606846976 := by omega
        unfold bCell at h5
        rw [if_neg (by omega), if_pos e2, List.length_append] at h5
        unfold bText at h5
        rw [List.length_append] at h5
        omega
      have HQ : Hid (X ++ bCell cl[j] = low n2 4 ++ (cl.take (j + 1)).flatMap bCell) := Lib.hid (by rw [flat_snoc bCell cl j hjl, HXX.out, List.append_assoc])
      have HA2 : Hid ((cl.take (j + 1)).all CellP.may = cl[j].may) := Lib.hid (by rw [List.take_succ_eq_append_getElem hjl, List.all_append, HAL.out]; simp)
      have HMEM : Hid (cl[j].may = false → bb = false) := Lib.hid fun hf => by
        rw [← HALL.out, List.all_eq_false]
        exact ⟨_, List.getElem_mem hjl, by rw [hf]; simp⟩
      unfold Told2 CellP.val at HD
      have hi0 : (0 : Int) ≤ (j : Int) := by omega
      have hi1 : (j : Int) < (n2 : Int) := by omega
      clear h1 h2 h3 h4 hxl hc hgw
      cases hm : cl[j].may with
      | false =>
        obtain rfl := HMEM.out hm
        rw [hm] at HD
        have HD := Lib.hid HD
        clear hm HQ HA2 HMEM hcat
        generalize ok2 false (bCell cl[j]) = Z at *
        generalize cl[j].kind = ck at *
        generalize cl[j].int = ci at *
        generalize cl[j].text = ct at *
        go_wp2_with fail
        refine HD.out.mono ?_
        rintro e w4 ⟨rfl, hb4⟩
        have B4 := Lib.hid (HBA.out.trans ((HBW.out.trans (hb4.mono HBW.out.size)).mono HBA.out.size))
        clear hb4
        go_wp2
        go_ret2
        exact ⟨rfl, B4.out⟩
      | true =>
        rw [hm] at HD HA2
        simp only [ok2, if_true] at HD
        have HD := Lib.hid HD
        clear hm HMEM
        generalize bCell cl[j] = Z at *
        generalize cl[j].kind = ck at *
        generalize cl[j].int = ci at *
        generalize cl[j].text = ct at *
        generalize X ++ Z = Y at *
        go_wp2_with fail
        refine HD.out.mono ?_
        rintro e w4 ⟨rfl, hb4⟩
        have B4 := Lib.hid (HBW.out.trans (hb4.mono HBW.out.size))
        clear hb4
        go_wp2
        go_roundw
        case rel => exact ⟨j + 1, Y, by omega, by go_num, rfl, HQ.out, HA2.out, B4.out⟩
        case measure => simp [intOf]; omega
    · obtain rfl : j = n2 := by omega
      have HBT : bb = true := by rw [← HALL.out, ← HAL.out, ← HN.out, List.take_length]
      subst HBT
      go_wp2
      go_ret2
      exact ⟨by rw [HXX.out, ← HN.out, List.take_length]; rfl, HBA.out.trans (HBW.out.mono HBA.out.size)⟩
set_option maxRecDepth 100000 in
set_option maxHeartbeats 4000000 in
theorem dbytes_8 (n : Int) (s : List UInt8) (l : List (List UInt8)) (cl : List CellP) (fl : List FactP) (ml : List (List UInt8)) (A1 A2 A3 A4 : Option Addr) (n1 k1 n2 k2 n3 k3 n4 k4 : Nat) (w : World) (ht : ThingAt (fun k => k < w.heap.size) w ⟨8, n, s, l, cl, fl, ml⟩ (.slice A1 n1 k1) (.slice A2 n2 k2) (.slice A3 n3 k3) (.slice A4 n4 k4)) (hb : (bRow bFact fl).length ≤ 1152921504606846976) :
    Calls Tryz.prog 84 #[.agg #[.int .i64 8, .int .i64 n, sv s, .slice A1 n1 k1, .slice A2 n2 k2, .slice A3 n3 k3, .slice A4 n4 k4]] w (Told2 (bRow bFact fl) (true) w) := by
  obtain ⟨wa, hwa⟩ : ∃ wa, w.alloc (.cells #[.int .i64 8, .int .i64 n, sv s, .slice A1 n1 k1, .slice A2 n2 k2, .slice A3 n3 k3, .slice A4 n4 k4] 86) = wa := ⟨_, rfl⟩
  obtain ⟨gb, hgb⟩ : ∃ gb, w.heap.size = gb := ⟨_, rfl⟩
  have hbx : Blk wa gb 86 #[.int .i64 8, .int .i64 n, sv s, .slice A1 n1 k1, .slice A2 n2 k2, .slice A3 n3 k3, .slice A4 n4 k4] := by rw [← hwa, ← hgb]; exact Blk.new w 86 _
  have hba : Below w.heap.size w wa := by rw [← hwa]; exact (Below.refl _ _).alloc (Nat.le_refl _) _
  have hta := (ht.of fun k hk => hba.block k hk).mono fun k hk => Nat.lt_of_lt_of_le hk hba.size
  have HX := Lib.hid hbx
  have HBA := Lib.hid hba
  have HT := Lib.hid hta
  have HWA := Lib.hid hwa
  have HGB := Lib.hid hgb
  unfold Told2
  obtain ⟨n0, hn0, hm0⟩ : ∃ n0, fl.length = n0 ∧ n0 ≤ 9223372036854775807 := ⟨_, rfl, by have := hta.f.len_; obtain ⟨_, _, _, h⟩ := this; unfold maxLen at h; exact h⟩
  obtain rfl : n3 = n0 := by
    obtain ⟨A', c', e, _⟩ := hta.f.len_
    injection e with e1 e2 e3
    rw [e2]; exact hn0
  have HN := Lib.hid hn0
  have HC := Lib.hid (fun w => dcount_any n3 (by omega) w)
  unfold Told at HC
  have HFL := Lib.hid (row_bound bFact fl)
  have HBD := Lib.hid hb
  clear hn0 hb
  clear hwa hgb hbx hba hta ht
  go_enter Tryz.func84, Tryz.ntmps84
  go_wp2_with fail
  rw [HWA.out, HGB.out]
  refine (HC.out _).mono ?_
  rintro e w1 ⟨rfl, hb1⟩
  have BA1 := Lib.hid hb1
  clear hb1
  have hx1 := HX.out.of (BA1.out.block gb HX.out.lt)
  have X1 := Lib.hid hx1
  clear hx1
  go_wp2
  go_loopw [8, 9] (fun x i wr => ∃ j : Nat, ∃ X, j ≤ n3 ∧ i = .int .i64 j ∧ x = sv X ∧ X = low n3 4 ++ (fl.take j).flatMap bFact ∧ Below wa.heap.size wa wr) (fun _ i _ => n3 - (intOf i).toNat)
  case atStart => exact ⟨0, _, by omega, rfl, rfl, by simp, BA1.out⟩
  case round =>
    obtain ⟨j, X, hj, rfl, rfl, hX, hbw⟩ := hrel
    have HXX := Lib.hid hX
    have HBW := Lib.hid hbw
    have hblk := HX.out.of (hbw.block gb HX.out.lt)
    have d4 : wr.cell? ⟨gb, 5, none⟩ = some (.slice A3 n3 k3) := hblk.cell 5
    clear hX hbw hblk
    by_cases hlt : j < n3
    · have hjl : j < fl.length := by rw [HN.out]; exact hlt
      obtain ⟨g, off, cs, rfl, hg, ⟨dv, mv, rfl, rd, rm⟩, _, hc⟩ := RowE.at_ HN.out HT.out.f j hjl
      have hgw := HBW.out.block g hg
      have rd' := (rd.of (fun k hk => HBW.out.block k hk) fun _ _ h => h).up HBW.out.size
      have rm' := (rm.of (fun k hk => HBW.out.block k hk) fun _ _ h => h).up HBW.out.size
      obtain ⟨U1, u1, v1, rfl⟩ := rd.slice
      obtain ⟨U2, u2, v2, rfl⟩ := rm.slice
      have a0 : wr.cell? ⟨g, off + j * 2, none⟩ = some (.slice U1 u1 v1) := by simpa using hc wr hgw 0 (by omega)
      have a1 : wr.cell? ⟨g, off + j * 2 + 1, none⟩ = some (.slice U2 u2 v2) := by simpa using hc wr hgw 1 (by omega)
      have h1 := flat_pre bFact fl j
      have h2 := flat_one bFact fl j hjl
      have h3 := HFL.out
      have h4 := HBD.out
      have hxl : X.length ≤ 1152921504606846980 := by rw [HXX.out, List.length_append, low_len]; omega
      have hcat : ∀ w0, (Op.stringOp .add ⟨X.toArray⟩ ⟨(bFact fl[j]).toArray⟩).run Tryz.prog w0 = .ok (.string ⟨(X ++ bFact fl[j]).toArray⟩) w0 := fun w0 => run_cat _ _ (by omega) w0
      have HD := Lib.hid (dfact_any _ _ fl[j] wr rd' rm' (by omega))
      have HQ : Hid (X ++ bFact fl[j] = low n3 4 ++ (fl.take (j + 1)).flatMap bFact) := Lib.hid (by rw [flat_snoc bFact fl j hjl, HXX.out, List.append_assoc])
      unfold Told at HD
      have hi0 : (0 : Int) ≤ (j : Int) := by omega
      have hi1 : (j : Int) < (n3 : Int) := by omega
      generalize bFact fl[j] = Z at *
      generalize X ++ Z = Y at *
      clear h1 h2 h3 h4 hxl hc hgw rd rm rd' rm'
      go_wp2_with fail
      refine HD.out.mono ?_
      rintro e w4 ⟨rfl, hb4⟩
      have B4 := Lib.hid (HBW.out.trans (hb4.mono HBW.out.size))
      clear hb4
      go_wp2
      go_roundw
      case rel => exact ⟨j + 1, Y, by omega, by go_num, rfl, HQ.out, B4.out⟩
      case measure => simp [intOf]; omega
    · obtain rfl : j = n3 := by omega
      go_wp2
      go_ret2
      exact ⟨by rw [HXX.out, ← HN.out, List.take_length]; rfl, HBA.out.trans (HBW.out.mono HBA.out.size)⟩
set_option maxRecDepth 100000 in
set_option maxHeartbeats 4000000 in
theorem dbytes_x (k n : Int) (s : List UInt8) (l : List (List UInt8)) (cl : List CellP) (fl : List FactP) (ml : List (List UInt8)) (A1 A2 A3 A4 : Option Addr) (n1 k1 n2 k2 n3 k3 n4 k4 : Nat) (w : World) (ht : ThingAt (fun k => k < w.heap.size) w ⟨k, n, s, l, cl, fl, ml⟩ (.slice A1 n1 k1) (.slice A2 n2 k2) (.slice A3 n3 k3) (.slice A4 n4 k4)) (hx : k < 0 ∨ 8 < k) (hb : (bRow bText l ++ bRow bText ml).length ≤ 1152921504606846976) :
    Calls Tryz.prog 84 #[.agg #[.int .i64 k, .int .i64 n, sv s, .slice A1 n1 k1, .slice A2 n2 k2, .slice A3 n3 k3, .slice A4 n4 k4]] w (Told2 (bRow bText l ++ bRow bText ml) (true) w) := by
  obtain ⟨wa, hwa⟩ : ∃ wa, w.alloc (.cells #[.int .i64 k, .int .i64 n, sv s, .slice A1 n1 k1, .slice A2 n2 k2, .slice A3 n3 k3, .slice A4 n4 k4] 86) = wa := ⟨_, rfl⟩
  obtain ⟨gb, hgb⟩ : ∃ gb, w.heap.size = gb := ⟨_, rfl⟩
  have hbx : Blk wa gb 86 #[.int .i64 k, .int .i64 n, sv s, .slice A1 n1 k1, .slice A2 n2 k2, .slice A3 n3 k3, .slice A4 n4 k4] := by rw [← hwa, ← hgb]; exact Blk.new w 86 _
  have hba : Below w.heap.size w wa := by rw [← hwa]; exact (Below.refl _ _).alloc (Nat.le_refl _) _
  have hta := (ht.of fun k hk => hba.block k hk).mono fun k hk => Nat.lt_of_lt_of_le hk hba.size
  have HX := Lib.hid hbx
  have HBA := Lib.hid hba
  have HT := Lib.hid hta
  have HWA := Lib.hid hwa
  have HGB := Lib.hid hgb
  unfold Told2
  have e00 : (k == 0) = false := by rw [beq_eq_false_iff_ne]; omega
  have e10 : (k == 1) = false := by rw [beq_eq_false_iff_ne]; omega
  have e20 : (k == 2) = false := by rw [beq_eq_false_iff_ne]; omega
  have e30 : (k == 3) = false := by rw [beq_eq_false_iff_ne]; omega
  have e40 : (k == 4) = false := by rw [beq_eq_false_iff_ne]; omega
  have e50 : (k == 5) = false := by rw [beq_eq_false_iff_ne]; omega
  have e60 : (k == 6) = false := by rw [beq_eq_false_iff_ne]; omega
  have e70 : (k == 7) = false := by rw [beq_eq_false_iff_ne]; omega
  have e80 : (k == 8) = false := by rw [beq_eq_false_iff_ne]; omega
  clear hx
  rw [List.length_append] at hb
  have K1 : Hid (∀ dd os, Calls Tryz.prog 143 #[.slice A1 n1 k1] (grow (redrawn wa dd) os) fun e w'' => e = .returned (sv (bRow bText l)) ∧ ∃ p : Regrown, w'' = grow (redrawn wa p.d) p.os) := Lib.hid fun dd os => Calls.regrown_of (dtexts_any _ _ _ ((hta.l.regrown (Nat.le_refl _) dd os).up (below_regrown wa dd os).size) (by omega))
  have K2 : Hid (∀ dd os, Calls Tryz.prog 143 #[.slice A4 n4 k4] (grow (redrawn wa dd) os) fun e w'' => e = .returned (sv (bRow bText ml)) ∧ ∃ p : Regrown, w'' = grow (redrawn wa p.d) p.os) := Lib.hid fun dd os => Calls.regrown_of (dtexts_any _ _ _ ((hta.m.regrown (Nat.le_refl _) dd os).up (below_regrown wa dd os).size) (by omega))
  have z3 : ∀ dd os, (grow (redrawn wa dd) os).cell? ⟨gb, 3, none⟩ = some (.slice A1 n1 k1) := fun dd os => cell_regrown (hbx.cell 3) dd os
  have z6 : ∀ dd os, (grow (redrawn wa dd) os).cell? ⟨gb, 6, none⟩ = some (.slice A4 n4 k4) := fun dd os => cell_regrown (hbx.cell 6) dd os
  have hcat : ∀ w0, (Op.stringOp .add ⟨(bRow bText l).toArray⟩ ⟨(bRow bText ml).toArray⟩).run Tryz.prog w0 = .ok (.string ⟨(bRow bText l ++ bRow bText ml).toArray⟩) w0 := fun w0 => run_cat _ _ (by omega) w0
  clear hb
  generalize bRow bText l ++ bRow bText ml = Y at *
  generalize bRow bText l = Y1 at *
  generalize bRow bText ml = Y2 at *
  clear hwa hgb hbx hba hta ht
  go_enter Tryz.func84, Tryz.ntmps84
  go_upto_region 35 with fail
  rw [HWA.out, HGB.out]
  refine wp_region_quiet_below mixed (by kernel_rfl) ?_
  repeat (first | go_big_quiet_step (first | (with_reducible exact K1.out _ _) | (with_reducible exact K2.out _ _)) | quiet_step (first | (with_reducible exact K1.out _ _) | (with_reducible exact K2.out _ _)))
  refine wpQuiet_nil ?_
  intro wx hp
  have hbw : Below wa.heap.size wa wx := by obtain ⟨p, rfl⟩ := hp; exact below_regrown _ _ _
  have BW := Lib.hid (HBA.out.trans (hbw.mono HBA.out.size))
  clear hbw hp
  go_wp2
  go_ret2
  exact ⟨rfl, BW.out⟩

theorem dbytes_any (t : ThingP) (lv cv fv mv : Value) (w : World) (ht : ThingAt (fun k => k < w.heap.size) w t lv cv fv mv) (hb : (bThing t).length ≤ 1152921504606846976) :
    Calls Tryz.prog 84 #[.agg (tcells t lv cv fv mv).toArray] w (Told2 (bThing t) (okB t) w) := by
  obtain ⟨A1, n1, k1, rfl⟩ := ht.l.slice
  obtain ⟨A2, n2, k2, rfl⟩ := ht.c.slice
  obtain ⟨A3, n3, k3, rfl⟩ := ht.f.slice
  obtain ⟨A4, n4, k4, rfl⟩ := ht.m.slice
  obtain ⟨k, n, s, l, cl, fl, ml⟩ := t
  have hb0 := hb
  unfold bThing at hb0 ⊢
  unfold okB
  simp only at hb0 ⊢
  by_cases h0 : k = 0
  · subst h0
    simp only [Int.reduceEq, if_true, if_false] at hb0 ⊢
    exact dbytes_0 n s l cl fl ml A1 A2 A3 A4 n1 k1 n2 k2 n3 k3 n4 k4 w ht
  by_cases h1 : k = 1
  · subst h1
    simp only [Int.reduceEq, if_true, if_false] at hb0 ⊢
    exact dbytes_1 n s l cl fl ml A1 A2 A3 A4 n1 k1 n2 k2 n3 k3 n4 k4 w ht
  by_cases h2 : k = 2
  · subst h2
    simp only [Int.reduceEq, if_true, if_false] at hb0 ⊢
    by_cases hx : 0 ≤ n ∧ n ≤ 4294967295
    · rw [decide_eq_true hx]
      exact dbytes_2 n s l cl fl ml A1 A2 A3 A4 n1 k1 n2 k2 n3 k3 n4 k4 w ht hx.1 hx.2
    · rw [decide_eq_false hx]
      exact dbytes_2n n s l cl fl ml A1 A2 A3 A4 n1 k1 n2 k2 n3 k3 n4 k4 w ht hx
  by_cases h3 : k = 3
  · subst h3
    simp only [Int.reduceEq, if_true, if_false] at hb0 ⊢
    exact dbytes_3 n s l cl fl ml A1 A2 A3 A4 n1 k1 n2 k2 n3 k3 n4 k4 w ht hb0
  by_cases h4 : k = 4
  · subst h4
    simp only [Int.reduceEq, if_true, if_false] at hb0 ⊢
    exact dbytes_4 n s l cl fl ml A1 A2 A3 A4 n1 k1 n2 k2 n3 k3 n4 k4 w ht hb0
  by_cases h5 : k = 5
  · subst h5
    simp only [Int.reduceEq, if_true, if_false] at hb0 ⊢
    exact dbytes_5 n s l cl fl ml A1 A2 A3 A4 n1 k1 n2 k2 n3 k3 n4 k4 w ht hb0
  by_cases h6 : k = 6
  · subst h6
    simp only [Int.reduceEq, if_true, if_false] at hb0 ⊢
    exact dbytes_6 n s l cl fl ml A1 A2 A3 A4 n1 k1 n2 k2 n3 k3 n4 k4 w ht hb0
  by_cases h7 : k = 7
  · subst h7
    simp only [Int.reduceEq, if_true, if_false] at hb0 ⊢
    exact dbytes_7 n s l cl fl ml A1 A2 A3 A4 n1 k1 n2 k2 n3 k3 n4 k4 w ht hb0
  by_cases h8 : k = 8
  · subst h8
    simp only [Int.reduceEq, if_true, if_false] at hb0 ⊢
    exact dbytes_8 n s l cl fl ml A1 A2 A3 A4 n1 k1 n2 k2 n3 k3 n4 k4 w ht hb0
  simp only [h0, h1, h2, h3, h4, h5, h6, h7, h8, if_false] at hb0 ⊢
  exact dbytes_x k n s l cl fl ml A1 A2 A3 A4 n1 k1 n2 k2 n3 k3 n4 k4 w ht (by omega) hb0
end Go.Proofs.YtoaiofjcjjkfaaaGreatDoor
/- The library's calls that the log makes, by the shelf's contracts, at this program's numbers. -/
namespace Go.Proofs.YtoaiofjcjjkfaaaGreatDoor
open Go.Shelf Go.Proofs
def Tryz.laysM171_ren : Go.Shelf.Ren := ⟨fun | 171 => 41 | 243 => 85 | 246 => 149 | 283 => 175 | 284 => 176 | 285 => 177 | 286 => 178 | 129 => 194 | 317 => 193 | 318 => 195 | 319 => 196 | 320 => 197 | 337 => 217 | 338 => 218 | n => n, fun | 3 => 3 | 9 => 9 | 2 => 2 | 4 => 4 | 171 => 206 | 0 => 0 | 53 => 82 | 37 => 65 | 5 => 5 | 173 => 209 | 212 => 236 | 51 => 135 | 20 => 20 | 213 => 237 | 46 => 150 | 232 => 269 | 233 => 270 | n => n, fun | 17 => 0 | 18 => 3 | 19 => 4 | n => n⟩
theorem Tryz.laysM171 : Go.Proofs.LaysM.n171 Tryz.prog Tryz.laysM171_ren := {
  mixed := by kernel_rfl
  f129 := Tryz.func194.trans (congrArg some (by kernel_rfl))
  f171 := Tryz.func41.trans (congrArg some (by kernel_rfl))
  f243 := Tryz.func85.trans (congrArg some (by kernel_rfl))
  f246 := Tryz.func149.trans (congrArg some (by kernel_rfl))
  f283 := Tryz.func175.trans (congrArg some (by kernel_rfl))
  f284 := Tryz.func176.trans (congrArg some (by kernel_rfl))
  f285 := Tryz.func177.trans (congrArg some (by kernel_rfl))
  f286 := Tryz.func178.trans (congrArg some (by kernel_rfl))
  f317 := Tryz.func193.trans (congrArg some (by kernel_rfl))
  f318 := Tryz.func195.trans (congrArg some (by kernel_rfl))
  f319 := Tryz.func196.trans (congrArg some (by kernel_rfl))
  f320 := Tryz.func197.trans (congrArg some (by kernel_rfl))
  f337 := Tryz.func217.trans (congrArg some (by kernel_rfl))
  f338 := Tryz.func218.trans (congrArg some (by kernel_rfl))
  t0 := Tryz.underlying0
  a0 := Tryz.isAgg0
  z0 := Tryz.sizeOf0
  v0 := Tryz.zeroValue0
  t2 := Tryz.underlying2
  a2 := Tryz.isAgg2
  z2 := Tryz.sizeOf2
  v2 := Tryz.zeroValue2
  t3 := Tryz.underlying3
  a3 := Tryz.isAgg3
  z3 := Tryz.sizeOf3
  v3 := Tryz.zeroValue3
  t4 := Tryz.underlying4
  a4 := Tryz.isAgg4
  z4 := Tryz.sizeOf4
  v4 := Tryz.zeroValue4
  t5 := Tryz.underlying5
  a5 := Tryz.isAgg5
  z5 := Tryz.sizeOf5
  v5 := Tryz.zeroValue5
  t9 := Tryz.underlying9
  a9 := Tryz.isAgg9
  z9 := Tryz.sizeOf9
  v9 := Tryz.zeroValue9
  t20 := Tryz.underlying20
  a20 := Tryz.isAgg20
  z20 := Tryz.sizeOf20
  v20 := Tryz.zeroValue20
  t37 := Tryz.underlying65
  a37 := Tryz.isAgg65
  z37 := Tryz.sizeOf65
  v37 := Tryz.zeroValue65
  t46 := Tryz.underlying150
  a46 := Tryz.isAgg150
  z46 := Tryz.sizeOf150
  v46 := Tryz.zeroValue150
  t51 := Tryz.underlying135
  a51 := Tryz.isAgg135
  z51 := Tryz.sizeOf135
  v51 := Tryz.zeroValue135
  t53 := Tryz.underlying82
  a53 := Tryz.isAgg82
  z53 := Tryz.sizeOf82
  v53 := Tryz.zeroValue82
  t171 := Tryz.underlying206
  a171 := Tryz.isAgg206
  z171 := Tryz.sizeOf206
  v171 := Tryz.zeroValue206
  t173 := Tryz.underlying209
  a173 := Tryz.isAgg209
  z173 := Tryz.sizeOf209
  v173 := Tryz.zeroValue209
  t212 := Tryz.underlying236
  a212 := Tryz.isAgg236
  z212 := Tryz.sizeOf236
  v212 := Tryz.zeroValue236
  t213 := Tryz.underlying237
  a213 := Tryz.isAgg237
  z213 := Tryz.sizeOf237
  t232 := Tryz.underlying269
  a232 := Tryz.isAgg269
  z232 := Tryz.sizeOf269
  v232 := Tryz.zeroValue269
  t233 := Tryz.underlying270
  a233 := Tryz.isAgg270
  z233 := Tryz.sizeOf270
  v233 := Tryz.zeroValue270
  g17 := by kernel_rfl
  g18 := by kernel_rfl
  g19 := by kernel_rfl
  i0 := by kernel_rfl
  i2 := by kernel_rfl
  i3 := by kernel_rfl
  i4 := by kernel_rfl
  i5 := by kernel_rfl
  i9 := by kernel_rfl
  i20 := by kernel_rfl
  i37 := by kernel_rfl
  i46 := by kernel_rfl
  i51 := by kernel_rfl
  i53 := by kernel_rfl
  i171 := by kernel_rfl
  i173 := by kernel_rfl
  i212 := by kernel_rfl
  i232 := by kernel_rfl
  i233 := by kernel_rfl
  m17 := by kernel_rfl
  m18 := by kernel_rfl
  m19 := by kernel_rfl }
open Go.RowKit Go.Sort Go.Lib in
/-- strconv.Itoa: "Itoa is equivalent to FormatInt(int64(i), 10).": i's DECIMAL NUMERAL ('Lib.itoa': a '-' where i is negative, then the digits), FOR EVERY int. The world behind the call: the world before it, new blocks behind the heap (the library's 'var a [24]byte'), draws. (LAID: no walk: one application.) -/
theorem Tryz.strconv_Itoa (n : Int) (h0 : -9223372036854775808 ≤ n) (h1 : n ≤ 9223372036854775807) (w : World) (htab : Lib.TabIs Tryz.prog w "internal/strconv.uint64pow10" .u64 Lib.pow10Tab) :
    Calls Tryz.prog 41 #[.int .i64 n] w fun e w' => e = .returned (.string ⟨(Lib.itoa n).toArray⟩) ∧ ∃ k os, w' = grow (w.drewN k) os := Any.strconv_Itoa Tryz.laysM171 n h0 h1 w htab
def Tryz.laysC172_ren : Go.Shelf.Ren := ⟨fun | 172 => 130 | 244 => 170 | 245 => 171 | 247 => 188 | 279 => 189 | 280 => 190 | 281 => 191 | 282 => 192 | 287 => 214 | 316 => 215 | 171 => 41 | 205 => 216 | 321 => 227 | 322 => 228 | 243 => 85 | 246 => 149 | 283 => 175 | 284 => 176 | 285 => 177 | 286 => 178 | 129 => 194 | 317 => 193 | 318 => 195 | 319 => 196 | 320 => 197 | 337 => 217 | 338 => 218 | n => n, fun | 9 => 9 | 3 => 3 | 75 => 142 | 76 => 143 | 4 => 4 | 5 => 5 | 167 => 229 | 37 => 65 | 0 => 0 | 85 => 230 | 2 => 2 | 168 => 232 | 53 => 82 | 175 => 253 | 46 => 150 | 210 => 256 | 127 => 149 | 145 => 268 | 143 => 266 | 21 => 21 | 171 => 206 | 173 => 209 | 212 => 236 | 51 => 135 | 20 => 20 | 213 => 237 | 232 => 269 | 233 => 270 | 80 => 80 | n => n, fun | 15 => 1 | 16 => 2 | 17 => 0 | 18 => 3 | 19 => 4 | n => n⟩
theorem Tryz.laysC172 : Go.Proofs.LaysC.n172 Tryz.prog Tryz.laysC172_ren := {
  mixed := by kernel_rfl
  f129 := Tryz.func194.trans (congrArg some (by kernel_rfl))
  f171 := Tryz.func41.trans (congrArg some (by kernel_rfl))
  f172 := Tryz.func130.trans (congrArg some (by kernel_rfl))
  f205 := Tryz.func216.trans (congrArg some (by kernel_rfl))
  f243 := Tryz.func85.trans (congrArg some (by kernel_rfl))
  f244 := Tryz.func170.trans (congrArg some (by kernel_rfl))
  f245 := Tryz.func171.trans (congrArg some (by kernel_rfl))
  f246 := Tryz.func149.trans (congrArg some (by kernel_rfl))
  f247 := Tryz.func188.trans (congrArg some (by kernel_rfl))
  f279 := Tryz.func189.trans (congrArg some (by kernel_rfl))
  f280 := Tryz.func190.trans (congrArg some (by kernel_rfl))
  f281 := Tryz.func191.trans (congrArg some (by kernel_rfl))
  f282 := Tryz.func192.trans (congrArg some (by kernel_rfl))
  f283 := Tryz.func175.trans (congrArg some (by kernel_rfl))
  f284 := Tryz.func176.trans (congrArg some (by kernel_rfl))
  f285 := Tryz.func177.trans (congrArg some (by kernel_rfl))
  f286 := Tryz.func178.trans (congrArg some (by kernel_rfl))
  f287 := Tryz.func214.trans (congrArg some (by kernel_rfl))
  f316 := Tryz.func215.trans (congrArg some (by kernel_rfl))
  f317 := Tryz.func193.trans (congrArg some (by kernel_rfl))
  f318 := Tryz.func195.trans (congrArg some (by kernel_rfl))
  f319 := Tryz.func196.trans (congrArg some (by kernel_rfl))
  f320 := Tryz.func197.trans (congrArg some (by kernel_rfl))
  f321 := Tryz.func227.trans (congrArg some (by kernel_rfl))
  f322 := Tryz.func228.trans (congrArg some (by kernel_rfl))
  f337 := Tryz.func217.trans (congrArg some (by kernel_rfl))
  f338 := Tryz.func218.trans (congrArg some (by kernel_rfl))
  t0 := Tryz.underlying0
  a0 := Tryz.isAgg0
  z0 := Tryz.sizeOf0
  v0 := Tryz.zeroValue0
  t2 := Tryz.underlying2
  a2 := Tryz.isAgg2
  z2 := Tryz.sizeOf2
  v2 := Tryz.zeroValue2
  t3 := Tryz.underlying3
  a3 := Tryz.isAgg3
  z3 := Tryz.sizeOf3
  v3 := Tryz.zeroValue3
  t4 := Tryz.underlying4
  a4 := Tryz.isAgg4
  z4 := Tryz.sizeOf4
  v4 := Tryz.zeroValue4
  t5 := Tryz.underlying5
  a5 := Tryz.isAgg5
  z5 := Tryz.sizeOf5
  v5 := Tryz.zeroValue5
  t9 := Tryz.underlying9
  a9 := Tryz.isAgg9
  z9 := Tryz.sizeOf9
  v9 := Tryz.zeroValue9
  t20 := Tryz.underlying20
  a20 := Tryz.isAgg20
  z20 := Tryz.sizeOf20
  v20 := Tryz.zeroValue20
  t21 := Tryz.underlying21
  a21 := Tryz.isAgg21
  z21 := Tryz.sizeOf21
  v21 := Tryz.zeroValue21
  t37 := Tryz.underlying65
  a37 := Tryz.isAgg65
  z37 := Tryz.sizeOf65
  v37 := Tryz.zeroValue65
  t46 := Tryz.underlying150
  a46 := Tryz.isAgg150
  z46 := Tryz.sizeOf150
  v46 := Tryz.zeroValue150
  t51 := Tryz.underlying135
  a51 := Tryz.isAgg135
  z51 := Tryz.sizeOf135
  v51 := Tryz.zeroValue135
  t53 := Tryz.underlying82
  a53 := Tryz.isAgg82
  z53 := Tryz.sizeOf82
  v53 := Tryz.zeroValue82
  t75 := Tryz.underlying142
  a75 := Tryz.isAgg142
  z75 := Tryz.sizeOf142
  v75 := Tryz.zeroValue142
  t76 := Tryz.underlying143
  a76 := Tryz.isAgg143
  z76 := Tryz.sizeOf143
  v76 := Tryz.zeroValue143
  t85 := Tryz.underlying230
  a85 := Tryz.isAgg230
  z85 := Tryz.sizeOf230
  v85 := Tryz.zeroValue230
  t127 := Tryz.underlying149
  a127 := Tryz.isAgg149
  z127 := Tryz.sizeOf149
  v127 := Tryz.zeroValue149
  t143 := Tryz.underlying266
  a143 := Tryz.isAgg266
  z143 := Tryz.sizeOf266
  v143 := Tryz.zeroValue266
  t145 := Tryz.underlying268
  a145 := Tryz.isAgg268
  z145 := Tryz.sizeOf268
  v145 := Tryz.zeroValue268
  t167 := Tryz.underlying229
  a167 := Tryz.isAgg229
  z167 := Tryz.sizeOf229
  v167 := Tryz.zeroValue229
  t168 := Tryz.underlying232
  a168 := Tryz.isAgg232
  z168 := Tryz.sizeOf232
  v168 := Tryz.zeroValue232
  t171 := Tryz.underlying206
  a171 := Tryz.isAgg206
  z171 := Tryz.sizeOf206
  v171 := Tryz.zeroValue206
  t173 := Tryz.underlying209
  a173 := Tryz.isAgg209
  z173 := Tryz.sizeOf209
  v173 := Tryz.zeroValue209
  t175 := Tryz.underlying253
  a175 := Tryz.isAgg253
  z175 := Tryz.sizeOf253
  v175 := Tryz.zeroValue253
  t210 := Tryz.underlying256
  a210 := Tryz.isAgg256
  z210 := Tryz.sizeOf256
  v210 := Tryz.zeroValue256
  t212 := Tryz.underlying236
  a212 := Tryz.isAgg236
  z212 := Tryz.sizeOf236
  v212 := Tryz.zeroValue236
  t213 := Tryz.underlying237
  a213 := Tryz.isAgg237
  z213 := Tryz.sizeOf237
  t232 := Tryz.underlying269
  a232 := Tryz.isAgg269
  z232 := Tryz.sizeOf269
  v232 := Tryz.zeroValue269
  t233 := Tryz.underlying270
  a233 := Tryz.isAgg270
  z233 := Tryz.sizeOf270
  v233 := Tryz.zeroValue270
  g15 := by kernel_rfl
  g16 := by kernel_rfl
  g17 := by kernel_rfl
  g18 := by kernel_rfl
  g19 := by kernel_rfl
  t80 := Tryz.underlying80
  a80 := Tryz.isAgg80
  z80 := Tryz.sizeOf80
  v80 := Tryz.zeroValue80
  i0 := by kernel_rfl
  i2 := by kernel_rfl
  i3 := by kernel_rfl
  i4 := by kernel_rfl
  i5 := by kernel_rfl
  i9 := by kernel_rfl
  i20 := by kernel_rfl
  i21 := by kernel_rfl
  i37 := by kernel_rfl
  i46 := by kernel_rfl
  i51 := by kernel_rfl
  i53 := by kernel_rfl
  i75 := by kernel_rfl
  i76 := by kernel_rfl
  i80 := by kernel_rfl
  i85 := by kernel_rfl
  i127 := by kernel_rfl
  i143 := by kernel_rfl
  i145 := by kernel_rfl
  i167 := by kernel_rfl
  i168 := by kernel_rfl
  i171 := by kernel_rfl
  i173 := by kernel_rfl
  i175 := by kernel_rfl
  i210 := by kernel_rfl
  i212 := by kernel_rfl
  i232 := by kernel_rfl
  i233 := by kernel_rfl
  m15 := by kernel_rfl
  m16 := by kernel_rfl
  m17 := by kernel_rfl
  m18 := by kernel_rfl
  m19 := by kernel_rfl
  c0 := by kernel_rfl
  c2 := by kernel_rfl
  c3 := by kernel_rfl
  c4 := by kernel_rfl
  c5 := by kernel_rfl
  c9 := by kernel_rfl
  c20 := by kernel_rfl
  c21 := by kernel_rfl
  c37 := by kernel_rfl
  c46 := by kernel_rfl
  c51 := by kernel_rfl
  c53 := by kernel_rfl
  c75 := by kernel_rfl
  c76 := by kernel_rfl
  c80 := by kernel_rfl
  c85 := by kernel_rfl
  c127 := by kernel_rfl
  c143 := by kernel_rfl
  c145 := by kernel_rfl
  c167 := by kernel_rfl
  c168 := by kernel_rfl
  c171 := by kernel_rfl
  c173 := by kernel_rfl
  c175 := by kernel_rfl
  c210 := by kernel_rfl
  c212 := by kernel_rfl
  c213 := by kernel_rfl
  c232 := by kernel_rfl
  c233 := by kernel_rfl }
open Go.RowKit in
/-- strconv.Atoi, AT EVERY STRING THAT SPELLS AN int ('Lib.atoiAll .. = .ok v'; of whatever length: leading zeros count): v, AND NO ERROR. The world: as it was, or with the one new row that '[]byte(..)' lays. (LAID: no walk: one application.) -/
theorem Tryz.strconv_Atoi_ok (s : ByteArray) (hmax : s.size ≤ 9223372036854775806) (v : Int) (h : Lib.atoiAll s.data.toList = .ok v) (w : World) :
    Calls Tryz.prog 130 #[.string s] w fun e w' => e = .returned (.tuple #[.int .i64 v, .nilIface]) ∧ (w' = w ∨ ∃ t, w' = Lib.bytesWorld w 5 t) := Any.strconv_Atoi_ok Tryz.laysC172 s hmax v h w
open Go.RowKit in
theorem Tryz.strconv_Atoi_syntax_var (s : ByteArray) (hlim : s.size ≤ 281474976710656) (h : Lib.atoiAll s.data.toList = Lib.atoiAll []) (tp : TypeId) (p : Value) (w : World) (hvar : w.var? Tryz.prog "strconv.ErrSyntax" = some #[.iface tp p]) :
    Calls Tryz.prog 130 #[.string s] w fun e w' => ∃ N, e = .returned (.tuple #[.int .i64 0, .iface 232 (.pointer (some ⟨N, 0, none⟩))]) ∧ w.heap.size ≤ N ∧ w'.heap[N]? = some (.cells #[.string ⟨#[65, 116, 111, 105]⟩, .string s, .iface tp p] 256 (0, 0)) ∧ Below w.heap.size w w' := Any.strconv_Atoi_syntax_var Tryz.laysC172 s hlim (h.trans rfl) tp p w hvar
open Go.RowKit in
theorem Tryz.strconv_Atoi_range_var (s : ByteArray) (hlim : s.size ≤ 281474976710656) (h : Lib.atoiAll s.data.toList = .range) (tp : TypeId) (p : Value) (w : World) (hvar : w.var? Tryz.prog "strconv.ErrRange" = some #[.iface tp p]) :
    Calls Tryz.prog 130 #[.string s] w fun e w' => ∃ N, e = .returned (.tuple #[.int .i64 (Lib.atoiSat s.data.toList), .iface 232 (.pointer (some ⟨N, 0, none⟩))]) ∧ w.heap.size ≤ N ∧ w'.heap[N]? = some (.cells #[.string ⟨#[65, 116, 111, 105]⟩, .string s, .iface tp p] 256 (0, 0)) ∧ Below w.heap.size w w' := Any.strconv_Atoi_range_var Tryz.laysC172 s hlim h tp p w hvar
def Tryz.lays206_ren : Go.Shelf.Ren := ⟨fun | 206 => 213 | n => n, fun | 9 => 9 | 4 => 4 | 3 => 3 | n => n, fun | n => n⟩
theorem Tryz.lays206 : Go.Proofs.Lays.n206 Tryz.prog Tryz.lays206_ren := {
  mixed := by kernel_rfl
  f206 := Tryz.func213.trans (congrArg some (by kernel_rfl))
  t3 := Tryz.underlying3
  a3 := Tryz.isAgg3
  z3 := Tryz.sizeOf3
  v3 := Tryz.zeroValue3
  t4 := Tryz.underlying4
  a4 := Tryz.isAgg4
  z4 := Tryz.sizeOf4
  v4 := Tryz.zeroValue4
  t9 := Tryz.underlying9
  a9 := Tryz.isAgg9
  z9 := Tryz.sizeOf9
  v9 := Tryz.zeroValue9 }
open Go.RowKit Go.Lib in
/-- internal/stringslite.HasPrefix (what strings.HasPrefix calls). (LAID: no walk: one application.) -/
theorem Tryz.stringslite_HasPrefix (s p : ByteArray) (w : World) :
    Calls Tryz.prog 213 #[.string s, .string p] w fun e w' => e = .returned (.bool (Lib.hasPrefix s.data.toList p.data.toList)) ∧ w' = w := Any.stringslite_HasPrefix Tryz.lays206 s p w
def Tryz.lays101_ren : Go.Shelf.Ren := ⟨fun | 101 => 169 | 208 => 187 | 206 => 213 | n => n, fun | 9 => 9 | 4 => 4 | 3 => 3 | n => n, fun | n => n⟩
theorem Tryz.lays101 : Go.Proofs.Lays.n101 Tryz.prog Tryz.lays101_ren := {
  mixed := by kernel_rfl
  f101 := Tryz.func169.trans (congrArg some (by kernel_rfl))
  f206 := Tryz.func213.trans (congrArg some (by kernel_rfl))
  f208 := Tryz.func187.trans (congrArg some (by kernel_rfl))
  t3 := Tryz.underlying3
  a3 := Tryz.isAgg3
  z3 := Tryz.sizeOf3
  v3 := Tryz.zeroValue3
  t4 := Tryz.underlying4
  a4 := Tryz.isAgg4
  z4 := Tryz.sizeOf4
  v4 := Tryz.zeroValue4
  t9 := Tryz.underlying9
  a9 := Tryz.isAgg9
  z9 := Tryz.sizeOf9
  v9 := Tryz.zeroValue9 }
open Go.RowKit Go.Lib in
/-- strings.TrimPrefix: "TrimPrefix returns s without the provided leading prefix string. If s doesn't start with prefix, s is returned unchanged.": IT RETURNS 'Lib.trimPrefix s prefix'; the world is as it was. (LAID: no walk: one application.) -/
theorem Tryz.strings_TrimPrefix (s p : ByteArray) (w : World) :
    Calls Tryz.prog 169 #[.string s, .string p] w fun e w' => e = .returned (.string ⟨(Lib.trimPrefix s.data.toList p.data.toList).toArray⟩) ∧ w' = w := Any.strings_TrimPrefix Tryz.lays101 s p w
end Go.Proofs.YtoaiofjcjjkfaaaGreatDoor
/- strings.Builder's calls, by the shelf's contracts, at this program's numbers. -/
namespace Go.Proofs.YtoaiofjcjjkfaaaGreatDoor
open Go.Shelf Go.Proofs
def Tryz.lays169_ren : Go.Shelf.Ren := ⟨fun | 169 => 37 | n => n, fun | 70 => 70 | 9 => 9 | 0 => 0 | 72 => 72 | 37 => 65 | 127 => 149 | 3 => 3 | 5 => 5 | n => n, fun | n => n⟩
theorem Tryz.lays169 : Go.Proofs.Lays.n169 Tryz.prog Tryz.lays169_ren := {
  mixed := by kernel_rfl
  f169 := Tryz.func37.trans (congrArg some (by kernel_rfl))
  t0 := Tryz.underlying0
  a0 := Tryz.isAgg0
  z0 := Tryz.sizeOf0
  v0 := Tryz.zeroValue0
  t3 := Tryz.underlying3
  a3 := Tryz.isAgg3
  z3 := Tryz.sizeOf3
  v3 := Tryz.zeroValue3
  t9 := Tryz.underlying9
  a9 := Tryz.isAgg9
  z9 := Tryz.sizeOf9
  v9 := Tryz.zeroValue9
  t37 := Tryz.underlying65
  a37 := Tryz.isAgg65
  z37 := Tryz.sizeOf65
  v37 := Tryz.zeroValue65
  t70 := Tryz.underlying70
  a70 := Tryz.isAgg70
  z70 := Tryz.sizeOf70
  v70 := Tryz.zeroValue70
  t72 := Tryz.underlying72
  a72 := Tryz.isAgg72
  z72 := Tryz.sizeOf72
  v72 := Tryz.zeroValue72
  t127 := Tryz.underlying149
  a127 := Tryz.isAgg149
  z127 := Tryz.sizeOf149
  v127 := Tryz.zeroValue149 }
theorem Tryz.Builder_Extra_169 : Builder.Extra Tryz.prog Tryz.lays169_ren := {
  sizeBuilder := by kernel_rfl
  liesBuilder := by kernel_rfl
  t5 := Tryz.underlying5
  a5 := Tryz.isAgg5
  z5 := Tryz.sizeOf5
  v5 := Tryz.zeroValue5
  infoByte := by kernel_rfl
  cellsByte := by kernel_rfl
  sizeByte := by kernel_rfl
  neB5 := by decide }
open Go.RowKit in
/-- (*strings.Builder).String: "String returns the accumulated string.": OF A BUILDER THAT HOLDS AT LEAST ONE BYTE. ✋ THE MODEL FREEZES THOSE BYTES IN THE BUFFER (unsafe.String): a later write INTO them ends the model's run without an answer; a later append BEHIND them goes on. The statement's order of evaluation is drawn: one draw. THE FORM '_k': OVER 'Lib.IsBuilderF' (a builder that 'String()' may have read), AND WITH THE FRAME THAT REACHES ABOVE THE BUILDER: 'Lib.OthersKept': every block that is not b and is no row of uint8's stands as it stood: the iterator of a range among them. (LAID: no walk: one application.) -/
theorem Tryz.Builder_String_k (B b : Nat) (l : List UInt8) (w : World) (h : Lib.IsBuilderF 72 5 B b (Lib.byteCells l) w) (h0 : l ≠ []) :
    Calls Tryz.prog 37 #[.pointer (some ⟨b, 0, none⟩)] w fun e w' => e = .returned (.string ⟨l.toArray⟩) ∧ (Lib.IsBuilderF 72 5 B b (Lib.byteCells l) w' ∧ Below B w w' ∧ Lib.OthersKept 5 (some b) w w') := Any.Builder_String_k Tryz.lays169 Tryz.Builder_Extra_169 B b l w h h0
open Go.RowKit in
/-- (*strings.Builder).String OF A BUILDER THAT HOLDS NO BYTE: the empty string; THE FORM '_k': OVER 'Lib.IsBuilderF' (a builder that 'String()' may have read), AND WITH THE FRAME THAT REACHES ABOVE THE BUILDER: 'Lib.OthersKept': every block that is not b and is no row of uint8's stands as it stood: the iterator of a range among them. (LAID: no walk: one application.) -/
theorem Tryz.Builder_String_empty_k (B b : Nat) (w : World) (h : Lib.IsBuilderF 72 5 B b [] w) (hBw : B ≤ w.heap.size) :
    Calls Tryz.prog 37 #[.pointer (some ⟨b, 0, none⟩)] w fun e w' => e = .returned (.string ⟨#[]⟩) ∧ (Lib.IsBuilderF 72 5 B b [] w' ∧ Below B w w' ∧ Lib.OthersKept 5 (some b) w w') := Any.Builder_String_empty_k Tryz.lays169 Tryz.Builder_Extra_169 B b w h hBw
open Go.RowKit in
/-- (*strings.Builder).String: "String returns the accumulated string.": WHATEVER THE BUILDER HOLDS; THE FORM '_k': OVER 'Lib.IsBuilderF' (a builder that 'String()' may have read), AND WITH THE FRAME THAT REACHES ABOVE THE BUILDER: 'Lib.OthersKept': every block that is not b and is no row of uint8's stands as it stood: the iterator of a range among them. (LAID: no walk: one application.) -/
theorem Tryz.Builder_String_any_k (B b : Nat) (l : List UInt8) (w : World) (h : Lib.IsBuilderF 72 5 B b (Lib.byteCells l) w) (hBw : B ≤ w.heap.size) :
    Calls Tryz.prog 37 #[.pointer (some ⟨b, 0, none⟩)] w fun e w' => e = .returned (.string ⟨l.toArray⟩) ∧ (Lib.IsBuilderF 72 5 B b (Lib.byteCells l) w' ∧ Below B w w' ∧ Lib.OthersKept 5 (some b) w w') := Any.Builder_String_any_k Tryz.lays169 Tryz.Builder_Extra_169 B b l w h hBw

def Tryz.lays166_ren : Go.Shelf.Ren := ⟨fun | 166 => 78 | 240 => 135 | 276 => 173 | n => n, fun | 0 => 0 | 3 => 3 | 4 => 4 | 9 => 9 | 20 => 20 | 5 => 5 | 37 => 65 | 70 => 70 | 72 => 72 | 75 => 142 | 80 => 80 | 164 => 203 | n => n, fun | n => n⟩
theorem Tryz.lays166 : Go.Proofs.Lays.n166 Tryz.prog Tryz.lays166_ren := {
  mixed := by kernel_rfl
  f166 := Tryz.func78.trans (congrArg some (by kernel_rfl))
  f240 := Tryz.func135.trans (congrArg some (by kernel_rfl))
  f276 := Tryz.func173.trans (congrArg some (by kernel_rfl))
  t0 := Tryz.underlying0
  a0 := Tryz.isAgg0
  z0 := Tryz.sizeOf0
  v0 := Tryz.zeroValue0
  t3 := Tryz.underlying3
  a3 := Tryz.isAgg3
  z3 := Tryz.sizeOf3
  v3 := Tryz.zeroValue3
  t4 := Tryz.underlying4
  a4 := Tryz.isAgg4
  z4 := Tryz.sizeOf4
  v4 := Tryz.zeroValue4
  t9 := Tryz.underlying9
  a9 := Tryz.isAgg9
  z9 := Tryz.sizeOf9
  v9 := Tryz.zeroValue9
  t20 := Tryz.underlying20
  a20 := Tryz.isAgg20
  z20 := Tryz.sizeOf20
  v20 := Tryz.zeroValue20
  t37 := Tryz.underlying65
  a37 := Tryz.isAgg65
  z37 := Tryz.sizeOf65
  v37 := Tryz.zeroValue65
  t70 := Tryz.underlying70
  a70 := Tryz.isAgg70
  z70 := Tryz.sizeOf70
  v70 := Tryz.zeroValue70
  t72 := Tryz.underlying72
  a72 := Tryz.isAgg72
  z72 := Tryz.sizeOf72
  v72 := Tryz.zeroValue72
  t75 := Tryz.underlying142
  a75 := Tryz.isAgg142
  z75 := Tryz.sizeOf142
  v75 := Tryz.zeroValue142
  t164 := Tryz.underlying203
  a164 := Tryz.isAgg203
  z164 := Tryz.sizeOf203
  v164 := Tryz.zeroValue203 }
theorem Tryz.Builder_Extra_166 : Builder.Extra Tryz.prog Tryz.lays166_ren where
  sizeBuilder := by kernel_rfl
  liesBuilder := by kernel_rfl
  t5 := Tryz.underlying5
  a5 := Tryz.isAgg5
  z5 := Tryz.sizeOf5
  v5 := Tryz.zeroValue5
  infoByte := by kernel_rfl
  cellsByte := by kernel_rfl
  sizeByte := by kernel_rfl
  neB5 := by decide
open Go.RowKit in
theorem Tryz.Builder_WriteString_k (B b : Nat) (bs : List Value) (s : ByteArray) (w : World) (h : Lib.IsBuilderF 72 5 B b bs w) (hlen : bs.length + s.size ≤ 140737488355328) (hBw : B ≤ w.heap.size) :
    Calls Tryz.prog 78 #[.pointer (some ⟨b, 0, none⟩), .string s] w fun e w' => e = .returned (.tuple #[.int .i64 s.size, .nilIface]) ∧ (Lib.BuilderAtF 72 5 B b (.pointer (some ⟨b, 0, none⟩)) (bs ++ Lib.strCells s) w' ∧ Below B w w' ∧ Lib.OthersKept 5 (some b) w w') := Any.Builder_WriteString_k Tryz.lays166 Tryz.Builder_Extra_166 B b bs s w h hlen hBw
end Go.Proofs.YtoaiofjcjjkfaaaGreatDoor
/- The library's variables; a checkpoint's file by its number, and the number of a file. -/
namespace Go.Proofs.YtoaiofjcjjkfaaaGreatDoor
open Go.RowKit Go.Maps Go.Lib
set_option linter.unusedVariables false

/-- The library's own variables, as the program's text lays them. -/
structure Vr (w : World) : Prop where
  tab : Lib.TabIs Tryz.prog w "internal/strconv.uint64pow10" .u64 Lib.pow10Tab
  syn : ∃ tp p, w.var? Tryz.prog "strconv.ErrSyntax" = some #[.iface tp p]
  rng : ∃ tp p, w.var? Tryz.prog "strconv.ErrRange" = some #[.iface tp p]
theorem gTab : Tryz.prog.globalNamed "internal/strconv.uint64pow10" = some 0 := by kernel_rfl
theorem gSyn : Tryz.prog.globalNamed "strconv.ErrSyntax" = some 1 := by kernel_rfl
theorem gRng : Tryz.prog.globalNamed "strconv.ErrRange" = some 2 := by kernel_rfl
theorem var_of {w w' : World} {n : String} {g : Nat} {cs : Array Value} (hg : Tryz.prog.globalNamed n = some g) (hk : w'.heap[g]? = w.heap[g]?) (hv : w.var? Tryz.prog n = some cs) : w'.var? Tryz.prog n = some cs := by
  unfold World.var? at hv ⊢
  simp only [hg, Option.bind_some] at hv ⊢
  rw [hk]; exact hv
theorem var_lt {w : World} {n : String} {g : Nat} {cs : Array Value} (hg : Tryz.prog.globalNamed n = some g) (hv : w.var? Tryz.prog n = some cs) : g < w.heap.size := by
  unfold World.var? at hv
  simp only [hg, Option.bind_some] at hv
  rcases Nat.lt_or_ge g w.heap.size with h | h
  · exact h
  · rw [Array.getElem?_eq_none h] at hv; cases hv
theorem Vr.of {w w' : World} (h : Vr w) (hk : ∀ k, k < 3 → w'.heap[k]? = w.heap[k]?) : Vr w' := by
  obtain ⟨t1, p1, h1⟩ := h.syn
  obtain ⟨t2, p2, h2⟩ := h.rng
  exact ⟨var_of gTab (hk 0 (by omega)) h.tab, ⟨t1, p1, var_of gSyn (hk 1 (by omega)) h1⟩, ⟨t2, p2, var_of gRng (hk 2 (by omega)) h2⟩⟩
theorem Vr.lt {w : World} (h : Vr w) : 3 ≤ w.heap.size := by
  obtain ⟨t2, p2, h2⟩ := h.rng
  have := var_lt gRng h2
  omega
/-- What lies from block B on is not theirs. -/
theorem Vr.below {w w' : World} {B : Nat} (h : Vr w) (hB : 3 ≤ B) (hb : Below B w w') : Vr w' := h.of fun k hk => hb.block k (by omega)
theorem Vr.keep {w w' : World} (h : Vr w) (hb : Fr No w w') : Vr w' := h.of fun k hk => hb.block k (by have := h.lt; omega) id


/-! ### File -/
theorem itoa_any (n : Int) (w : World) (hv : Vr w) (h0 : -9223372036854775808 ≤ n) (h1 : n ≤ 9223372036854775807) :
    Calls Tryz.prog 41 #[.int .i64 n] w fun e w' => e = .returned (sv (Lib.itoa n)) ∧ Fr No w w' := by
  refine (Tryz.strconv_Itoa n h0 h1 w hv.tab).mono ?_
  rintro e w' ⟨rfl, k, os, rfl⟩
  exact ⟨rfl, Fr.of_below (Lib.below_grow _ w (Nat.le_refl _) k os)⟩

def catL : List UInt8 := [99, 97, 116, 45]
def fileW (n : Int) : List UInt8 := if n < 1 ∨ 99999999 < n then [] else catL ++ (Lib.itoa (100000000 + n)).drop 1
theorem itoa9 {n : Int} (h0 : 1 ≤ n) (h1 : n ≤ 99999999) : (Lib.itoa (100000000 + n)).length = 9 := by
  unfold Lib.itoa
  rw [if_neg (by omega), Lib.decDigits_length]
  exact Lib.nDigits_unique 8 _ (by omega) (by omega)
set_option maxHeartbeats 1000000 in
theorem file_any (n : Int) (w : World) (hv : Vr w) (h0 : -9223372036854775808 ≤ n) (h1 : n ≤ 9223372036854775807) :
    Calls Tryz.prog 13 #[.int .i64 n] w fun e w' => e = .returned (sv (fileW n)) ∧ Fr No w w' := by
  by_cases hlo : n < 1
  · have HV : Hid (fileW n = []) := Lib.hid (by unfold fileW; rw [if_pos (.inl hlo)])
    have hlt : decide (n < 1) = true := by simpa using hlo
    go_enter Tryz.func13, Tryz.ntmps13
    go_wp2
    go_ret
    exact ⟨by rw [HV.out]; rfl, Fr.refl _ _⟩
  · have hge : 1 ≤ n := by omega
    have hlt : decide (n < 1) = false := by simpa using hge
    by_cases hhi : 99999999 < n
    · have HV : Hid (fileW n = []) := Lib.hid (by unfold fileW; rw [if_pos (.inr hhi)])
      have hgt : decide (99999999 < n) = true := by simpa using hhi
      go_enter Tryz.func13, Tryz.ntmps13
      go_wp2
      go_ret
      exact ⟨by rw [HV.out]; rfl, Fr.refl _ _⟩
    · have hle : n ≤ 99999999 := by omega
      have hgt : decide (99999999 < n) = false := by simpa using hle
      have HV : Hid (fileW n = [99, 97, 116, 45] ++ (Lib.itoa (100000000 + n)).drop 1) := Lib.hid (by unfold fileW; rw [if_neg (by omega)]; rfl)
      have hd := itoa9 hge hle
      have HI := Lib.hid (itoa_any (100000000 + n) w hv (by omega) (by omega))
      obtain ⟨l, hl⟩ : ∃ l, Lib.itoa (100000000 + n) = l := ⟨_, rfl⟩
      rw [hl] at HI hd HV
      have hrest : (ByteArray.mk l.toArray).extract 1 l.length = ⟨(l.drop 1).toArray⟩ := by rw [ext_list, List.take_length]
      have hl1 : 1 ≤ l.length := by omega
      have hl2 : l.length ≤ 9 := by omega
      have ht9 : (l.drop 1).length ≤ 9 := by simp; omega
      obtain ⟨t, ht⟩ : ∃ t, l.drop 1 = t := ⟨_, rfl⟩
      rw [ht] at HV hrest ht9
      have q1 := fun w' => run_cat [99, 97, 116, 45] t (by simp; omega) w'
      clear hl hv hd ht
      go_enter Tryz.func13, Tryz.ntmps13
      go_wp2_with fail
      refine HI.out.mono ?_
      rintro e w1 ⟨rfl, f1⟩
      have F1 := Lib.hid f1
      clear f1
      obtain ⟨y, hy⟩ : ∃ y, [99, 97, 116, 45] ++ t = y := ⟨_, rfl⟩
      rw [hy] at HV
      simp only [hy] at q1
      clear hy
      go_wp2
      go_ret
      exact ⟨by rw [HV.out]; rfl, F1.out⟩

/-! ### numberOf -/
def numW (s : List UInt8) : Int :=
  match Lib.atoiAll (Lib.trimPrefix s catL) with
  | .ok v => if fileW v = s then v else 0
  | _ => 0
theorem numW_bd (s : List UInt8) : i64 (numW s) := by
  unfold numW
  cases h : Lib.atoiAll (Lib.trimPrefix s catL) with
  | ok v =>
    simp only
    split
    · exact Lib.atoiAll_bounds h
    · unfold i64; omega
  | _ => simp only; unfold i64; omega
theorem trim_any (s : List UInt8) (w : World) : Calls Tryz.prog 169 #[sv s, sv catL] w fun e w' => e = .returned (sv (Lib.trimPrefix s catL)) ∧ w = w' := by
  refine (Tryz.strings_TrimPrefix ⟨s.toArray⟩ ⟨catL.toArray⟩ w).mono ?_
  rintro e w' ⟨h1, h2⟩
  exact ⟨h1, h2.symm⟩
theorem trim_len (s p : List UInt8) : (Lib.trimPrefix s p).length ≤ s.length := by
  unfold Lib.trimPrefix
  split
  · simp
  · exact Nat.le_refl _
theorem bytes_fr (w : World) (t : ByteArray) : Fr No w (Lib.bytesWorld w 5 t) :=
  ⟨rfl, rfl, rfl, by rw [Lib.bytesWorld_size]; omega, fun k hk _ => Lib.bytesWorld_at_old w 5 t k hk⟩
set_option maxHeartbeats 1000000 in
theorem numberOf_any (s : List UInt8) (w : World) (hv : Vr w) (hl : s.length ≤ 1000000) : Calls Tryz.prog 120 #[sv s] w fun e w' => e = .returned (.int .i64 (numW s)) ∧ Fr No w w' := by
  have HT := Lib.hid (trim_any s w)
  have htl := trim_len s catL
  obtain ⟨t, ht⟩ : ∃ t, Lib.trimPrefix s catL = t := ⟨_, rfl⟩
  have HNW : Hid (numW s = match Lib.atoiAll t with | .ok v => if fileW v = s then v else 0 | _ => 0) := Lib.hid (by unfold numW; rw [ht])
  rw [ht] at HT htl
  have HV := Lib.hid hv
  clear ht
  unfold catL at HT
  cases h : Lib.atoiAll t with
  | ok v =>
    have hbd := Lib.atoiAll_bounds h
    have HA := Lib.hid (Tryz.strconv_Atoi_ok ⟨t.toArray⟩ (by rw [sz]; omega) v h w)
    rw [h] at HNW
    clear h htl
    go_enter Tryz.func120, Tryz.ntmps120
    go_wp2_with fail
    refine HT.out.mono ?_
    rintro e w' ⟨rfl, rfl⟩
    go_wp2_with fail
    refine HA.out.mono ?_
    rintro e w1 ⟨rfl, hw1⟩
    have hf1 : Fr No w w1 := by
      rcases hw1 with rfl | ⟨t', rfl⟩
      · exact Fr.refl _ _
      · exact bytes_fr w t'
    have F1 := Lib.hid hf1
    have HN := Lib.hid (file_any v w1 (hv.keep hf1) hbd.1 hbd.2)
    obtain ⟨nv, hnv⟩ : ∃ nv, fileW v = nv := ⟨_, rfl⟩
    rw [hnv] at HN HNW
    clear hw1 hf1 hnv HA hv
    go_wp2_with fail
    refine HN.out.mono ?_
    rintro e w2 ⟨rfl, f2⟩
    have F2 := Lib.hid (F1.out.trans f2 fun _ _ h => h)
    clear f2
    by_cases hc : nv = s
    · have HE : Hid (numW s = v) := Lib.hid (by rw [HNW.out, if_pos hc])
      have hb : (nv == s) = true := by simpa using hc
      have hb2 : (nv != s) = false := by simpa using hc
      clear hc
      go_wp2
      go_ret
      exact ⟨by rw [HE.out]; rfl, F2.out⟩
    · have HE : Hid (numW s = 0) := Lib.hid (by rw [HNW.out, if_neg hc])
      have hb : (nv == s) = false := by simpa using hc
      have hb2 : (nv != s) = true := by simpa using hc
      clear hc
      go_wp2
      go_ret
      exact ⟨by rw [HE.out]; rfl, F2.out⟩
  | range =>
    obtain ⟨tp, p, hs⟩ := hv.rng
    have HA := Lib.hid (Tryz.strconv_Atoi_range_var ⟨t.toArray⟩ (by rw [sz]; omega) h tp p w hs)
    have HE : Hid (numW s = 0) := Lib.hid (by rw [HNW.out, h])
    clear h htl hs hv
    go_enter Tryz.func120, Tryz.ntmps120
    go_wp2_with fail
    refine HT.out.mono ?_
    rintro e w' ⟨rfl, rfl⟩
    go_wp2_with fail
    refine HA.out.mono ?_
    rintro e w1 ⟨NN, rfl, hN1, hN2, hbl⟩
    have F1 := Lib.hid (Fr.of_below hbl)
    clear hN1 hN2 hbl HA
    go_wp2
    go_ret
    exact ⟨by rw [HE.out]; rfl, F1.out⟩
  | _ =>
    obtain ⟨tp, p, hs⟩ := hv.syn
    have HA := Lib.hid (Tryz.strconv_Atoi_syntax_var ⟨t.toArray⟩ (by rw [sz]; omega) (h.trans rfl) tp p w hs)
    have HE : Hid (numW s = 0) := Lib.hid (by rw [HNW.out, h])
    clear h htl hs hv
    go_enter Tryz.func120, Tryz.ntmps120
    go_wp2_with fail
    refine HT.out.mono ?_
    rintro e w' ⟨rfl, rfl⟩
    go_wp2_with fail
    refine HA.out.mono ?_
    rintro e w1 ⟨NN, rfl, hN1, hN2, hbl⟩
    have F1 := Lib.hid (Fr.of_below hbl)
    clear hN1 hN2 hbl HA
    go_wp2
    go_ret
    exact ⟨by rw [HE.out]; rfl, F1.out⟩


end Go.Proofs.YtoaiofjcjjkfaaaGreatDoor
/- A checkpoint, plain: its bytes, and how it lies in memory. -/
namespace Go.Proofs.YtoaiofjcjjkfaaaGreatDoor
open Go.RowKit Go.Maps
set_option linter.unusedVariables false

structure CkP where
  seq : Int
  dims : List (List UInt8)
  meas : List (List UInt8)
  views : List Int
  bats : List (List FactP)
def CkP.zero : CkP := ⟨0, [], [], [], []⟩
/-- What is laid down ahead of the batches. -/
def headW (c : CkP) : WS := (((WS.zero.int c.seq).schema c.dims c.meas).ints c.views).count c.bats.length
/-- The frame of what a writer laid down. -/
def frW (S : WS) : List UInt8 × Int := if S.fault = 0 then (frameR S.data, 0) else ([], S.fault)
/-- What a checkpoint has of it: what a writer can't lay down is too great, too. -/
def frL (S : WS) : List UInt8 × Int := if S.fault = 0 then (frameR S.data, 0) else ([], 23)
def catB : List (List FactP) → List UInt8 → List UInt8 × Int
  | [], acc => (acc, 0)
  | b :: l, acc => if (WS.zero.facts b).fault = 0 then catB l (acc ++ frameR (WS.zero.facts b).data) else ([], 23)
def bytesP (c : CkP) : List UInt8 × Int :=
  if c.seq < 0 then ([], 1) else if (headW c).fault = 0 then catB c.bats (frameR (headW c).data) else ([], 23)

def batE (K : Nat → Prop) (w : World) (b : List FactP) (cs : List Value) : Prop := ∃ v, cs = [v] ∧ RowE K w 2 (factE K w) v b
theorem batE.of {K : Nat → Prop} {w w' : World} {b : List FactP} {cs : List Value} (h : batE K w b cs) (hk : ∀ k, K k → w'.heap[k]? = w.heap[k]?) : batE K w' b cs := by
  obtain ⟨v, e, hr⟩ := h
  exact ⟨v, e, hr.factOf hk⟩
/-- Its four rows. -/
structure CkAt (K : Nat → Prop) (w : World) (c : CkP) (dv mv vv bv : Value) : Prop where
  seq : i64 c.seq
  dims : RowE K w 1 strE dv c.dims
  meas : RowE K w 1 strE mv c.meas
  views : RowE K w 1 intE vv c.views
  bats : RowE K w 1 (batE K w) bv c.bats
def ckv (c : CkP) (dv mv vv bv : Value) : Value := .agg #[.int .i64 c.seq, dv, mv, vv, bv]
theorem CkAt.of {K : Nat → Prop} {w w' : World} {c : CkP} {dv mv vv bv : Value} (h : CkAt K w c dv mv vv bv) (hk : ∀ k, K k → w'.heap[k]? = w.heap[k]?) : CkAt K w' c dv mv vv bv :=
  ⟨h.seq, h.dims.of hk fun _ _ h => h, h.meas.of hk fun _ _ h => h, h.views.of hk fun _ _ h => h, h.bats.of hk fun _ _ h => h.of hk⟩
theorem factE.mono {K K' : Nat → Prop} {w : World} {f : FactP} {cs : List Value} (h : factE K w f cs) (hk : ∀ k, K k → K' k) : factE K' w f cs := by
  obtain ⟨dv, mv, e, h1, h2⟩ := h
  exact ⟨dv, mv, e, h1.mono hk, h2.mono hk⟩
theorem RowE.imp {α : Type} {K : Nat → Prop} {w : World} {size : Nat} {E E' : α → List Value → Prop} {v : Value} {l : List α} (h : RowE K w size E v l) (hE : ∀ x cs, E x cs → E' x cs) : RowE K w size E' v l := h.of (fun _ _ => rfl) hE
theorem batE.mono {K K' : Nat → Prop} {w : World} {b : List FactP} {cs : List Value} (h : batE K w b cs) (hk : ∀ k, K k → K' k) : batE K' w b cs := by
  obtain ⟨v, e, hr⟩ := h
  exact ⟨v, e, (hr.mono hk).imp fun _ _ h => h.mono hk⟩
theorem CkAt.mono {K K' : Nat → Prop} {w : World} {c : CkP} {dv mv vv bv : Value} (h : CkAt K w c dv mv vv bv) (hk : ∀ k, K k → K' k) : CkAt K' w c dv mv vv bv :=
  ⟨h.seq, h.dims.mono hk, h.meas.mono hk, h.views.mono hk, (h.bats.mono hk).imp fun _ _ h => h.mono hk⟩
theorem CkAt.nil (K : Nat → Prop) (w : World) (c : CkP) (n1 n2 n3 n4 : Nat) (hs : i64 c.seq) (h1 : c.dims = []) (h2 : c.meas = []) (h3 : c.views = []) (h4 : c.bats = []) : CkAt K w c (.slice none 0 n1) (.slice none 0 n2) (.slice none 0 n3) (.slice none 0 n4) :=
  ⟨hs, h1 ▸ RowE.nil _ _ _ _ _, h2 ▸ RowE.nil _ _ _ _ _, h3 ▸ RowE.nil _ _ _ _ _, h4 ▸ RowE.nil _ _ _ _ _⟩
/-- Whatever ck lies so is a value of five. -/
theorem CkAt.forms {K : Nat → Prop} {w : World} {c : CkP} {dv mv vv bv : Value} (h : CkAt K w c dv mv vv bv) : ∃ A1 n1 c1 A2 n2 c2 A3 n3 c3 A4 n4 c4, dv = .slice A1 n1 c1 ∧ mv = .slice A2 n2 c2 ∧ vv = .slice A3 n3 c3 ∧ bv = .slice A4 n4 c4 := by
  obtain ⟨A1, n1, c1, e1⟩ := h.dims.slice
  obtain ⟨A2, n2, c2, e2⟩ := h.meas.slice
  obtain ⟨A3, n3, c3, e3⟩ := h.views.slice
  obtain ⟨A4, n4, c4, e4⟩ := h.bats.slice
  exact ⟨A1, n1, c1, A2, n2, c2, A3, n3, c3, A4, n4, c4, e1, e2, e3, e4⟩
end Go.Proofs.YtoaiofjcjjkfaaaGreatDoor
/- A writer's frame, a reader of a frame's body; a manifest's bytes, both ways. -/
namespace Go.Proofs.YtoaiofjcjjkfaaaGreatDoor
open Go.RowKit Go.Maps
set_option linter.unusedVariables false

/-! ### framed -/
set_option maxHeartbeats 400000 in
theorem framed_any (p : Option Nat) (v : Value) (S : WS) (w : World) (h : WAt w p v S) :
    Calls Tryz.prog 77 #[wpt p] w fun e w' => e = .returned (.tuple #[sv (frW S).1, .int .i64 (frW S).2]) ∧ Fr No w w' := by
  have HD := Lib.hid (wdone_any p v S w h)
  have hlen := h.len
  obtain ⟨D, f⟩ := S
  simp only at hlen
  by_cases h0 : f = 0
  · subst h0
    have HV : Hid (frW ⟨D, 0⟩ = (frameR D, 0)) := Lib.hid (by unfold frW; rw [if_pos rfl])
    have HF : Hid (∀ w1, Calls Tryz.prog 134 #[sv D] w1 fun e w' => e = .returned (.tuple #[sv (frameR D), .int .i64 0]) ∧ Below w1.heap.size w1 w') := Lib.hid fun w1 => (frame_ok D w1 hlen).mono fun e w' h => ⟨by rw [h.1, frameV_ok hlen], h.2⟩
    generalize frameR D = FD at *
    clear h hlen
    generalize hP : wpt p = P at *
    clear hP
    go_enter Tryz.func77, Tryz.ntmps77
    go_wp2_with fail
    refine HD.out.mono ?_
    rintro e w1 ⟨rfl, f1⟩
    have F1 := Lib.hid f1
    clear f1
    go_wp2_with fail
    refine (HF.out w1).mono ?_
    rintro e w2 ⟨rfl, f2⟩
    have F2 := Lib.hid (F1.out.trans (Fr.of_below f2) fun _ _ h => h)
    clear f2
    go_wp2
    go_ret2
    exact ⟨by rw [HV.out]; first | done | rfl, F2.out⟩
  · have HV : Hid (frW ⟨D, f⟩ = ([], f)) := Lib.hid (by unfold frW; rw [if_neg h0])
    have hb : (f != 0) = true := by simpa using h0
    clear h hlen h0
    generalize hP : wpt p = P at *
    clear hP
    go_enter Tryz.func77, Tryz.ntmps77
    go_wp2_with fail
    refine HD.out.mono ?_
    rintro e w1 ⟨rfl, f1⟩
    have F1 := Lib.hid f1
    clear f1
    go_wp2
    go_ret2
    exact ⟨by rw [HV.out]; rfl, F1.out⟩

/-! ### unframed -/
/-- The reader of a frame's body, and what is behind it. -/
def ufR (l : List UInt8) : RS := (RS.mk (unfR l).1 0).fail (unfR l).2.2
def ufT (l : List UInt8) : List UInt8 := l.drop (unfR l).2.1
theorem unf_le (l : List UInt8) : (unfR l).2.1 ≤ l.length ∧ (unfR l).1.length ≤ 65536 := by
  unfold unfR
  split
  · exact ⟨Nat.zero_le _, by simp⟩
  · rename_i h
    split
    · exact ⟨Nat.zero_le _, by simp⟩
    · split
      · exact ⟨Nat.zero_le _, by simp⟩
      · split
        · exact ⟨Nat.zero_le _, by simp⟩
        · refine ⟨by simp only; omega, ?_⟩
          simp only [List.length_take]
          omega
set_option maxHeartbeats 1000000 in
theorem unframed_any (l : List UInt8) (w : World) (hm : l.length ≤ maxLen) :
    Calls Tryz.prog 42 #[sv l] w fun e w' => ∃ g, e = .returned (.tuple #[wpt (some g), sv (ufT l)]) ∧ RAt w' (some g) (ufR l) ∧ Fr No w w' ∧ w.heap.size ≤ g := by
  obtain ⟨hle, hb⟩ := unf_le l
  have HU := Lib.hid (unf_any l w hm)
  have HT : Hid (ufT l = l.drop (unfR l).2.1) := Lib.hid rfl
  have HR : Hid (ufR l = (RS.mk (unfR l).1 0).fail (unfR l).2.2) := Lib.hid rfl
  unfold Unf at HU
  generalize unfR l = U at *
  obtain ⟨B, n, e0⟩ := U
  simp only at hle hb HU HT HR
  have hrest : (ByteArray.mk l.toArray).extract n l.length = ⟨(l.drop n).toArray⟩ := by rw [ext_list, List.take_length]
  unfold maxLen at hm
  go_enter Tryz.func42, Tryz.ntmps42
  go_wp2_with fail
  refine HU.out.mono ?_
  rintro e w1 ⟨rfl, b1⟩
  have F1 := Lib.hid (Fr.of_below b1)
  clear b1
  go_wp2_with fail
  refine (read_any B w1).mono ?_
  rintro e w2 ⟨rfl, hw2⟩
  have HA : Hid (RAt w2 (some w1.heap.size) ⟨B, 0⟩) := Lib.hid (by rw [← hw2]; exact RAt.new w1 B (by omega))
  have F2 : Hid (Fr No w w2) := Lib.hid (by rw [← hw2]; exact F1.out.alloc _)
  have HG : Hid (w.heap.size ≤ w1.heap.size) := Lib.hid F1.out.size
  clear hw2
  obtain ⟨g, hg⟩ : ∃ g, w1.heap.size = g := ⟨_, rfl⟩
  rw [hg] at HA HG ⊢
  clear hg F1
  go_wp2_with fail
  have C3 := rfail_any (some g) ⟨B, 0⟩ e0 w2 HA.out
  rw [wpt_some] at C3
  refine C3.mono ?_
  clear C3
  rintro e w3 ⟨rfl, h3, f3⟩
  have H3 := Lib.hid h3
  have F3 : Hid (Fr No w w3) := Lib.hid (F2.out.trans f3 fun k hk e => by
    have e' : g = k := Option.some.inj e
    have := HG.out
    omega)
  clear h3 f3
  go_wp2
  go_quiet (fail)
  go_wp2
  go_ret2
  exact ⟨g, by rw [HT.out, wpt_some]; first | done | rfl, by rw [HR.out]; exact H3.out.keep ((Fr.refl _ _).drewN _), F3.out.drewN _, HG.out⟩
end Go.Proofs.YtoaiofjcjjkfaaaGreatDoor
/- A manifest's bytes, both ways. -/
namespace Go.Proofs.YtoaiofjcjjkfaaaGreatDoor
open Go.RowKit Go.Maps
set_option linter.unusedVariables false

def maniB (l : List UInt8) : List UInt8 := (frW (WS.zero.text l)).1
theorem new_off {v v' : Value} {w w0 w' : World} (h : WL (some w.heap.size) v w0 v' w') (hw : Below w.heap.size w w0) (hv : ∀ k, v.ownBlock = some k → w.heap.size ≤ k) : Below w.heap.size w w' ∧ ∀ k, v'.ownBlock = some k → w.heap.size ≤ k := by
  refine ⟨hw.trans (h.fr.below_of hw.size fun k hk => ?_), fun k hk => ?_⟩
  · rcases hk with e | e
    · rw [← Option.some.inj e]; exact Nat.le_refl _
    · exact hv k e
  · rcases h.own k hk with e | e
    · exact hv k e
    · have := hw.size; omega
set_option maxHeartbeats 1000000 in
theorem manifestOf_any (l : List UInt8) (w : World) (hl : l.length ≤ maxLen) : Calls Tryz.prog 115 #[sv l] w fun e w' => e = .returned (sv (maniB l)) ∧ Fr No w w' := by
  have hA := WAt.new w
  obtain ⟨w0, hw0⟩ : ∃ w0, w.alloc (.cells #[.slice none 0 0, .int .i64 0] 78) = w0 := ⟨_, rfl⟩
  have hb0 : Below w.heap.size w (w.alloc (.cells #[.slice none 0 0, .int .i64 0] 78)) := (Below.refl _ _).alloc (Nat.le_refl _) _
  rw [hw0] at hA hb0
  have hv0 : ∀ k, (Value.slice none 0 0).ownBlock = some k → w.heap.size ≤ k := by simp [Value.ownBlock]
  obtain ⟨g, hg⟩ : ∃ g, w.heap.size = g := ⟨_, rfl⟩
  have HA := Lib.hid hA
  have HB0 := Lib.hid hb0
  have HW0 := Lib.hid hw0
  have HG := Lib.hid hg
  have HV0 := Lib.hid hv0
  have HL := Lib.hid hl
  have HM : Hid (maniB l = (frW (WS.zero.text l)).1) := Lib.hid rfl
  clear hA hb0 hw0 hl hv0
  rw [hg] at HA
  clear hg
  go_enter Tryz.func115, Tryz.ntmps115
  go_wp2_with fail
  rw [HW0.out, HG.out]
  have C1 := wtext_any (some g) _ _ l w0 HA.out HL.out
  rw [wpt_some] at C1
  refine C1.mono ?_
  clear C1
  rintro e w1 ⟨rfl, v1, h1, l1⟩
  have L1 := Lib.hid (new_off (w := w) (by rw [HG.out]; exact l1) HB0.out HV0.out)
  have C2 := framed_any (some g) v1 _ w1 h1
  rw [wpt_some] at C2
  have HC2 := Lib.hid C2
  clear C2 h1 l1
  generalize WS.text WS.zero l = S at *
  generalize frW S = F at *
  obtain ⟨F1, F2⟩ := F
  simp only at HM HC2
  go_wp2_with fail
  refine HC2.out.mono ?_
  rintro e w2 ⟨rfl, f2⟩
  have HF := Lib.hid ((Fr.of_below L1.out.1).trans f2 fun _ _ h => h)
  clear f2
  go_wp2
  go_ret
  exact ⟨by rw [HM.out]; first | done | rfl, HF.out⟩

/-! ### unManifest -/
def unManiW (l : List UInt8) : Int × Int :=
  if (ufR l).text.2.done = 0 ∧ ufT l = [] ∧ numW (ufR l).text.1 ≠ 0 then (numW (ufR l).text.1, 0) else (0, 27)
theorem ufR_len (l : List UInt8) : (ufR l).rest.length ≤ 65536 := by
  have h := (unf_le l).2
  exact Nat.le_trans (fail_rest _ _) h
set_option maxHeartbeats 1000000 in
theorem unManifest_any (l : List UInt8) (w : World) (hv : Vr w) (hl : l.length ≤ maxLen) :
    Calls Tryz.prog 106 #[sv l] w fun e w' => e = .returned (.tuple #[.int .i64 (unManiW l).1, .int .i64 (unManiW l).2]) ∧ Fr No w w' := by
  have HU := Lib.hid (unframed_any l w hl)
  have htl : (ufR l).text.1.length ≤ 1000000 := by
    have h1 := text_le (ufR l)
    have h2 := ufR_len l
    omega
  have HTL := Lib.hid htl
  have HV := Lib.hid hv
  have HW : Hid (unManiW l = if (ufR l).text.2.done = 0 ∧ ufT l = [] ∧ numW (ufR l).text.1 ≠ 0 then (numW (ufR l).text.1, 0) else (0, 27)) := Lib.hid rfl
  have hbd := numW_bd (ufR l).text.1
  obtain ⟨R, hR⟩ : ∃ R, ufR l = R := ⟨_, rfl⟩
  rw [hR] at HU HW HTL hbd
  obtain ⟨T, hT⟩ : ∃ T, ufT l = T := ⟨_, rfl⟩
  rw [hT] at HU HW
  clear hR hT hv hl htl
  go_enter Tryz.func106, Tryz.ntmps106
  go_wp2_with fail
  refine HU.out.mono ?_
  rintro e w1 ⟨g, rfl, h1, f1, hg⟩
  have H1 := Lib.hid h1
  have F1 := Lib.hid f1
  have HG := Lib.hid hg
  clear h1 f1 hg
  rw [wpt_some]
  go_wp2_with fail
  have C2 := rtext_any (some g) R w1 H1.out
  rw [wpt_some] at C2
  refine C2.mono ?_
  clear C2
  rintro e w2 ⟨rfl, h2, f2⟩
  have H2 := Lib.hid h2
  have F2 : Hid (Fr No w w2) := Lib.hid (F1.out.trans f2 fun k hk e => by
    have e' : g = k := Option.some.inj e
    have := HG.out
    omega)
  clear h2 f2 H1 F1
  generalize R.text = ST at *
  obtain ⟨s, S⟩ := ST
  simp only at H2 HW HTL hbd
  have HN := Lib.hid (numberOf_any s w2 (HV.out.keep F2.out) HTL.out)
  have HD := Lib.hid (rdone_any (some g) S)
  rw [wpt_some] at HD
  generalize numW s = n at *
  obtain ⟨x, hx⟩ : ∃ x, S.done = x := ⟨_, rfl⟩
  rw [hx] at HD HW
  clear hx
  go_wp2_with fail
  refine HN.out.mono ?_
  rintro e w3 ⟨rfl, f3⟩
  have H3 := Lib.hid (H2.out.keep f3)
  have F3 := Lib.hid (F2.out.trans f3 fun _ _ h => h)
  clear f3 HN
  have C4 := Lib.hid (HD.out w3 H3.out)
  unfold i64 at hbd
  by_cases a : x = 0
  · subst a
    by_cases b : T = []
    · subst b
      by_cases c : n = 0
      · subst c
        have HE : Hid (unManiW l = (0, 27)) := Lib.hid (by rw [HW.out]; simp)
        clear HW
        go_wp2_with fail
        refine C4.out.mono ?_
        rintro e w4 ⟨rfl, rfl⟩
        go_wp2
        go_ret2
        exact ⟨by rw [HE.out]; first | done | rfl, F3.out⟩
      · have HE : Hid (unManiW l = (n, 0)) := Lib.hid (by rw [HW.out, if_pos ⟨rfl, rfl, c⟩])
        have cb : (n == 0) = false := by simpa using c
        clear HW c
        go_wp2_with fail
        refine C4.out.mono ?_
        rintro e w4 ⟨rfl, rfl⟩
        go_wp2
        go_ret2
        exact ⟨by rw [HE.out]; first | done | rfl, F3.out⟩
    · have HE : Hid (unManiW l = (0, 27)) := Lib.hid (by rw [HW.out, if_neg (fun h => b h.2.1)])
      have bb : T.isEmpty = false := by simpa using b
      clear HW b
      go_wp2_with fail
      refine C4.out.mono ?_
      rintro e w4 ⟨rfl, rfl⟩
      go_wp2
      go_ret2
      exact ⟨by rw [HE.out]; first | done | rfl, F3.out⟩
  · have HE : Hid (unManiW l = (0, 27)) := Lib.hid (by rw [HW.out, if_neg (fun h => a h.1)])
    have ab : (x != 0) = true := by simpa using a
    clear HW a
    go_wp2_with fail
    refine C4.out.mono ?_
    rintro e w4 ⟨rfl, rfl⟩
    go_wp2
    go_ret2
    exact ⟨by rw [HE.out]; first | done | rfl, F3.out⟩
end Go.Proofs.YtoaiofjcjjkfaaaGreatDoor
/- A builder beside other things; a frame laid behind what it holds. -/
namespace Go.Proofs.YtoaiofjcjjkfaaaGreatDoor
open Go.RowKit Go.Maps
set_option linter.unusedVariables false

/-- A builder in block b, its row behind it. -/
def Bd (w : World) (b : Nat) (l : List UInt8) : Prop := Lib.IsBuilderF 72 5 b b (Lib.byteCells l) w
theorem BuilderAtF_keep {B b : Nat} {p : Value} {bs : List Value} {w w' : World} (h : Lib.BuilderAtF 72 5 B b p bs w) (hf : Fr No w w') : Lib.BuilderAtF 72 5 B b p bs w' := by
  obtain ⟨h0, v, hb, ho, hne⟩ := h
  refine ⟨h0, v, ?_, ⟨ho.1, ?_⟩, hne⟩
  · rw [hf.block b (Array.getElem?_eq_some_iff.1 hb).1 id]; exact hb
  · rcases ho.2 with hn | ⟨g, cap, cur, fz, hv, hB, hg, rest⟩
    · exact .inl hn
    · refine .inr ⟨g, cap, cur, fz, hv, hB, ?_, rest⟩
      rw [hf.block g (Array.getElem?_eq_some_iff.1 hg).1 id]; exact hg
theorem Bd.keep {w w' : World} {b : Nat} {l : List UInt8} (h : Bd w b l) (hf : Fr No w w') : Bd w' b l :=
  h.elim (fun x => .inl (BuilderAtF_keep x hf)) fun x => .inr (BuilderAtF_keep x hf)
theorem Bd.lt {w : World} {b : Nat} {l : List UInt8} (h : Bd w b l) : b < w.heap.size := h.elim Lib.BuilderAtF.lt Lib.BuilderAtF.lt
theorem Bd.new (w : World) : Bd (w.alloc (.cells #[.pointer none, .slice none 0 0] 72)) w.heap.size [] := Lib.IsBuilderF.of (Lib.fresh_isBuilder 72 5 w)
set_option maxHeartbeats 1000000 in
theorem catlay_any (b : Nat) (l : List UInt8) (p : Option Nat) (v : Value) (S : WS) (w : World) (hB : Bd w b l) (h : WAt w p v S) (hl : l.length ≤ 140737488000000) :
    Calls Tryz.prog 34 #[.pointer (some ⟨b, 0, none⟩), wpt p] w fun e w' => e = .returned (.int .i64 (frL S).2) ∧ Bd w' b (l ++ (frL S).1) ∧ Below b w w' := by
  have HF := Lib.hid (framed_any p v S w h)
  have hdl := h.len
  have HB := Lib.hid hB
  have HLT := Lib.hid hB.lt
  by_cases hf : S.fault = 0
  · have eL : frL S = (frameR S.data, 0) := by unfold frL; rw [if_pos hf]
    have eW : frW S = (frameR S.data, 0) := by unfold frW; rw [if_pos hf]
    have hlen : (frameR S.data).length ≤ 65544 := by
      unfold frameR
      rw [List.length_append, List.length_append, low_len, low_len]
      omega
    rw [eL]
    rw [eW] at HF
    clear h hB hf eL eW hdl
    generalize hP : wpt p = P at *
    clear hP
    generalize frameR S.data = B at *
    simp only at HF
    have hsz : (ByteArray.mk B.toArray).size = B.length := sz B
    have HWR : Hid (∀ w1, Bd w1 b l → b ≤ w1.heap.size → Calls Tryz.prog 78 #[.pointer (some ⟨b, 0, none⟩), sv B] w1 fun e w' => e = .returned (.tuple #[.int .i64 (B.length : Nat), .nilIface]) ∧ Bd w' b (l ++ B) ∧ Below b w1 w') := Lib.hid fun w1 h1 h2 => by
      refine (Tryz.Builder_WriteString_k b b (Lib.byteCells l) ⟨B.toArray⟩ w1 h1 (by rw [Lib.byteCells_length, hsz]; omega) h2).mono ?_
      rintro e w' ⟨rfl, hb, hbl, _⟩
      refine ⟨by rw [hsz], ?_, hbl⟩
      unfold Bd
      rw [Lib.byteCells_append]
      exact .inr hb
    clear hsz hlen hl
    go_enter Tryz.func34, Tryz.ntmps34
    go_wp2_with fail
    refine HF.out.mono ?_
    rintro e w1 ⟨rfl, f1⟩
    have F1 := Lib.hid f1
    clear f1
    have C2 := Lib.hid (HWR.out w1 (HB.out.keep F1.out) (Nat.le_trans (Nat.le_of_lt HLT.out) F1.out.size))
    clear HWR
    go_wp2_with fail
    refine C2.out.mono ?_
    rintro e w2 ⟨rfl, h2, b2⟩
    have H2 := Lib.hid h2
    have B2 := Lib.hid b2
    clear h2 b2
    go_wp2
    go_ret
    exact ⟨rfl, H2.out, (F1.out.below.mono (Nat.le_of_lt HLT.out)).trans B2.out⟩
  · have eL : frL S = ([], 23) := by unfold frL; rw [if_neg hf]
    have eW : frW S = ([], S.fault) := by unfold frW; rw [if_neg hf]
    have hne : (S.fault != 0) = true := by simpa using hf
    rw [eL]
    rw [eW] at HF
    clear h hB hf eL eW hdl
    generalize hP : wpt p = P at *
    clear hP
    generalize S.fault = f at *
    simp only at HF
    go_enter Tryz.func34, Tryz.ntmps34
    go_wp2_with fail
    refine HF.out.mono ?_
    rintro e w1 ⟨rfl, f1⟩
    have F1 := Lib.hid f1
    clear f1
    go_wp2
    go_ret
    exact ⟨rfl, by rw [List.append_nil]; exact HB.out.keep F1.out, F1.out.below.mono (Nat.le_of_lt HLT.out)⟩
end Go.Proofs.YtoaiofjcjjkfaaaGreatDoor
/- What a checkpoint's writer lays down ahead of its batches. -/
namespace Go.Proofs.YtoaiofjcjjkfaaaGreatDoor
open Go.RowKit Go.Maps
set_option linter.unusedVariables false

/-- A writer of one's own: all its blocks are new since B. -/
def WNew (B : Nat) (w0 w : World) (g : Nat) (v : Value) (S : WS) : Prop := WAt w (some g) v S ∧ Below B w0 w ∧ B ≤ g ∧ (∀ k, v.ownBlock = some k → B ≤ k)
theorem WNew.call {B : Nat} {w0 w w' : World} {g : Nat} {v : Value} {S S' : WS} {e : Ending} (h : WNew B w0 w g v S) (hB : B ≤ w.heap.size) (k : WP (some g) v w S' e w') : e = .returned (.tuple #[]) ∧ ∃ v', WNew B w0 w' g v' S' := by
  obtain ⟨rfl, v', h1, l1⟩ := k
  refine ⟨rfl, v', h1, h.2.1.trans (l1.fr.below_of hB fun j hj => ?_), h.2.2.1, fun j hj => ?_⟩
  · rcases hj with e | e
    · rw [← Option.some.inj e]; exact h.2.2.1
    · exact h.2.2.2 j e
  · rcases l1.own j hj with e | e
    · exact h.2.2.2 j e
    · omega
theorem WNew.off {B : Nat} {w0 w : World} {g : Nat} {v : Value} {S : WS} (h : WNew B w0 w g v S) {K : Nat → Prop} (hK : ∀ k, K k → k < B) (hB : B ≤ w.heap.size) : Off (some g) v w K := fun k hk => by
  have := hK k hk
  refine ⟨by omega, fun e => ?_⟩
  rcases e with e | e
  · have e' : g = k := Option.some.inj e
    have := h.2.2.1; omega
  · have := h.2.2.2 k e; omega
theorem WNew.size {B : Nat} {w0 w : World} {g : Nat} {v : Value} {S : WS} (h : WNew B w0 w g v S) : w0.heap.size ≤ w.heap.size := h.2.1.size

set_option maxRecDepth 100000 in
set_option maxHeartbeats 2000000 in
theorem headOf_any (K : Nat → Prop) (c : CkP) (dv mv vv bv : Value) (w : World) (h : CkAt K w c dv mv vv bv) (hK : ∀ k, K k → k < w.heap.size) :
    Calls Tryz.prog 35 #[ckv c dv mv vv bv] w fun e w' => ∃ g v, e = .returned (wpt (some g)) ∧ WNew w.heap.size w w' g v (headW c) := by
  obtain ⟨seq, dims, meas, views, bats⟩ := c
  unfold ckv
  obtain ⟨A1, n1, k1, A2, n2, k2, A3, n3, k3, A4, n4, k4, rfl, rfl, rfl, rfl⟩ := h.forms
  obtain ⟨_, _, e3', hm3, _⟩ := h.views
  obtain ⟨_, _, e4', hm4, _⟩ := h.bats
  have en3 : n3 = views.length := by simpa using congrArg (fun v : Value => match v with | .slice _ n _ => n | _ => 0) e3'
  have en4 : n4 = bats.length := by simpa using congrArg (fun v : Value => match v with | .slice _ n _ => n | _ => 0) e4'
  obtain ⟨B, hB⟩ : ∃ B, w.heap.size = B := ⟨_, rfl⟩
  obtain ⟨wa, hwa⟩ : ∃ wa, w.alloc (.cells #[.int .i64 seq, .slice A1 n1 k1, .slice A2 n2 k2, .slice A3 n3 k3, .slice A4 n4 k4] 28) = wa := ⟨_, rfl⟩
  have hbx : Blk wa B 28 #[.int .i64 seq, .slice A1 n1 k1, .slice A2 n2 k2, .slice A3 n3 k3, .slice A4 n4 k4] := by rw [← hwa, ← hB]; exact Blk.new w 28 _
  have bw : Below B w wa := by rw [← hwa, ← hB]; exact (Below.refl _ _).alloc (Nat.le_refl _) _
  have hsa : wa.heap.size = B + 1 := by rw [← hwa, ← hB]; simp
  obtain ⟨wb, hwb⟩ : ∃ wb, wa.alloc (.cells #[.slice none 0 0, .int .i64 0] 78) = wb := ⟨_, rfl⟩
  have hN0 : WNew (B + 1) wa wb (B + 1) (.slice none 0 0) WS.zero := by
    refine ⟨by rw [← hwb, ← hsa]; exact WAt.new wa, by rw [← hwb]; exact (Below.refl _ _).alloc (by omega) _, Nat.le_refl _, by simp [Value.ownBlock]⟩
  have hKB : ∀ k, K k → k < B + 1 := fun k hk => by have := hK k hk; omega
  -- what lies in the box, in any later world
  have hx : ∀ (w1 : World) (v : Value) (S : WS), WNew (B + 1) wa w1 (B + 1) v S → Blk w1 B 28 #[.int .i64 seq, .slice A1 n1 k1, .slice A2 n2 k2, .slice A3 n3 k3, .slice A4 n4 k4] := fun _ _ _ h => hbx.of (h.2.1.block B (by omega))
  have hck : ∀ (w1 : World) (v : Value) (S : WS), WNew (B + 1) wa w1 (B + 1) v S → CkAt K w1 ⟨seq, dims, meas, views, bats⟩ (.slice A1 n1 k1) (.slice A2 n2 k2) (.slice A3 n3 k3) (.slice A4 n4 k4) := fun w1 v S h1 => h.of fun k hk => by
    have := hK k hk
    rw [h1.2.1.block k (by omega), bw.block k (by omega)]
  have hsz : ∀ (w1 : World) (v : Value) (S : WS), WNew (B + 1) wa w1 (B + 1) v S → B + 1 ≤ w1.heap.size := fun _ _ _ h1 => by have := h1.size; omega
  have HX := Lib.hid hx
  have HCK := Lib.hid hck
  have HSZ := Lib.hid hsz
  have HKB := Lib.hid hKB
  have HH : Hid (headW ⟨seq, dims, meas, views, bats⟩ = (views.foldl WS.int (((WS.zero.int seq).schema dims meas).count views.length)).count bats.length) := Lib.hid rfl
  have HBW := Lib.hid bw
  have HN0 := Lib.hid hN0
  have HWA := Lib.hid hwa
  have HWB := Lib.hid hwb
  have HB := Lib.hid hB
  have HN3 := Lib.hid en3
  have HN4 := Lib.hid en4
  have hb3 : n3 ≤ 9223372036854775807 := by have h3 : views.length ≤ maxLen := hm3; unfold maxLen at h3; omega
  clear hbx bw hsa hN0 hwb hwa hKB hx hck hsz h hK e3' e4' hm3 hm4 en3 en4 hB
  go_enter Tryz.func35, Tryz.ntmps35
  go_wp2_with fail
  rw [HWA.out, HWB.out, HB.out]
  have C1 := wint_any (some (B + 1)) _ _ seq wb HN0.out.1
  rw [wpt_some] at C1
  refine C1.mono ?_
  clear C1
  intro e w1 hw
  obtain ⟨rfl, v1, h1⟩ := HN0.out.call (HSZ.out _ _ _ HN0.out) hw
  have C2 := wschema_any (some (B + 1)) v1 _ K _ _ dims meas w1 h1.1 (HCK.out _ _ _ h1).dims (HCK.out _ _ _ h1).meas (h1.off HKB.out (HSZ.out _ _ _ h1))
  rw [wpt_some] at C2
  have HC2 := Lib.hid C2
  have x1 : w1.cell? ⟨B, 1, none⟩ = some (.slice A1 n1 k1) := (HX.out _ _ _ h1).cell 1
  have x2 : w1.cell? ⟨B, 2, none⟩ = some (.slice A2 n2 k2) := (HX.out _ _ _ h1).cell 2
  have H1 := Lib.hid h1
  clear C2 h1 hw
  go_wp2_with fail
  refine HC2.out.mono ?_
  clear HC2 x1 x2
  intro e w2 hw
  obtain ⟨rfl, v2, h2⟩ := H1.out.call (HSZ.out _ _ _ H1.out) hw
  have C3 := wcount_any (some (B + 1)) v2 _ (n3 : Int) w2 h2.1
  rw [wpt_some] at C3
  have HC3 := Lib.hid C3
  have x3 : w2.cell? ⟨B, 3, none⟩ = some (.slice A3 n3 k3) := (HX.out _ _ _ h2).cell 3
  have H2 := Lib.hid h2
  clear C3 h2 hw H1
  go_wp2_with fail
  refine HC3.out.mono ?_
  clear HC3 x3
  intro e w3 hw
  obtain ⟨rfl, v3, h3⟩ := H2.out.call (HSZ.out _ _ _ H2.out) hw
  have x3 : w3.cell? ⟨B, 3, none⟩ = some (.slice A3 n3 k3) := (HX.out _ _ _ h3).cell 3
  have H3 := Lib.hid h3
  clear h3 hw H2
  obtain ⟨S3, hS3⟩ : ∃ S3, (((WS.zero.int seq).schema dims meas).count (n3 : Int)) = S3 := ⟨_, rfl⟩
  have HH2 : Hid (headW ⟨seq, dims, meas, views, bats⟩ = (views.foldl WS.int S3).count (n4 : Int)) := Lib.hid (by rw [HH.out, ← HN3.out, ← HN4.out, hS3])
  rw [hS3] at H3
  clear hS3 HH
  go_wp2
  go_loopw [24] (fun i wr => ∃ j : Nat, ∃ v, j ≤ n3 ∧ i = .int .i64 j ∧ WNew (B + 1) wa wr (B + 1) v ((views.take j).foldl WS.int S3)) (fun i _ => n3 - (intOf i).toNat)
  case atStart => exact ⟨0, v3, by omega, rfl, H3.out⟩
  case round =>
    obtain ⟨j, v4, hj, rfl, h4⟩ := hrel
    by_cases hlt : j < n3
    · have hjl : j < views.length := by rw [← HN3.out]; exact hlt
      obtain ⟨A', c', e', _, hel⟩ := (HCK.out _ _ _ h4).views
      injection e' with ea eb ec
      subst ea
      obtain ⟨g, off, rfl, hg, hcell⟩ := hel (by omega)
      obtain ⟨cs, hlen, hcs2, rfl, hmx⟩ := hcell j hjl
      have hc : _ = some (Value.int .i64 views[j]) := hcs2 0 (by omega)
      simp only [Nat.mul_one, Nat.add_zero] at hc
      have C4 := wint_any (some (B + 1)) v4 _ views[j] wr h4.1
      rw [wpt_some] at C4
      have HC4 := Lib.hid C4
      have H4 := Lib.hid h4
      clear hcell hcs2 h4 hlen hmx C4 hel eb ec
      go_wp2_with fail
      refine HC4.out.mono ?_
      clear HC4
      intro e w5 hw
      obtain ⟨rfl, v5, h5⟩ := H4.out.call (HSZ.out _ _ _ H4.out) hw
      have H5 := Lib.hid h5
      clear h5 hw H4 hc
      go_wp2
      go_roundw
      case rel => exact ⟨j + 1, v5, by omega, by go_num, by rw [fold_snoc _ _ _ _ hjl]; exact H5.out⟩
      case measure => simp [intOf]; omega
    · obtain rfl : j = n3 := by omega
      have C6 := wcount_any (some (B + 1)) v4 _ (n4 : Int) wr h4.1
      rw [wpt_some] at C6
      have HC6 := Lib.hid C6
      have x4 : wr.cell? ⟨B, 4, none⟩ = some (.slice A4 n4 k4) := (HX.out _ _ _ h4).cell 4
      have H4 := Lib.hid h4
      clear h4 C6
      go_wp2_with fail
      refine HC6.out.mono ?_
      clear HC6
      intro e w6 hw
      obtain ⟨rfl, v6, h6⟩ := H4.out.call (HSZ.out _ _ _ H4.out) hw
      have H6 := Lib.hid h6
      clear h6 hw H4 x4
      go_wp2
      go_ret
      refine ⟨B + 1, v6, rfl, ?_⟩
      rw [HH2.out]
      have h6 := H6.out
      rw [HN3.out, List.take_length] at h6
      rw [HB.out]
      exact ⟨h6.1, HBW.out.trans (h6.2.1.mono (by omega)), by omega, fun k hk => by have := h6.2.2.2 k hk; omega⟩
end Go.Proofs.YtoaiofjcjjkfaaaGreatDoor
