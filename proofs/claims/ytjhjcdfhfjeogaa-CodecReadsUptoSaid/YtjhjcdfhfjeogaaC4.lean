/- A reader takes up a cell. -/
import Derived.Test.YtjhjcdfhfjeogaaC3
namespace Go.Proofs.Ytjhjcdfhfjeogaa
open Go.RowKit Go.Maps
set_option linter.unusedVariables false

def RS.cellV (S1 : RS) (k : Nat) : CellP × RS :=
  if k = 0 then (⟨0, 0, []⟩, S1) else if k = 1 then (⟨1, S1.int.1, []⟩, S1.int.2) else if k = 2 then (⟨2, 0, S1.text.1⟩, S1.text.2) else (⟨k, 0, []⟩, S1.fail 22)
def CellP.zero : CellP := ⟨0, 0, []⟩
def RS.cell (S : RS) : CellP × RS := (if (S.byte.2.cellV S.byte.1).2.fault = 0 then (S.byte.2.cellV S.byte.1).1 else CellP.zero, (S.byte.2.cellV S.byte.1).2)
theorem told90c (p : Option Nat) (S : RS) (c : CellP) (w : World) (h : RAt w p S) : Calls Try.prog 90 #[wpt p, .agg #[.int .i64 c.kind, .int .i64 c.int, sv c.text]] w fun e w' => e = .returned (.agg #[.int .i64 (if S.fault = 0 then c else CellP.zero).kind, .int .i64 (if S.fault = 0 then c else CellP.zero).int, sv (if S.fault = 0 then c else CellP.zero).text]) ∧ Below w.heap.size w w' := by
  have := told90 p S c.kind c.int c.text w h
  by_cases h0 : S.fault = 0
  · rw [if_pos h0] at this ⊢; exact this
  · rw [if_neg h0] at this ⊢; exact this
theorem RAt.fr {w w' : World} {p : Option Nat} {S : RS} (h : RAt w p S) {F : Nat → Prop} (hf : Fr F w w') (hF : ∀ k, F k → ¬ RFt p k) : RAt w' p S := h.of fun k hk => hf.block k (h.lt k hk) fun hF' => hF k hF' hk

set_option maxRecDepth 100000 in
set_option maxHeartbeats 2000000 in
theorem rcell_0 (p : Option Nat) (S : RS) (w : World) (h : RAt w p S) (hk : S.byte.1 = 0) : Calls Try.prog 61 #[wpt p] w (RP p w S.cell.1.val S.cell.2) := by
  have HB0 : Hid (∀ w, RAt w p S → Calls Try.prog 33 #[wpt p] w (RP p w (.int .u8 (S.byte.1 : Nat)) S.byte.2)) := Lib.hid fun w h => rbyte_any p S w h
  have HV : Hid (S.cell = (if (S.byte.2.cellV S.byte.1).2.fault = 0 then (S.byte.2.cellV S.byte.1).1 else CellP.zero, (S.byte.2.cellV S.byte.1).2)) := Lib.hid rfl
  rw [hk] at HB0 HV
  clear hk
  generalize S.byte.2 = S1 at *
  obtain ⟨w0, hw0⟩ : ∃ w0, w.alloc (.cells #[.int .i64 0, .int .i64 0, .string ⟨#[]⟩] 93) = w0 := ⟨_, rfl⟩
  obtain ⟨gr, hgr⟩ : ∃ gr, w.heap.size = gr := ⟨_, rfl⟩
  have h0 : RAt w0 p S := by rw [← hw0]; exact h.alloc _
  have hb0 : Blk w0 gr 93 #[.int .i64 0, .int .i64 0, .string ⟨#[]⟩] := by rw [← hw0, ← hgr]; exact Blk.new w 93 _
  have hf0 : Fr (RFt p) w w0 := by rw [← hw0]; exact (Fr.refl _ w).alloc _
  have hnr : ¬ RFt p gr := fun e => by have := h.lt gr e; omega
  have H0 := Lib.hid (HB0.out w0 h0)
  have X0 := Lib.hid hb0
  have F0 := Lib.hid hf0
  have NR := Lib.hid hnr
  have GR := Lib.hid hgr
  clear h h0 hb0 hf0 hnr HB0
  generalize hP : wpt p = P at *
  have HP := Lib.hid hP
  clear hP
  go_enter Try.func61, Try.ntmps61
  go_wp2_with fail
  refine H0.out.mono ?_
  rintro e w1 ⟨rfl, h1, f1⟩
  have hx1 : Blk w1 gr 93 #[.int .i64 0, .int .i64 0, .string ⟨#[]⟩] := X0.out.of (f1.block gr X0.out.lt NR.out)
  have F1 := Lib.hid (F0.out.then f1)
  have X1 := Lib.hid hx1
  obtain ⟨w2, hw2⟩ : ∃ w2, w1.alloc (.cells #[.int .i64 0, .int .i64 0, .string ⟨#[]⟩] 93) = w2 := ⟨_, rfl⟩
  obtain ⟨g3, hg3⟩ : ∃ g3, w1.heap.size = g3 := ⟨_, rfl⟩
  have h2 : RAt w2 p S1 := by rw [← hw2]; exact h1.alloc _
  have hb2 : Blk w2 g3 93 #[.int .i64 0, .int .i64 0, .string ⟨#[]⟩] := by rw [← hw2, ← hg3]; exact Blk.new w1 93 _
  have hf2 : Fr No w1 w2 := by rw [← hw2]; exact (Fr.refl _ w1).alloc _
  have hx2 : Blk w2 gr 93 #[.int .i64 0, .int .i64 0, .string ⟨#[]⟩] := hx1.of (hf2.block gr hx1.lt id)
  have hn3 : ¬ RFt p g3 := fun e => by have := h1.lt g3 e; omega
  have hne : gr ≠ g3 := by have := hx1.lt; omega
  have hg3w : w.heap.size ≤ g3 := by have := F1.out.size; omega
  have H2 := Lib.hid h2
  have X2 := Lib.hid hx2
  have B2 := Lib.hid hb2
  have F2 := Lib.hid (F1.out.then hf2.any)
  have N3 := Lib.hid hn3
  have NE := Lib.hid hne
  have G3 := Lib.hid hg3w
  have c0 : w2.cell? ⟨g3, 0, none⟩ = some (.int .i64 0) := hb2.cell 0
  have c1 : w2.cell? ⟨g3, 1, none⟩ = some (.int .i64 0) := hb2.cell 1
  have c2 : w2.cell? ⟨g3, 2, none⟩ = some (.string ⟨#[]⟩) := hb2.cell 2
  have HW2 := Lib.hid hw2
  have HG3 := Lib.hid hg3
  clear h1 f1 hx1 h2 hb2 hf2 hx2 hn3 hne hg3w hw0 hgr hw2 hg3
  go_wp2_with fail
  rw [HW2.out, HG3.out]
  rw [← HP.out]
  refine (told90c p S1 ⟨0, 0, []⟩ w2 H2.out).mono ?_
  rintro e w7 ⟨rfl, hb7⟩
  have h7 := Lib.hid (H2.out.below hb7)
  have F7 : Hid (Fr (RFt p) w w7) := Lib.hid (F2.out.then (Fr.of_below hb7).any)
  have hx7 : Blk w7 gr 93 #[.int .i64 0, .int .i64 0, .string ⟨#[]⟩] := X2.out.of (hb7.block gr X2.out.lt)
  have HX7 := Lib.hid hx7
  have z0 : w7.cell? ⟨gr, 0, none⟩ = some (.int .i64 0) := hx7.cell 0
  have z1 : w7.cell? ⟨gr, 1, none⟩ = some (.int .i64 0) := hx7.cell 1
  have z2 : w7.cell? ⟨gr, 2, none⟩ = some (.string ⟨#[]⟩) := hx7.cell 2
  have y0 := hx7.frozen 0
  have y1 := hx7.frozen 1
  have y2 := hx7.frozen 2
  have HC : Hid (S.cell = (if (S1).fault = 0 then ⟨0, 0, []⟩ else CellP.zero, S1)) := Lib.hid (by rw [HV.out]; rfl)
  clear hb7 hx7 c0 c1 c2
  generalize (if (S1).fault = 0 then ⟨0, 0, []⟩ else CellP.zero) = c at *
  go_wp2
  refine bodyPost_ret (v := .agg #[.int .i64 c.kind, .int .i64 c.int, sv c.text]) (by simp [results, Try.results61, go_sem, z0, z1, z2]) rfl ?_
  have NRR := NR.out
  have hfin : ∀ (u0 u1 u2 : Value) (w8 : World), ((w7.setCell ⟨gr, 0, none⟩ u0).setCell ⟨gr, 1, none⟩ u1).setCell ⟨gr, 2, none⟩ u2 = w8 → RAt w8 p (S1) ∧ Fr (RFt p) w w8 := by
    rintro u0 u1 u2 w8 rfl
    have hg : ∀ j, RFt p j → j ≠ gr := fun j hj e => NRR (e ▸ hj)
    refine ⟨h7.out.of fun j hj => ?_, ?_⟩
    · rw [Below.heap_setCell _ _ _ j (hg j hj), Below.heap_setCell _ _ _ j (hg j hj), Below.heap_setCell _ _ _ j (hg j hj)]
    · have hlt : ¬ gr < w.heap.size := by have := GR.out; omega
      exact ((F7.out.setCell (p := ⟨gr, 0, none⟩) (fun h => absurd h hlt) _).setCell (p := ⟨gr, 1, none⟩) (fun h => absurd h hlt) _).setCell (p := ⟨gr, 2, none⟩) (fun h => absurd h hlt) _
  obtain ⟨q1, q2⟩ := hfin _ _ _ _ rfl
  exact ⟨by rw [HC.out]; rfl, by rw [HC.out]; exact q1, q2⟩
set_option maxRecDepth 100000 in
set_option maxHeartbeats 2000000 in
theorem rcell_1 (p : Option Nat) (S : RS) (w : World) (h : RAt w p S) (hk : S.byte.1 = 1) : Calls Try.prog 61 #[wpt p] w (RP p w S.cell.1.val S.cell.2) := by
  have HB0 : Hid (∀ w, RAt w p S → Calls Try.prog 33 #[wpt p] w (RP p w (.int .u8 (S.byte.1 : Nat)) S.byte.2)) := Lib.hid fun w h => rbyte_any p S w h
  have HV : Hid (S.cell = (if (S.byte.2.cellV S.byte.1).2.fault = 0 then (S.byte.2.cellV S.byte.1).1 else CellP.zero, (S.byte.2.cellV S.byte.1).2)) := Lib.hid rfl
  rw [hk] at HB0 HV
  clear hk
  generalize S.byte.2 = S1 at *
  obtain ⟨w0, hw0⟩ : ∃ w0, w.alloc (.cells #[.int .i64 0, .int .i64 0, .string ⟨#[]⟩] 93) = w0 := ⟨_, rfl⟩
  obtain ⟨gr, hgr⟩ : ∃ gr, w.heap.size = gr := ⟨_, rfl⟩
  have h0 : RAt w0 p S := by rw [← hw0]; exact h.alloc _
  have hb0 : Blk w0 gr 93 #[.int .i64 0, .int .i64 0, .string ⟨#[]⟩] := by rw [← hw0, ← hgr]; exact Blk.new w 93 _
  have hf0 : Fr (RFt p) w w0 := by rw [← hw0]; exact (Fr.refl _ w).alloc _
  have hnr : ¬ RFt p gr := fun e => by have := h.lt gr e; omega
  have H0 := Lib.hid (HB0.out w0 h0)
  have X0 := Lib.hid hb0
  have F0 := Lib.hid hf0
  have NR := Lib.hid hnr
  have GR := Lib.hid hgr
  clear h h0 hb0 hf0 hnr HB0
  generalize hP : wpt p = P at *
  have HP := Lib.hid hP
  clear hP
  go_enter Try.func61, Try.ntmps61
  go_wp2_with fail
  refine H0.out.mono ?_
  rintro e w1 ⟨rfl, h1, f1⟩
  have hx1 : Blk w1 gr 93 #[.int .i64 0, .int .i64 0, .string ⟨#[]⟩] := X0.out.of (f1.block gr X0.out.lt NR.out)
  have F1 := Lib.hid (F0.out.then f1)
  have X1 := Lib.hid hx1
  obtain ⟨w2, hw2⟩ : ∃ w2, w1.alloc (.cells #[.int .i64 1, .int .i64 0, .string ⟨#[]⟩] 93) = w2 := ⟨_, rfl⟩
  obtain ⟨g3, hg3⟩ : ∃ g3, w1.heap.size = g3 := ⟨_, rfl⟩
  have h2 : RAt w2 p S1 := by rw [← hw2]; exact h1.alloc _
  have hb2 : Blk w2 g3 93 #[.int .i64 1, .int .i64 0, .string ⟨#[]⟩] := by rw [← hw2, ← hg3]; exact Blk.new w1 93 _
  have hf2 : Fr No w1 w2 := by rw [← hw2]; exact (Fr.refl _ w1).alloc _
  have hx2 : Blk w2 gr 93 #[.int .i64 0, .int .i64 0, .string ⟨#[]⟩] := hx1.of (hf2.block gr hx1.lt id)
  have hn3 : ¬ RFt p g3 := fun e => by have := h1.lt g3 e; omega
  have hne : gr ≠ g3 := by have := hx1.lt; omega
  have hg3w : w.heap.size ≤ g3 := by have := F1.out.size; omega
  have H2 := Lib.hid h2
  have X2 := Lib.hid hx2
  have B2 := Lib.hid hb2
  have F2 := Lib.hid (F1.out.then hf2.any)
  have N3 := Lib.hid hn3
  have NE := Lib.hid hne
  have G3 := Lib.hid hg3w
  have c0 : w2.cell? ⟨g3, 0, none⟩ = some (.int .i64 1) := hb2.cell 0
  have c1 : w2.cell? ⟨g3, 1, none⟩ = some (.int .i64 0) := hb2.cell 1
  have c2 : w2.cell? ⟨g3, 2, none⟩ = some (.string ⟨#[]⟩) := hb2.cell 2
  have HW2 := Lib.hid hw2
  have HG3 := Lib.hid hg3
  clear h1 f1 hx1 h2 hb2 hf2 hx2 hn3 hne hg3w hw0 hgr hw2 hg3
  go_wp2_with fail
  rw [HW2.out, HG3.out]
  rw [← HP.out]
  refine (rint_any p S1 w2 H2.out).mono ?_
  rintro e w3 ⟨rfl, h3, f3⟩
  have hb3 := B2.out.of (f3.block g3 B2.out.lt N3.out)
  have hx3 := X2.out.of (f3.block gr X2.out.lt NR.out)
  have c3 : w3.cell? ⟨g3, 1, none⟩ = some (Value.int .i64 0) := hb3.cell 1
  have z3 : w3.frozen? ⟨g3, 1, none⟩ = false := hb3.frozen 1
  obtain ⟨w4, hw4⟩ : ∃ w4, w3.setCell ⟨g3, 1, none⟩ (.int .i64 S1.int.1) = w4 := ⟨_, rfl⟩
  have hb4 : Blk w4 g3 93 #[.int .i64 1, .int .i64 S1.int.1, .string ⟨#[]⟩] := by rw [← hw4]; exact hb3.set_ 1 _
  have hx4 : Blk w4 gr 93 #[.int .i64 0, .int .i64 0, .string ⟨#[]⟩] := by rw [← hw4]; exact hx3.of (Below.heap_setCell _ _ _ gr NE.out)
  have h4 : RAt w4 p S1.int.2 := by rw [← hw4]; exact h3.of fun j hj => Below.heap_setCell _ _ _ j (fun e => N3.out (by have e' : j = g3 := e; rw [← e']; exact hj))
  have f4 : Fr (RFt p) w w4 := by
    rw [← hw4]
    exact (F2.out.then f3).setCell (p := ⟨g3, 1, none⟩) (fun h => absurd h (by have := G3.out; show ¬ g3 < w.heap.size; omega)) _
  have H4 := Lib.hid h4
  have X4 := Lib.hid hx4
  have F4 := Lib.hid f4
  have d0 : w4.cell? ⟨g3, 0, none⟩ = _ := hb4.cell 0
  have d1 : w4.cell? ⟨g3, 1, none⟩ = _ := hb4.cell 1
  have d2 : w4.cell? ⟨g3, 2, none⟩ = _ := hb4.cell 2
  simp only [List.getElem?_toArray, List.getElem?_cons_zero, List.getElem?_cons_succ] at d0 d1 d2
  have HW4 := Lib.hid hw4
  clear h3 f3 hb3 hx3 hb4 hx4 h4 f4 c0 c1 c2
  rw [HP.out]
  go_wp2_with fail
  rw [← HP.out]
  refine (told90c p S1.int.2 ⟨1, S1.int.1, []⟩ w4 H4.out).mono ?_
  rintro e w7 ⟨rfl, hb7⟩
  have h7 := Lib.hid (H4.out.below hb7)
  have F7 : Hid (Fr (RFt p) w w7) := Lib.hid (F4.out.then (Fr.of_below hb7).any)
  have hx7 : Blk w7 gr 93 #[.int .i64 0, .int .i64 0, .string ⟨#[]⟩] := X4.out.of (hb7.block gr X4.out.lt)
  have HX7 := Lib.hid hx7
  have z0 : w7.cell? ⟨gr, 0, none⟩ = some (.int .i64 0) := hx7.cell 0
  have z1 : w7.cell? ⟨gr, 1, none⟩ = some (.int .i64 0) := hx7.cell 1
  have z2 : w7.cell? ⟨gr, 2, none⟩ = some (.string ⟨#[]⟩) := hx7.cell 2
  have y0 := hx7.frozen 0
  have y1 := hx7.frozen 1
  have y2 := hx7.frozen 2
  have HC : Hid (S.cell = (if (S1.int.2).fault = 0 then ⟨1, S1.int.1, []⟩ else CellP.zero, S1.int.2)) := Lib.hid (by rw [HV.out]; rfl)
  clear hb7 hx7 d0 d1 d2 c3 z3 hw4
  generalize (if (S1.int.2).fault = 0 then ⟨1, S1.int.1, []⟩ else CellP.zero) = c at *
  go_wp2
  refine bodyPost_ret (v := .agg #[.int .i64 c.kind, .int .i64 c.int, sv c.text]) (by simp [results, Try.results61, go_sem, z0, z1, z2]) rfl ?_
  have NRR := NR.out
  have hfin : ∀ (u0 u1 u2 : Value) (w8 : World), ((w7.setCell ⟨gr, 0, none⟩ u0).setCell ⟨gr, 1, none⟩ u1).setCell ⟨gr, 2, none⟩ u2 = w8 → RAt w8 p (S1.int.2) ∧ Fr (RFt p) w w8 := by
    rintro u0 u1 u2 w8 rfl
    have hg : ∀ j, RFt p j → j ≠ gr := fun j hj e => NRR (e ▸ hj)
    refine ⟨h7.out.of fun j hj => ?_, ?_⟩
    · rw [Below.heap_setCell _ _ _ j (hg j hj), Below.heap_setCell _ _ _ j (hg j hj), Below.heap_setCell _ _ _ j (hg j hj)]
    · have hlt : ¬ gr < w.heap.size := by have := GR.out; omega
      exact ((F7.out.setCell (p := ⟨gr, 0, none⟩) (fun h => absurd h hlt) _).setCell (p := ⟨gr, 1, none⟩) (fun h => absurd h hlt) _).setCell (p := ⟨gr, 2, none⟩) (fun h => absurd h hlt) _
  obtain ⟨q1, q2⟩ := hfin _ _ _ _ rfl
  exact ⟨by rw [HC.out]; rfl, by rw [HC.out]; exact q1, q2⟩
set_option maxRecDepth 100000 in
set_option maxHeartbeats 2000000 in
theorem rcell_2 (p : Option Nat) (S : RS) (w : World) (h : RAt w p S) (hk : S.byte.1 = 2) : Calls Try.prog 61 #[wpt p] w (RP p w S.cell.1.val S.cell.2) := by
  have HB0 : Hid (∀ w, RAt w p S → Calls Try.prog 33 #[wpt p] w (RP p w (.int .u8 (S.byte.1 : Nat)) S.byte.2)) := Lib.hid fun w h => rbyte_any p S w h
  have HV : Hid (S.cell = (if (S.byte.2.cellV S.byte.1).2.fault = 0 then (S.byte.2.cellV S.byte.1).1 else CellP.zero, (S.byte.2.cellV S.byte.1).2)) := Lib.hid rfl
  rw [hk] at HB0 HV
  clear hk
  generalize S.byte.2 = S1 at *
  obtain ⟨w0, hw0⟩ : ∃ w0, w.alloc (.cells #[.int .i64 0, .int .i64 0, .string ⟨#[]⟩] 93) = w0 := ⟨_, rfl⟩
  obtain ⟨gr, hgr⟩ : ∃ gr, w.heap.size = gr := ⟨_, rfl⟩
  have h0 : RAt w0 p S := by rw [← hw0]; exact h.alloc _
  have hb0 : Blk w0 gr 93 #[.int .i64 0, .int .i64 0, .string ⟨#[]⟩] := by rw [← hw0, ← hgr]; exact Blk.new w 93 _
  have hf0 : Fr (RFt p) w w0 := by rw [← hw0]; exact (Fr.refl _ w).alloc _
  have hnr : ¬ RFt p gr := fun e => by have := h.lt gr e; omega
  have H0 := Lib.hid (HB0.out w0 h0)
  have X0 := Lib.hid hb0
  have F0 := Lib.hid hf0
  have NR := Lib.hid hnr
  have GR := Lib.hid hgr
  clear h h0 hb0 hf0 hnr HB0
  generalize hP : wpt p = P at *
  have HP := Lib.hid hP
  clear hP
  go_enter Try.func61, Try.ntmps61
  go_wp2_with fail
  refine H0.out.mono ?_
  rintro e w1 ⟨rfl, h1, f1⟩
  have hx1 : Blk w1 gr 93 #[.int .i64 0, .int .i64 0, .string ⟨#[]⟩] := X0.out.of (f1.block gr X0.out.lt NR.out)
  have F1 := Lib.hid (F0.out.then f1)
  have X1 := Lib.hid hx1
  obtain ⟨w2, hw2⟩ : ∃ w2, w1.alloc (.cells #[.int .i64 2, .int .i64 0, .string ⟨#[]⟩] 93) = w2 := ⟨_, rfl⟩
  obtain ⟨g3, hg3⟩ : ∃ g3, w1.heap.size = g3 := ⟨_, rfl⟩
  have h2 : RAt w2 p S1 := by rw [← hw2]; exact h1.alloc _
  have hb2 : Blk w2 g3 93 #[.int .i64 2, .int .i64 0, .string ⟨#[]⟩] := by rw [← hw2, ← hg3]; exact Blk.new w1 93 _
  have hf2 : Fr No w1 w2 := by rw [← hw2]; exact (Fr.refl _ w1).alloc _
  have hx2 : Blk w2 gr 93 #[.int .i64 0, .int .i64 0, .string ⟨#[]⟩] := hx1.of (hf2.block gr hx1.lt id)
  have hn3 : ¬ RFt p g3 := fun e => by have := h1.lt g3 e; omega
  have hne : gr ≠ g3 := by have := hx1.lt; omega
  have hg3w : w.heap.size ≤ g3 := by have := F1.out.size; omega
  have H2 := Lib.hid h2
  have X2 := Lib.hid hx2
  have B2 := Lib.hid hb2
  have F2 := Lib.hid (F1.out.then hf2.any)
  have N3 := Lib.hid hn3
  have NE := Lib.hid hne
  have G3 := Lib.hid hg3w
  have c0 : w2.cell? ⟨g3, 0, none⟩ = some (.int .i64 2) := hb2.cell 0
  have c1 : w2.cell? ⟨g3, 1, none⟩ = some (.int .i64 0) := hb2.cell 1
  have c2 : w2.cell? ⟨g3, 2, none⟩ = some (.string ⟨#[]⟩) := hb2.cell 2
  have HW2 := Lib.hid hw2
  have HG3 := Lib.hid hg3
  clear h1 f1 hx1 h2 hb2 hf2 hx2 hn3 hne hg3w hw0 hgr hw2 hg3
  go_wp2_with fail
  rw [HW2.out, HG3.out]
  rw [← HP.out]
  refine (rtext_any p S1 w2 H2.out).mono ?_
  rintro e w3 ⟨rfl, h3, f3⟩
  have hb3 := B2.out.of (f3.block g3 B2.out.lt N3.out)
  have hx3 := X2.out.of (f3.block gr X2.out.lt NR.out)
  have c3 : w3.cell? ⟨g3, 2, none⟩ = some (Value.string ⟨#[]⟩) := hb3.cell 2
  have z3 : w3.frozen? ⟨g3, 2, none⟩ = false := hb3.frozen 2
  obtain ⟨w4, hw4⟩ : ∃ w4, w3.setCell ⟨g3, 2, none⟩ (sv S1.text.1) = w4 := ⟨_, rfl⟩
  have hb4 : Blk w4 g3 93 #[.int .i64 2, .int .i64 0, sv S1.text.1] := by rw [← hw4]; exact hb3.set_ 2 _
  have hx4 : Blk w4 gr 93 #[.int .i64 0, .int .i64 0, .string ⟨#[]⟩] := by rw [← hw4]; exact hx3.of (Below.heap_setCell _ _ _ gr NE.out)
  have h4 : RAt w4 p S1.text.2 := by rw [← hw4]; exact h3.of fun j hj => Below.heap_setCell _ _ _ j (fun e => N3.out (by have e' : j = g3 := e; rw [← e']; exact hj))
  have f4 : Fr (RFt p) w w4 := by
    rw [← hw4]
    exact (F2.out.then f3).setCell (p := ⟨g3, 2, none⟩) (fun h => absurd h (by have := G3.out; show ¬ g3 < w.heap.size; omega)) _
  have H4 := Lib.hid h4
  have X4 := Lib.hid hx4
  have F4 := Lib.hid f4
  have d0 : w4.cell? ⟨g3, 0, none⟩ = _ := hb4.cell 0
  have d1 : w4.cell? ⟨g3, 1, none⟩ = _ := hb4.cell 1
  have d2 : w4.cell? ⟨g3, 2, none⟩ = _ := hb4.cell 2
  simp only [List.getElem?_toArray, List.getElem?_cons_zero, List.getElem?_cons_succ] at d0 d1 d2
  have HW4 := Lib.hid hw4
  clear h3 f3 hb3 hx3 hb4 hx4 h4 f4 c0 c1 c2
  rw [HP.out]
  go_wp2_with fail
  rw [← HP.out]
  refine (told90c p S1.text.2 ⟨2, 0, S1.text.1⟩ w4 H4.out).mono ?_
  rintro e w7 ⟨rfl, hb7⟩
  have h7 := Lib.hid (H4.out.below hb7)
  have F7 : Hid (Fr (RFt p) w w7) := Lib.hid (F4.out.then (Fr.of_below hb7).any)
  have hx7 : Blk w7 gr 93 #[.int .i64 0, .int .i64 0, .string ⟨#[]⟩] := X4.out.of (hb7.block gr X4.out.lt)
  have HX7 := Lib.hid hx7
  have z0 : w7.cell? ⟨gr, 0, none⟩ = some (.int .i64 0) := hx7.cell 0
  have z1 : w7.cell? ⟨gr, 1, none⟩ = some (.int .i64 0) := hx7.cell 1
  have z2 : w7.cell? ⟨gr, 2, none⟩ = some (.string ⟨#[]⟩) := hx7.cell 2
  have y0 := hx7.frozen 0
  have y1 := hx7.frozen 1
  have y2 := hx7.frozen 2
  have HC : Hid (S.cell = (if (S1.text.2).fault = 0 then ⟨2, 0, S1.text.1⟩ else CellP.zero, S1.text.2)) := Lib.hid (by rw [HV.out]; rfl)
  clear hb7 hx7 d0 d1 d2 c3 z3 hw4
  generalize (if (S1.text.2).fault = 0 then ⟨2, 0, S1.text.1⟩ else CellP.zero) = c at *
  go_wp2
  refine bodyPost_ret (v := .agg #[.int .i64 c.kind, .int .i64 c.int, sv c.text]) (by simp [results, Try.results61, go_sem, z0, z1, z2]) rfl ?_
  have NRR := NR.out
  have hfin : ∀ (u0 u1 u2 : Value) (w8 : World), ((w7.setCell ⟨gr, 0, none⟩ u0).setCell ⟨gr, 1, none⟩ u1).setCell ⟨gr, 2, none⟩ u2 = w8 → RAt w8 p (S1.text.2) ∧ Fr (RFt p) w w8 := by
    rintro u0 u1 u2 w8 rfl
    have hg : ∀ j, RFt p j → j ≠ gr := fun j hj e => NRR (e ▸ hj)
    refine ⟨h7.out.of fun j hj => ?_, ?_⟩
    · rw [Below.heap_setCell _ _ _ j (hg j hj), Below.heap_setCell _ _ _ j (hg j hj), Below.heap_setCell _ _ _ j (hg j hj)]
    · have hlt : ¬ gr < w.heap.size := by have := GR.out; omega
      exact ((F7.out.setCell (p := ⟨gr, 0, none⟩) (fun h => absurd h hlt) _).setCell (p := ⟨gr, 1, none⟩) (fun h => absurd h hlt) _).setCell (p := ⟨gr, 2, none⟩) (fun h => absurd h hlt) _
  obtain ⟨q1, q2⟩ := hfin _ _ _ _ rfl
  exact ⟨by rw [HC.out]; rfl, by rw [HC.out]; exact q1, q2⟩
set_option maxRecDepth 100000 in
set_option maxHeartbeats 2000000 in
theorem rcell_x (p : Option Nat) (S : RS) (w : World) (h : RAt w p S) (k : Nat) (hk : S.byte.1 = k) (k0 : k ≠ 0) (k1 : k ≠ 1) (k2 : k ≠ 2) (hk8 : k < 256) : Calls Try.prog 61 #[wpt p] w (RP p w S.cell.1.val S.cell.2) := by
  have HB0 : Hid (∀ w, RAt w p S → Calls Try.prog 33 #[wpt p] w (RP p w (.int .u8 (S.byte.1 : Nat)) S.byte.2)) := Lib.hid fun w h => rbyte_any p S w h
  have HV : Hid (S.cell = (if (S.byte.2.cellV S.byte.1).2.fault = 0 then (S.byte.2.cellV S.byte.1).1 else CellP.zero, (S.byte.2.cellV S.byte.1).2)) := Lib.hid rfl
  rw [hk] at HB0 HV
  have HU : Hid (∀ S1' : RS, S1'.cellV k = (⟨k, 0, []⟩, S1'.fail 22)) := Lib.hid fun S1' => by unfold RS.cellV; rw [if_neg k0, if_neg k1, if_neg k2]
  have e0 : ((k : Int) == 0) = false := by rw [beq_eq_false_iff_ne]; omega
  have e1 : ((k : Int) == 1) = false := by rw [beq_eq_false_iff_ne]; omega
  have e2 : ((k : Int) == 2) = false := by rw [beq_eq_false_iff_ne]; omega
  clear hk k0 k1 k2
  generalize S.byte.2 = S1 at *
  obtain ⟨w0, hw0⟩ : ∃ w0, w.alloc (.cells #[.int .i64 0, .int .i64 0, .string ⟨#[]⟩] 93) = w0 := ⟨_, rfl⟩
  obtain ⟨gr, hgr⟩ : ∃ gr, w.heap.size = gr := ⟨_, rfl⟩
  have h0 : RAt w0 p S := by rw [← hw0]; exact h.alloc _
  have hb0 : Blk w0 gr 93 #[.int .i64 0, .int .i64 0, .string ⟨#[]⟩] := by rw [← hw0, ← hgr]; exact Blk.new w 93 _
  have hf0 : Fr (RFt p) w w0 := by rw [← hw0]; exact (Fr.refl _ w).alloc _
  have hnr : ¬ RFt p gr := fun e => by have := h.lt gr e; omega
  have H0 := Lib.hid (HB0.out w0 h0)
  have X0 := Lib.hid hb0
  have F0 := Lib.hid hf0
  have NR := Lib.hid hnr
  have GR := Lib.hid hgr
  clear h h0 hb0 hf0 hnr HB0
  generalize hP : wpt p = P at *
  have HP := Lib.hid hP
  clear hP
  go_enter Try.func61, Try.ntmps61
  go_wp2_with fail
  refine H0.out.mono ?_
  rintro e w1 ⟨rfl, h1, f1⟩
  have hx1 : Blk w1 gr 93 #[.int .i64 0, .int .i64 0, .string ⟨#[]⟩] := X0.out.of (f1.block gr X0.out.lt NR.out)
  have F1 := Lib.hid (F0.out.then f1)
  have X1 := Lib.hid hx1
  obtain ⟨w2, hw2⟩ : ∃ w2, w1.alloc (.cells #[.int .i64 (k : Int), .int .i64 0, .string ⟨#[]⟩] 93) = w2 := ⟨_, rfl⟩
  obtain ⟨g3, hg3⟩ : ∃ g3, w1.heap.size = g3 := ⟨_, rfl⟩
  have h2 : RAt w2 p S1 := by rw [← hw2]; exact h1.alloc _
  have hb2 : Blk w2 g3 93 #[.int .i64 (k : Int), .int .i64 0, .string ⟨#[]⟩] := by rw [← hw2, ← hg3]; exact Blk.new w1 93 _
  have hf2 : Fr No w1 w2 := by rw [← hw2]; exact (Fr.refl _ w1).alloc _
  have hx2 : Blk w2 gr 93 #[.int .i64 0, .int .i64 0, .string ⟨#[]⟩] := hx1.of (hf2.block gr hx1.lt id)
  have hn3 : ¬ RFt p g3 := fun e => by have := h1.lt g3 e; omega
  have hne : gr ≠ g3 := by have := hx1.lt; omega
  have hg3w : w.heap.size ≤ g3 := by have := F1.out.size; omega
  have H2 := Lib.hid h2
  have X2 := Lib.hid hx2
  have B2 := Lib.hid hb2
  have F2 := Lib.hid (F1.out.then hf2.any)
  have N3 := Lib.hid hn3
  have NE := Lib.hid hne
  have G3 := Lib.hid hg3w
  have c0 : w2.cell? ⟨g3, 0, none⟩ = some (.int .i64 (k : Int)) := hb2.cell 0
  have c1 : w2.cell? ⟨g3, 1, none⟩ = some (.int .i64 0) := hb2.cell 1
  have c2 : w2.cell? ⟨g3, 2, none⟩ = some (.string ⟨#[]⟩) := hb2.cell 2
  have HW2 := Lib.hid hw2
  have HG3 := Lib.hid hg3
  clear h1 f1 hx1 h2 hb2 hf2 hx2 hn3 hne hg3w hw0 hgr hw2 hg3
  go_wp2_with fail
  rw [HW2.out, HG3.out]
  rw [← HP.out]
  refine (rfail_any p S1 22 w2 H2.out).mono ?_
  rintro e w3 ⟨rfl, h3, f3⟩
  have hb3 := B2.out.of (f3.block g3 B2.out.lt N3.out)
  have hx3 := X2.out.of (f3.block gr X2.out.lt NR.out)
  have H4 := Lib.hid h3
  have X4 := Lib.hid hx3
  have F4 := Lib.hid (F2.out.then f3)
  have d0 : w3.cell? ⟨g3, 0, none⟩ = some (.int .i64 (k : Int)) := hb3.cell 0
  have d1 : w3.cell? ⟨g3, 1, none⟩ = some (.int .i64 0) := hb3.cell 1
  have d2 : w3.cell? ⟨g3, 2, none⟩ = some (.string ⟨#[]⟩) := hb3.cell 2
  clear h3 f3 hb3 hx3 c0 c1 c2
  rw [HP.out]
  go_wp2_with fail
  rw [← HP.out]
  refine (told90c p (S1.fail 22) ⟨k, 0, []⟩ w3 H4.out).mono ?_
  rintro e w7 ⟨rfl, hb7⟩
  have h7 := Lib.hid (H4.out.below hb7)
  have F7 : Hid (Fr (RFt p) w w7) := Lib.hid (F4.out.then (Fr.of_below hb7).any)
  have hx7 : Blk w7 gr 93 #[.int .i64 0, .int .i64 0, .string ⟨#[]⟩] := X4.out.of (hb7.block gr X4.out.lt)
  have HX7 := Lib.hid hx7
  have z0 : w7.cell? ⟨gr, 0, none⟩ = some (.int .i64 0) := hx7.cell 0
  have z1 : w7.cell? ⟨gr, 1, none⟩ = some (.int .i64 0) := hx7.cell 1
  have z2 : w7.cell? ⟨gr, 2, none⟩ = some (.string ⟨#[]⟩) := hx7.cell 2
  have y0 := hx7.frozen 0
  have y1 := hx7.frozen 1
  have y2 := hx7.frozen 2
  have HC : Hid (S.cell = (if ((S1.fail 22)).fault = 0 then ⟨k, 0, []⟩ else CellP.zero, (S1.fail 22))) := Lib.hid (by rw [HV.out, HU.out])
  clear hb7 hx7 d0 d1 d2
  generalize (if ((S1.fail 22)).fault = 0 then ⟨k, 0, []⟩ else CellP.zero) = c at *
  go_wp2
  refine bodyPost_ret (v := .agg #[.int .i64 c.kind, .int .i64 c.int, sv c.text]) (by simp [results, Try.results61, go_sem, z0, z1, z2]) rfl ?_
  have NRR := NR.out
  have hfin : ∀ (u0 u1 u2 : Value) (w8 : World), ((w7.setCell ⟨gr, 0, none⟩ u0).setCell ⟨gr, 1, none⟩ u1).setCell ⟨gr, 2, none⟩ u2 = w8 → RAt w8 p ((S1.fail 22)) ∧ Fr (RFt p) w w8 := by
    rintro u0 u1 u2 w8 rfl
    have hg : ∀ j, RFt p j → j ≠ gr := fun j hj e => NRR (e ▸ hj)
    refine ⟨h7.out.of fun j hj => ?_, ?_⟩
    · rw [Below.heap_setCell _ _ _ j (hg j hj), Below.heap_setCell _ _ _ j (hg j hj), Below.heap_setCell _ _ _ j (hg j hj)]
    · have hlt : ¬ gr < w.heap.size := by have := GR.out; omega
      exact ((F7.out.setCell (p := ⟨gr, 0, none⟩) (fun h => absurd h hlt) _).setCell (p := ⟨gr, 1, none⟩) (fun h => absurd h hlt) _).setCell (p := ⟨gr, 2, none⟩) (fun h => absurd h hlt) _
  obtain ⟨q1, q2⟩ := hfin _ _ _ _ rfl
  exact ⟨by rw [HC.out]; rfl, by rw [HC.out]; exact q1, q2⟩

theorem byte_lt (S : RS) : S.byte.1 < 256 := num_le _ 1 (take_len S 1)
theorem rcell_any (p : Option Nat) (S : RS) (w : World) (h : RAt w p S) : Calls Try.prog 61 #[wpt p] w (RP p w S.cell.1.val S.cell.2) := by
  by_cases h0 : S.byte.1 = 0
  · exact rcell_0 p S w h h0
  by_cases h1 : S.byte.1 = 1
  · exact rcell_1 p S w h h1
  by_cases h2 : S.byte.1 = 2
  · exact rcell_2 p S w h h2
  exact rcell_x p S w h _ rfl h0 h1 h2 (byte_lt S)
end Go.Proofs.Ytjhjcdfhfjeogaa
