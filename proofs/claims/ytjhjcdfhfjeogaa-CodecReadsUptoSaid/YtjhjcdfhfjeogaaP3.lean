/- The document's reader takes up a cell. -/
import Derived.Test.YtjhjcdfhfjeogaaP2
import Derived.Test.YtjhjcdfhfjeogaaC4
namespace Go.Proofs.Ytjhjcdfhfjeogaa
open Go.RowKit Go.Maps
set_option linter.unusedVariables false

def set3 (w : World) (g : Nat) (u0 u1 u2 : Value) : World := ((w.setCell ⟨g, 0, none⟩ u0).setCell ⟨g, 1, none⟩ u1).setCell ⟨g, 2, none⟩ u2
theorem set3_fin {g gr : Nat} {w w7 : World} {S1 : RS} (h7 : DAt w7 g S1) (F7 : Fr (DFt g) w w7) (hne : g ≠ gr) (hgr : w.heap.size ≤ gr) (u0 u1 u2 : Value) : DAt (set3 w7 gr u0 u1 u2) g S1 ∧ Fr (DFt g) w (set3 w7 gr u0 u1 u2) := by
  unfold set3
  refine ⟨h7.of ?_, ?_⟩
  · rw [Below.heap_setCell _ _ _ g hne, Below.heap_setCell _ _ _ g hne, Below.heap_setCell _ _ _ g hne]
  · have hlt : ¬ gr < w.heap.size := by omega
    exact ((F7.setCell (p := ⟨gr, 0, none⟩) (fun h => absurd h hlt) _).setCell (p := ⟨gr, 1, none⟩) (fun h => absurd h hlt) _).setCell (p := ⟨gr, 2, none⟩) (fun h => absurd h hlt) _
set_option maxRecDepth 100000 in
set_option maxHeartbeats 2000000 in
theorem dcellr_z (g : Nat) (S : RS) (w : World) (h : DAt w g S) (hk : S.byte.1 = 0) : Calls Try.prog 73 #[dpt g] w (DP g w S.cell.1.val S.cell.2) := by
  have HB0 : Hid (∀ w, DAt w g S → Calls Try.prog 68 #[dpt g] w (DP g w (.int .u8 (S.byte.1 : Nat)) S.byte.2)) := Lib.hid fun w h => dbyte_any g S w h
  have HV : Hid (S.cell = (CellP.zero, S.byte.2)) := Lib.hid (by unfold RS.cell RS.cellV; rw [hk, if_pos rfl]; simp only; split <;> rfl)
  rw [hk] at HB0
  clear hk
  generalize S.byte.2 = S1 at *
  obtain ⟨w0, hw0⟩ : ∃ w0, w.alloc (.cells #[.int .i64 0, .int .i64 0, .string ⟨#[]⟩] 93) = w0 := ⟨_, rfl⟩
  obtain ⟨gr, hgr⟩ : ∃ gr, w.heap.size = gr := ⟨_, rfl⟩
  have h0 : DAt w0 g S := by rw [← hw0]; exact h.keep ((Fr.refl _ w).alloc _)
  have hb0 : Blk w0 gr 93 #[.int .i64 0, .int .i64 0, .string ⟨#[]⟩] := by rw [← hw0, ← hgr]; exact Blk.new w 93 _
  have hf0 : Fr (DFt g) w w0 := by rw [← hw0]; exact (Fr.refl _ w).alloc _
  have hnr : g ≠ gr := by have := h.lt; omega
  have H0 := Lib.hid (HB0.out w0 h0)
  have X0 := Lib.hid hb0
  have F0 := Lib.hid hf0
  have NR := Lib.hid hnr
  have GR := Lib.hid hgr
  clear h h0 hb0 hf0 hnr HB0
  unfold dpt at H0 ⊢
  go_enter Try.func73, Try.ntmps73
  go_wp2_with fail
  clear hw0 hgr
  refine H0.out.mono ?_
  rintro e w1 ⟨rfl, h1, f1⟩
  have hx1 : Blk w1 gr 93 #[.int .i64 0, .int .i64 0, .string ⟨#[]⟩] := X0.out.of (f1.block gr X0.out.lt NR.out)
  have e1 : w1.cell? ⟨g, 1, none⟩ = some (.int .i64 S1.fault) := h1.blk.cell 1
  have F1 := Lib.hid (F0.out.thenD f1)
  have X1 := Lib.hid hx1
  have H1 := Lib.hid h1
  clear h1 f1 hx1
  have z0 : w1.cell? ⟨gr, 0, none⟩ = some (.int .i64 0) := X1.out.cell 0
  have z1 : w1.cell? ⟨gr, 1, none⟩ = some (.int .i64 0) := X1.out.cell 1
  have z2 : w1.cell? ⟨gr, 2, none⟩ = some (.string ⟨#[]⟩) := X1.out.cell 2
  have y0 := X1.out.frozen 0
  have y1 := X1.out.frozen 1
  have y2 := X1.out.frozen 2
  by_cases hz : S1.fault = 0
  · rw [hz] at e1
    clear hz
    go_wp2
    refine bodyPost_ret (v := .agg #[.int .i64 0, .int .i64 0, .string ⟨#[]⟩]) (by simp [results, Try.results73, go_sem, z0, z1, z2]) rfl ?_
    obtain ⟨q1, q2⟩ := set3_fin H1.out F1.out NR.out (by have := GR.out; omega) (.int .i64 0) (.int .i64 0) (.string ⟨#[]⟩)
    exact ⟨by rw [HV.out]; rfl, by rw [HV.out]; exact q1, q2⟩
  · have hd : (S1.fault != 0) = true := by simpa using hz
    clear hz
    go_wp2
    refine bodyPost_ret (v := .agg #[.int .i64 0, .int .i64 0, .string ⟨#[]⟩]) (by simp [results, Try.results73, go_sem, z0, z1, z2]) rfl ?_
    obtain ⟨q1, q2⟩ := set3_fin H1.out F1.out NR.out (by have := GR.out; omega) (.int .i64 0) (.int .i64 0) (.string ⟨#[]⟩)
    exact ⟨by rw [HV.out]; rfl, by rw [HV.out]; exact q1, q2⟩
set_option maxRecDepth 100000 in
set_option maxHeartbeats 2000000 in
theorem dcellr_1 (g : Nat) (S : RS) (w : World) (h : DAt w g S) (hk : S.byte.1 = 1) : Calls Try.prog 73 #[dpt g] w (DP g w S.cell.1.val S.cell.2) := by
  have HB0 : Hid (∀ w, DAt w g S → Calls Try.prog 68 #[dpt g] w (DP g w (.int .u8 (S.byte.1 : Nat)) S.byte.2)) := Lib.hid fun w h => dbyte_any g S w h
  have hf : S.byte.2.fault = 0 := by
    by_cases hf : S.byte.2.fault = 0
    · exact hf
    · have := take_num_stop S 1 hf
      have e : S.byte.1 = num (S.take 1).1 := rfl
      omega
  have HV : Hid (S.cell = (if S.byte.2.int.2.fault = 0 then ⟨1, S.byte.2.int.1, []⟩ else CellP.zero, S.byte.2.int.2)) := Lib.hid (by unfold RS.cell RS.cellV; rw [hk]; rfl)
  rw [hk] at HB0
  clear hk
  generalize S.byte.2 = S1 at *
  obtain ⟨w0, hw0⟩ : ∃ w0, w.alloc (.cells #[.int .i64 0, .int .i64 0, .string ⟨#[]⟩] 93) = w0 := ⟨_, rfl⟩
  obtain ⟨gr, hgr⟩ : ∃ gr, w.heap.size = gr := ⟨_, rfl⟩
  have h0 : DAt w0 g S := by rw [← hw0]; exact h.keep ((Fr.refl _ w).alloc _)
  have hb0 : Blk w0 gr 93 #[.int .i64 0, .int .i64 0, .string ⟨#[]⟩] := by rw [← hw0, ← hgr]; exact Blk.new w 93 _
  have hf0 : Fr (DFt g) w w0 := by rw [← hw0]; exact (Fr.refl _ w).alloc _
  have hnr : g ≠ gr := by have := h.lt; omega
  have H0 := Lib.hid (HB0.out w0 h0)
  have X0 := Lib.hid hb0
  have F0 := Lib.hid hf0
  have NR := Lib.hid hnr
  have GR := Lib.hid hgr
  clear h h0 hb0 hf0 hnr HB0
  unfold dpt at H0 ⊢
  go_enter Try.func73, Try.ntmps73
  go_wp2_with fail
  clear hw0 hgr
  refine H0.out.mono ?_
  rintro e w1 ⟨rfl, h1, f1⟩
  have hx1 : Blk w1 gr 93 #[.int .i64 0, .int .i64 0, .string ⟨#[]⟩] := X0.out.of (f1.block gr X0.out.lt NR.out)
  have e1 : w1.cell? ⟨g, 1, none⟩ = some (.int .i64 S1.fault) := h1.blk.cell 1
  have F1 := Lib.hid (F0.out.thenD f1)
  have X1 := Lib.hid hx1
  have H1 := Lib.hid h1
  clear h1 f1 hx1
  rw [hf] at e1
  clear hf
  obtain ⟨w2, hw2⟩ : ∃ w2, w1.alloc (.cells #[.int .i64 0, .int .i64 0, .string ⟨#[]⟩] 93) = w2 := ⟨_, rfl⟩
  obtain ⟨g3, hg3⟩ : ∃ g3, w1.heap.size = g3 := ⟨_, rfl⟩
  have hf2 : Fr No w1 w2 := by rw [← hw2]; exact (Fr.refl _ w1).alloc _
  have B2 : Hid (Blk w2 g3 93 #[.int .i64 0, .int .i64 0, .string ⟨#[]⟩]) := Lib.hid (by rw [← hw2, ← hg3]; exact Blk.new w1 93 _)
  have X2 := Lib.hid (X1.out.of (hf2.block gr X1.out.lt id))
  have H2 := Lib.hid (H1.out.keep hf2)
  have F2 := Lib.hid (F1.out.thenD hf2.any)
  have N3 : Hid (g ≠ g3 ∧ gr ≠ g3 ∧ w.heap.size ≤ g3) := Lib.hid ⟨by have := H1.out.lt; omega, by have := X1.out.lt; omega, by have := F1.out.size; omega⟩
  have HW2 := Lib.hid hw2
  have HG3 := Lib.hid hg3
  clear hf2 hw2 hg3
  go_wp2_with fail
  rw [HW2.out, HG3.out]
  have HC := dint_any g S1 w2 H2.out
  unfold dpt at HC
  refine HC.mono ?_
  clear HC
  rintro e w3 ⟨rfl, h3, f3⟩
  have hb3 := B2.out.of (f3.block g3 B2.out.lt N3.out.1)
  have hx3 := X2.out.of (f3.block gr X2.out.lt NR.out)
  have k0 : w3.cell? ⟨g3, 0, none⟩ = some (.int .i64 0) := hb3.cell 0
  have k1 : w3.cell? ⟨g3, 1, none⟩ = some (.int .i64 0) := hb3.cell 1
  have k2 : w3.cell? ⟨g3, 2, none⟩ = some (.string ⟨#[]⟩) := hb3.cell 2
  have j0 := hb3.frozen 0
  have j1 := hb3.frozen 1
  have j2 := hb3.frozen 2
  obtain ⟨w4, hw4⟩ : ∃ w4, ((w3.setCell ⟨g3, 0, none⟩ (.int .i64 1)).setCell ⟨g3, 1, none⟩ (.int .i64 S1.int.1)).setCell ⟨g3, 2, none⟩ (.string ⟨#[]⟩) = w4 := ⟨_, rfl⟩
  have hb4 : Blk w4 g3 93 #[.int .i64 1, .int .i64 S1.int.1, .string ⟨#[]⟩] := by rw [← hw4]; exact ((hb3.set_ 0 _).set_ 1 _).set_ 2 _
  obtain ⟨h4, f4⟩ := set3_fin h3 (F2.out.thenD f3) N3.out.1 N3.out.2.2 (.int .i64 1) (.int .i64 S1.int.1) (.string ⟨#[]⟩)
  have e4 : set3 w3 g3 (.int .i64 1) (.int .i64 S1.int.1) (.string ⟨#[]⟩) = w4 := hw4
  rw [e4] at h4 f4
  have hx4 : Blk w4 gr 93 #[.int .i64 0, .int .i64 0, .string ⟨#[]⟩] := by
    rw [← hw4]
    exact hx3.of (by rw [Below.heap_setCell _ _ _ gr N3.out.2.1, Below.heap_setCell _ _ _ gr N3.out.2.1, Below.heap_setCell _ _ _ gr N3.out.2.1])
  have H4 := Lib.hid h4
  have X4 := Lib.hid hx4
  have F4 := Lib.hid f4
  have d0 : w4.cell? ⟨g3, 0, none⟩ = some (.int .i64 1) := hb4.cell 0
  have d1 : w4.cell? ⟨g3, 1, none⟩ = some (.int .i64 S1.int.1) := hb4.cell 1
  have d2 : w4.cell? ⟨g3, 2, none⟩ = some (.string ⟨#[]⟩) := hb4.cell 2
  have d3 : w4.cell? ⟨g, 1, none⟩ = some (.int .i64 S1.int.2.fault) := h4.blk.cell 1
  have HW4 := Lib.hid hw4
  clear h3 f3 hb3 hx3 hb4 hx4 h4 f4 e1 e4 hw4
  go_upto_region 11 with fail
  rw [HW4.out]
  clear HW4 k0 k1 k2 j0 j1 j2
  have z0 : w4.cell? ⟨gr, 0, none⟩ = some (.int .i64 0) := X4.out.cell 0
  have z1 : w4.cell? ⟨gr, 1, none⟩ = some (.int .i64 0) := X4.out.cell 1
  have z2 : w4.cell? ⟨gr, 2, none⟩ = some (.string ⟨#[]⟩) := X4.out.cell 2
  have y0 := X4.out.frozen 0
  have y1 := X4.out.frozen 1
  have y2 := X4.out.frozen 2
  by_cases hz : S1.int.2.fault = 0
  · rw [hz] at d3
    have HV2 : Hid (S.cell = (⟨1, S1.int.1, []⟩, S1.int.2)) := Lib.hid (by rw [HV.out, if_pos hz])
    clear hz
    go_wp2
    refine bodyPost_ret (v := .agg #[.int .i64 1, .int .i64 S1.int.1, .string ⟨#[]⟩]) (by simp [results, Try.results73, go_sem, z0, z1, z2]) rfl ?_
    obtain ⟨q1, q2⟩ := set3_fin H4.out F4.out NR.out (by have := GR.out; omega) (.int .i64 1) (.int .i64 S1.int.1) (.string ⟨#[]⟩)
    exact ⟨by rw [HV2.out]; rfl, by rw [HV2.out]; exact q1, q2⟩
  · have hd : (S1.int.2.fault != 0) = true := by simpa using hz
    have HV2 : Hid (S.cell = (CellP.zero, S1.int.2)) := Lib.hid (by rw [HV.out, if_neg hz])
    clear hz
    go_wp2
    refine bodyPost_ret (v := .agg #[.int .i64 0, .int .i64 0, .string ⟨#[]⟩]) (by simp [results, Try.results73, go_sem, z0, z1, z2]) rfl ?_
    obtain ⟨q1, q2⟩ := set3_fin H4.out F4.out NR.out (by have := GR.out; omega) (.int .i64 0) (.int .i64 0) (.string ⟨#[]⟩)
    exact ⟨by rw [HV2.out]; rfl, by rw [HV2.out]; exact q1, q2⟩
set_option maxRecDepth 100000 in
set_option maxHeartbeats 2000000 in
theorem dcellr_2 (g : Nat) (S : RS) (w : World) (h : DAt w g S) (hk : S.byte.1 = 2) : Calls Try.prog 73 #[dpt g] w (DP g w S.cell.1.val S.cell.2) := by
  have HB0 : Hid (∀ w, DAt w g S → Calls Try.prog 68 #[dpt g] w (DP g w (.int .u8 (S.byte.1 : Nat)) S.byte.2)) := Lib.hid fun w h => dbyte_any g S w h
  have hf : S.byte.2.fault = 0 := by
    by_cases hf : S.byte.2.fault = 0
    · exact hf
    · have := take_num_stop S 1 hf
      have e : S.byte.1 = num (S.take 1).1 := rfl
      omega
  have HV : Hid (S.cell = (if S.byte.2.text.2.fault = 0 then ⟨2, 0, S.byte.2.text.1⟩ else CellP.zero, S.byte.2.text.2)) := Lib.hid (by unfold RS.cell RS.cellV; rw [hk]; rfl)
  rw [hk] at HB0
  clear hk
  generalize S.byte.2 = S1 at *
  obtain ⟨w0, hw0⟩ : ∃ w0, w.alloc (.cells #[.int .i64 0, .int .i64 0, .string ⟨#[]⟩] 93) = w0 := ⟨_, rfl⟩
  obtain ⟨gr, hgr⟩ : ∃ gr, w.heap.size = gr := ⟨_, rfl⟩
  have h0 : DAt w0 g S := by rw [← hw0]; exact h.keep ((Fr.refl _ w).alloc _)
  have hb0 : Blk w0 gr 93 #[.int .i64 0, .int .i64 0, .string ⟨#[]⟩] := by rw [← hw0, ← hgr]; exact Blk.new w 93 _
  have hf0 : Fr (DFt g) w w0 := by rw [← hw0]; exact (Fr.refl _ w).alloc _
  have hnr : g ≠ gr := by have := h.lt; omega
  have H0 := Lib.hid (HB0.out w0 h0)
  have X0 := Lib.hid hb0
  have F0 := Lib.hid hf0
  have NR := Lib.hid hnr
  have GR := Lib.hid hgr
  clear h h0 hb0 hf0 hnr HB0
  unfold dpt at H0 ⊢
  go_enter Try.func73, Try.ntmps73
  go_wp2_with fail
  clear hw0 hgr
  refine H0.out.mono ?_
  rintro e w1 ⟨rfl, h1, f1⟩
  have hx1 : Blk w1 gr 93 #[.int .i64 0, .int .i64 0, .string ⟨#[]⟩] := X0.out.of (f1.block gr X0.out.lt NR.out)
  have e1 : w1.cell? ⟨g, 1, none⟩ = some (.int .i64 S1.fault) := h1.blk.cell 1
  have F1 := Lib.hid (F0.out.thenD f1)
  have X1 := Lib.hid hx1
  have H1 := Lib.hid h1
  clear h1 f1 hx1
  rw [hf] at e1
  clear hf
  obtain ⟨w2, hw2⟩ : ∃ w2, w1.alloc (.cells #[.int .i64 0, .int .i64 0, .string ⟨#[]⟩] 93) = w2 := ⟨_, rfl⟩
  obtain ⟨g3, hg3⟩ : ∃ g3, w1.heap.size = g3 := ⟨_, rfl⟩
  have hf2 : Fr No w1 w2 := by rw [← hw2]; exact (Fr.refl _ w1).alloc _
  have B2 : Hid (Blk w2 g3 93 #[.int .i64 0, .int .i64 0, .string ⟨#[]⟩]) := Lib.hid (by rw [← hw2, ← hg3]; exact Blk.new w1 93 _)
  have X2 := Lib.hid (X1.out.of (hf2.block gr X1.out.lt id))
  have H2 := Lib.hid (H1.out.keep hf2)
  have F2 := Lib.hid (F1.out.thenD hf2.any)
  have N3 : Hid (g ≠ g3 ∧ gr ≠ g3 ∧ w.heap.size ≤ g3) := Lib.hid ⟨by have := H1.out.lt; omega, by have := X1.out.lt; omega, by have := F1.out.size; omega⟩
  have HW2 := Lib.hid hw2
  have HG3 := Lib.hid hg3
  clear hf2 hw2 hg3
  go_wp2_with fail
  rw [HW2.out, HG3.out]
  have HC := dtext_r g S1 w2 H2.out
  unfold dpt at HC
  refine HC.mono ?_
  clear HC
  rintro e w3 ⟨rfl, h3, f3⟩
  have hb3 := B2.out.of (f3.block g3 B2.out.lt N3.out.1)
  have hx3 := X2.out.of (f3.block gr X2.out.lt NR.out)
  have k0 : w3.cell? ⟨g3, 0, none⟩ = some (.int .i64 0) := hb3.cell 0
  have k1 : w3.cell? ⟨g3, 1, none⟩ = some (.int .i64 0) := hb3.cell 1
  have k2 : w3.cell? ⟨g3, 2, none⟩ = some (.string ⟨#[]⟩) := hb3.cell 2
  have j0 := hb3.frozen 0
  have j1 := hb3.frozen 1
  have j2 := hb3.frozen 2
  obtain ⟨w4, hw4⟩ : ∃ w4, ((w3.setCell ⟨g3, 0, none⟩ (.int .i64 2)).setCell ⟨g3, 1, none⟩ (.int .i64 0)).setCell ⟨g3, 2, none⟩ (sv S1.text.1) = w4 := ⟨_, rfl⟩
  have hb4 : Blk w4 g3 93 #[.int .i64 2, .int .i64 0, sv S1.text.1] := by rw [← hw4]; exact ((hb3.set_ 0 _).set_ 1 _).set_ 2 _
  obtain ⟨h4, f4⟩ := set3_fin h3 (F2.out.thenD f3) N3.out.1 N3.out.2.2 (.int .i64 2) (.int .i64 0) (sv S1.text.1)
  have e4 : set3 w3 g3 (.int .i64 2) (.int .i64 0) (sv S1.text.1) = w4 := hw4
  rw [e4] at h4 f4
  have hx4 : Blk w4 gr 93 #[.int .i64 0, .int .i64 0, .string ⟨#[]⟩] := by
    rw [← hw4]
    exact hx3.of (by rw [Below.heap_setCell _ _ _ gr N3.out.2.1, Below.heap_setCell _ _ _ gr N3.out.2.1, Below.heap_setCell _ _ _ gr N3.out.2.1])
  have H4 := Lib.hid h4
  have X4 := Lib.hid hx4
  have F4 := Lib.hid f4
  have d0 : w4.cell? ⟨g3, 0, none⟩ = some (.int .i64 2) := hb4.cell 0
  have d1 : w4.cell? ⟨g3, 1, none⟩ = some (.int .i64 0) := hb4.cell 1
  have d2 : w4.cell? ⟨g3, 2, none⟩ = some (sv S1.text.1) := hb4.cell 2
  have d3 : w4.cell? ⟨g, 1, none⟩ = some (.int .i64 S1.text.2.fault) := h4.blk.cell 1
  have HW4 := Lib.hid hw4
  clear h3 f3 hb3 hx3 hb4 hx4 h4 f4 e1 e4 hw4
  go_upto_region 11 with fail
  rw [HW4.out]
  clear HW4 k0 k1 k2 j0 j1 j2
  have z0 : w4.cell? ⟨gr, 0, none⟩ = some (.int .i64 0) := X4.out.cell 0
  have z1 : w4.cell? ⟨gr, 1, none⟩ = some (.int .i64 0) := X4.out.cell 1
  have z2 : w4.cell? ⟨gr, 2, none⟩ = some (.string ⟨#[]⟩) := X4.out.cell 2
  have y0 := X4.out.frozen 0
  have y1 := X4.out.frozen 1
  have y2 := X4.out.frozen 2
  by_cases hz : S1.text.2.fault = 0
  · rw [hz] at d3
    have HV2 : Hid (S.cell = (⟨2, 0, S1.text.1⟩, S1.text.2)) := Lib.hid (by rw [HV.out, if_pos hz])
    clear hz
    go_wp2
    refine bodyPost_ret (v := .agg #[.int .i64 2, .int .i64 0, sv S1.text.1]) (by simp [results, Try.results73, go_sem, z0, z1, z2]) rfl ?_
    obtain ⟨q1, q2⟩ := set3_fin H4.out F4.out NR.out (by have := GR.out; omega) (.int .i64 2) (.int .i64 0) (sv S1.text.1)
    exact ⟨by rw [HV2.out]; rfl, by rw [HV2.out]; exact q1, q2⟩
  · have hd : (S1.text.2.fault != 0) = true := by simpa using hz
    have HV2 : Hid (S.cell = (CellP.zero, S1.text.2)) := Lib.hid (by rw [HV.out, if_neg hz])
    clear hz
    go_wp2
    refine bodyPost_ret (v := .agg #[.int .i64 0, .int .i64 0, .string ⟨#[]⟩]) (by simp [results, Try.results73, go_sem, z0, z1, z2]) rfl ?_
    obtain ⟨q1, q2⟩ := set3_fin H4.out F4.out NR.out (by have := GR.out; omega) (.int .i64 0) (.int .i64 0) (.string ⟨#[]⟩)
    exact ⟨by rw [HV2.out]; rfl, by rw [HV2.out]; exact q1, q2⟩
end Go.Proofs.Ytjhjcdfhfjeogaa
