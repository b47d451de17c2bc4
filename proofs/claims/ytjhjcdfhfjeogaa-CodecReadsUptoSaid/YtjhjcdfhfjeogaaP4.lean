/- The document's reader takes up any cell. -/
import Derived.Test.YtjhjcdfhfjeogaaP3
namespace Go.Proofs.Ytjhjcdfhfjeogaa
open Go.RowKit Go.Maps
set_option linter.unusedVariables false

set_option maxRecDepth 100000 in
set_option maxHeartbeats 2000000 in
theorem dcellr_e (g : Nat) (S : RS) (w : World) (h : DAt w g S) (hk : 2 < S.byte.1) : Calls Try.prog 73 #[dpt g] w (DP g w S.cell.1.val S.cell.2) := by
  have HB0 : Hid (∀ w, DAt w g S → Calls Try.prog 68 #[dpt g] w (DP g w (.int .u8 (S.byte.1 : Nat)) S.byte.2)) := Lib.hid fun w h => dbyte_any g S w h
  have hf : S.byte.2.fault = 0 := by
    by_cases hf : S.byte.2.fault = 0
    · exact hf
    · have := take_num_stop S 1 hf
      have e : S.byte.1 = num (S.take 1).1 := rfl
      omega
  have hkb : S.byte.1 < 256 := num_le _ 1 (take_len S 1)
  have HV : Hid (S.cell = (CellP.zero, ⟨[], 22⟩)) := Lib.hid (by
    have e : S.byte.2.fail 22 = ⟨[], 22⟩ := by unfold RS.fail; rw [if_pos ⟨by decide, hf⟩]
    have e2 : S.byte.2.cellV S.byte.1 = (⟨S.byte.1, 0, []⟩, ⟨[], 22⟩) := by
      unfold RS.cellV
      rw [if_neg (by omega), if_neg (by omega), if_neg (by omega), e]
    unfold RS.cell
    rw [e2]
    rfl)
  generalize S.byte.1 = k at *
  generalize S.byte.2 = S1 at *
  have hk0 : ((k : Int) == 0) = false := by rw [beq_eq_false_iff_ne]; omega
  have hk1 : ((k : Int) == 1) = false := by rw [beq_eq_false_iff_ne]; omega
  have hk2 : ((k : Int) == 2) = false := by rw [beq_eq_false_iff_ne]; omega
  have HE : Hid (S1.fail 22 = ⟨[], 22⟩) := Lib.hid (by unfold RS.fail; rw [if_pos ⟨by decide, hf⟩])
  clear hk
  obtain ⟨w0, hw0⟩ : ∃ w0, w.alloc (.cells #[.int .i64 0, .int .i64 0, .string ⟨#[]⟩] 93) = w0 := ⟨_, rfl⟩
  obtain ⟨gr, hgr⟩ : ∃ gr, w.heap.size = gr := ⟨_, rfl⟩
  have h0 : DAt w0 g S := by rw [← hw0]; exact h.keep ((Fr.refl _ w).alloc _)
  have hb0 : Blk w0 gr 93 #[.int .i64 0, .int .i64 0, .string ⟨#[]⟩] := by rw [← hw0, ← hgr]; exact Blk.new w 93 _
  have hf0 : Fr (DFt g) w w0 := by rw [← hw0]; exact (Fr.refl _ w).alloc _
  have hnr : g ≠ gr := by have := h.lt; omega
  have H0 := Lib.hid (HB0.out w0 h0)
  have X0 := Lib.hid hb0
  have F0 := Lib.hid hf0
  have NR := Lib.hid hnr
  have GR := Lib.hid hgr
  clear h h0 hb0 hf0 hnr HB0
  unfold dpt at H0 ⊢
  go_enter Try.func73, Try.ntmps73
  go_wp2_with fail
  clear hw0 hgr
  refine H0.out.mono ?_
  rintro e w1 ⟨rfl, h1, f1⟩
  have hx1 : Blk w1 gr 93 #[.int .i64 0, .int .i64 0, .string ⟨#[]⟩] := X0.out.of (f1.block gr X0.out.lt NR.out)
  have e1 : w1.cell? ⟨g, 1, none⟩ = some (.int .i64 S1.fault) := h1.blk.cell 1
  have F1 := Lib.hid (F0.out.thenD f1)
  have X1 := Lib.hid hx1
  have H1 := Lib.hid h1
  clear h1 f1 hx1
  rw [hf] at e1
  clear hf
  obtain ⟨w2, hw2⟩ : ∃ w2, w1.alloc (.cells #[.int .i64 0, .int .i64 0, .string ⟨#[]⟩] 93) = w2 := ⟨_, rfl⟩
  have hf2 : Fr No w1 w2 := by rw [← hw2]; exact (Fr.refl _ w1).alloc _
  have X2 := Lib.hid (X1.out.of (hf2.block gr X1.out.lt id))
  have H2 := Lib.hid (H1.out.keep hf2)
  have F2 := Lib.hid (F1.out.thenD hf2.any)
  have HW2 := Lib.hid hw2
  clear hf2 hw2
  go_wp2_with fail
  rw [HW2.out]
  have HC := dfail_any g S1 22 w2 H2.out
  unfold dpt at HC
  refine HC.mono ?_
  clear HC
  rintro e w4 ⟨rfl, h3, f3⟩
  rw [HE.out] at h3
  have X4 := Lib.hid (X2.out.of (f3.block gr X2.out.lt NR.out))
  have d3 : w4.cell? ⟨g, 1, none⟩ = some (.int .i64 22) := h3.blk.cell 1
  have H4 := Lib.hid h3
  have F4 := Lib.hid (F2.out.thenD f3)
  clear h3 f3 e1
  have z0 : w4.cell? ⟨gr, 0, none⟩ = some (.int .i64 0) := X4.out.cell 0
  have z1 : w4.cell? ⟨gr, 1, none⟩ = some (.int .i64 0) := X4.out.cell 1
  have z2 : w4.cell? ⟨gr, 2, none⟩ = some (.string ⟨#[]⟩) := X4.out.cell 2
  have y0 := X4.out.frozen 0
  have y1 := X4.out.frozen 1
  have y2 := X4.out.frozen 2
  go_wp2
  refine bodyPost_ret (v := .agg #[.int .i64 0, .int .i64 0, .string ⟨#[]⟩]) (by simp [results, Try.results73, go_sem, z0, z1, z2]) rfl ?_
  obtain ⟨q1, q2⟩ := set3_fin H4.out F4.out NR.out (by have := GR.out; omega) (.int .i64 0) (.int .i64 0) (.string ⟨#[]⟩)
  exact ⟨by rw [HV.out]; rfl, by rw [HV.out]; exact q1, q2⟩
theorem dcellr_any (g : Nat) (S : RS) (w : World) (h : DAt w g S) : Calls Try.prog 73 #[dpt g] w (DP g w S.cell.1.val S.cell.2) := by
  by_cases h0 : S.byte.1 = 0
  · exact dcellr_z g S w h h0
  by_cases h1 : S.byte.1 = 1
  · exact dcellr_1 g S w h h1
  by_cases h2 : S.byte.1 = 2
  · exact dcellr_2 g S w h h2
  exact dcellr_e g S w h (by omega)
end Go.Proofs.Ytjhjcdfhfjeogaa
