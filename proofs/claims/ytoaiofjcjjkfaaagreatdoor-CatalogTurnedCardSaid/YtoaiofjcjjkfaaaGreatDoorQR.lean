/- CatalogTurned, walked: the text turned and cut. -/
import Derived.Test.YtoaiofjcjjkfaaaGreatDoorQP
namespace Go.Proofs.YtoaiofjcjjkfaaaGreatDoor
open Go.RowKit Go.Maps Go.Sort
set_option linter.unusedVariables false

set_option maxRecDepth 100000 in
set_option maxHeartbeats 2000000 in
theorem turned_neg0 (c : CkP) (dv mv vv bv : Value) (at_ : Int) (x k j : Nat) (F P Q R X2 : List UInt8) (ch y : UInt8) (r1 r2 : CkP) (w : World) (hv : Vr w) (hck : CkAt (fun k => k < w.heap.size) w c dv mv vv bv) (hE : bytesP (bare c) = (F, 0))
    (h9 : 9 ≤ F.length) (hF1 : F.length ≤ 65544) (hneg : at_ < 0) (hav : -(at_ + 1) = (k : Int)) (hk : (k : Int) ≤ 9223372036854775807) (hj : 4 + (k : Int) % ((F.length : Int) - 4) = (j : Int)) (hjF : j < F.length) (hx : x = 1)
    (hP : (ByteArray.mk F.toArray).extract 0 j = ⟨P.toArray⟩) (hR : (ByteArray.mk F.toArray).extract (j + 1) F.length = ⟨R.toArray⟩) (hc : F[j] = ch) (hy : bits .xor .u8 (ch.toNat : Int) (x : Int) = (y.toNat : Int))
    (hcat1 : ∀ w0, (Op.stringOp .add ⟨P.toArray⟩ ⟨#[y]⟩).run Tryz.prog w0 = .ok (.string ⟨Q.toArray⟩) w0) (hcat2 : ∀ w0, (Op.stringOp .add ⟨Q.toArray⟩ ⟨R.toArray⟩).run Tryz.prog w0 = .ok (.string ⟨X2.toArray⟩) w0)
    (CR1 : Hid (∀ w, Calls Tryz.prog 15 #[sv X2] w (RdP w r1 27))) (CR2 : Hid (∀ w, Calls Tryz.prog 15 #[sv P] w (RdP w r2 27))) :
    Calls Tryz.prog 8 #[ckv c dv mv vv bv, .int .i64 at_, .int .u8 (0 : Int)] w fun e w' => e = .returned (.bool true) ∧ Fr No w w' := by
  subst hx
  have HJF := Lib.hid hjF
  have hidx : Hid (∀ w0 : World, (Instr.index 9 (.string ⟨F.toArray⟩) (.int .i64 (j : Int))).run Tryz.prog w0 = .ok (.int .u8 (ch.toNat : Int)) w0) := Lib.hid fun w0 => by
    rw [run_index_string w0 9 ⟨F.toArray⟩ .i64 (j : Int) Tryz.underlying9, dif_pos ⟨by omega, by rw [sz]; omega⟩]
    have e : (ByteArray.mk F.toArray)[(j : Int).toNat]'(by rw [sz]; omega) = ch := by rw [← hc]; rfl
    rw [e]
  have HJ := Lib.hid hj
  have HP := Lib.hid hP
  have HR := Lib.hid hR
  have HY := Lib.hid hy
  have H1 := Lib.hid hcat1
  have H2 := Lib.hid hcat2
  clear hP hR hc hy hcat1 hcat2 hjF
  obtain ⟨B, hB⟩ : ∃ B, w.heap.size = B := ⟨_, rfl⟩
  obtain ⟨A1, n1, k1, A2, n2, k2, A3, n3, k3, A4, n4, k4, rfl, rfl, rfl, rfl⟩ := hck.forms
  obtain ⟨w1, hw1⟩ : ∃ w1, w.alloc (.cells #[.int .i64 c.seq, .slice A1 n1 k1, .slice A2 n2 k2, .slice A3 n3 k3, .slice A4 n4 k4] 28) = w1 := ⟨_, rfl⟩
  have f1 : Fr No w w1 := by rw [← hw1]; exact (Fr.refl _ w).alloc _
  have b1 : Blk w1 B 28 #[.int .i64 c.seq, .slice A1 n1 k1, .slice A2 n2 k2, .slice A3 n3 k3, .slice A4 n4 k4] := by rw [← hw1, ← hB]; exact Blk.new w 28 _
  have CA := Lib.hid (awake_any w1 (hv.keep f1))
  have HW1 := Lib.hid hw1
  have HB := Lib.hid hB
  have HF1 := Lib.hid f1
  have HB1 := Lib.hid b1
  have HCK := Lib.hid hck
  have CB : Hid (∀ w3 : World, Fr No w w3 → Calls Tryz.prog 11 #[ckv (bare c) (.slice A1 n1 k1) (.slice A2 n2 k2) (.slice A3 n3 k3) (.slice none 0 0)] w3 fun e w' => e = .returned (.tuple #[sv (bytesP (bare c)).1, .int .i64 (bytesP (bare c)).2]) ∧ Fr No w w') := Lib.hid fun w3 f3 => by
    have hc3 := hck.of (w' := w3) fun k hk => f3.block k hk id
    exact (bytes_any (fun k => k < w.heap.size) (bare c) _ _ _ _ w3 ⟨hc3.seq, hc3.dims, hc3.meas, hc3.views, RowE.nil _ _ _ _ _⟩ (fun k hk => Nat.lt_of_lt_of_le hk f3.size) (by simp [bare])).mono fun e w4 h => ⟨h.1, f3.trans h.2 fun _ _ h => h⟩
  rw [hE] at CB
  clear hck hw1 f1 b1 hB hv hE
  unfold ckv at CB ⊢
  simp only [bare] at CB
  go_enter Tryz.func8, Tryz.ntmps8
  go_wp2_with fail
  rw [HW1.out]
  refine CA.out.mono ?_
  clear CA
  rintro e w2 ⟨rfl, f2⟩
  have b2 := HB1.out.of (f2.block _ HB1.out.lt id)
  obtain ⟨w3, hw3⟩ : ∃ w3, w2.setCell ⟨B, 4, none⟩ (.slice none 0 0) = w3 := ⟨_, rfl⟩
  have b3 : Blk w3 B 28 #[.int .i64 c.seq, .slice A1 n1 k1, .slice A2 n2 k2, .slice A3 n3 k3, .slice none 0 0] := by rw [← hw3]; exact b2.set_ 4 _
  have f3 : Fr No w w3 := by
    rw [← hw3]
    exact (HF1.out.trans f2 fun _ _ h => h).trans (Fr.set0 B w2 4 _) fun j hj h => by unfold One at h; have := HB.out; omega
  have z4 : w2.cell? ⟨B, 4, none⟩ = some (.slice A4 n4 k4) := b2.cell 4
  have y4 := b2.frozen 4
  have x0 : w3.cell? ⟨B, 0, none⟩ = some (.int .i64 c.seq) := b3.cell 0
  have x1 : w3.cell? ⟨B, 1, none⟩ = some (.slice A1 n1 k1) := b3.cell 1
  have x2 : w3.cell? ⟨B, 2, none⟩ = some (.slice A2 n2 k2) := b3.cell 2
  have x3 : w3.cell? ⟨B, 3, none⟩ = some (.slice A3 n3 k3) := b3.cell 3
  have x4 : w3.cell? ⟨B, 4, none⟩ = some (.slice none 0 0) := b3.cell 4
  have HW3 := Lib.hid hw3
  have CC := Lib.hid (CB.out w3 f3)
  clear f2 b2 b3 f3 hw3 CB
  rw [HB.out]
  go_upto_region 3 with fail
  rw [HW3.out]
  go_wp2_with fail
  refine CC.out.mono ?_
  clear CC
  rintro e w4 ⟨rfl, f4⟩
  have F4 := Lib.hid f4
  clear f4 x0 x1 x2 x3 x4 z4 y4
  have hsz : decide ((F.length : Int) < 9) = false := by simp; omega
  have hw4 : IntKind.i64.wrap ((F.length : Int) - 4) = (F.length : Int) - 4 := IntWalk.i64_in _ (by omega)
  have hne : ((F.length : Int) - 4) ≠ 0 := by omega
  have hneb : (((F.length : Int) - 4) == 0) = false := by rw [beq_eq_false_iff_ne]; omega
  have hjF := HJF.out
  have hwj : wrap64 (j : Int) = (j : Int) := IntWalk.wrap64_in (j : Int) (by omega)
  clear hne
  go_upto_region 13 with fail
  have hj1 : wrap64 ((j : Int) + 1) = (j : Int) + 1 := IntWalk.wrap64_in _ (by omega)
  have hj6 : IntKind.i64.wrap ((j : Int) + 1) = (j : Int) + 1 := IntWalk.i64_in _ (by omega)
  have hj7 : IntKind.i64.wrap (j : Int) = (j : Int) := IntWalk.i64_in _ (by omega)
  have hj2 : (0 : Int) ≤ (j : Int) + 1 := by omega
  have hj3 : ((j : Int) + 1).toNat = j + 1 := by omega
  have hj4 : (j : Int) ≤ (F.length : Int) := by omega
  have hj5 : (j : Int) + 1 ≤ (F.length : Int) := by omega
  obtain ⟨V, hV⟩ : ∃ V, w4.heap.size = V := ⟨_, rfl⟩
  have hcv1 : (convert 65 9 (.slice (some ⟨w4.heap.size, 0, none⟩) 1 1)).run Tryz.prog (w4.alloc (.cells #[.int .u8 (y.toNat : Int)] 5)).drew = .ok (.string ⟨#[y]⟩) (w4.alloc (.cells #[.int .u8 (y.toNat : Int)] 5)).drew := conv1 w4.heap.size y _ (by simp [byteV])
  have hcv2 : (convert 65 9 (.slice (some ⟨w4.heap.size + 1, 0, none⟩) 1 1)).run Tryz.prog ((w4.alloc (.cells zero5 28)).alloc (.cells #[.int .u8 (y.toNat : Int)] 5)).drew = .ok (.string ⟨#[y]⟩) ((w4.alloc (.cells zero5 28)).alloc (.cells #[.int .u8 (y.toNat : Int)] 5)).drew := conv1 (w4.heap.size + 1) y _ (by
    have h : (((w4.alloc (.cells zero5 28)).alloc (.cells #[.int .u8 (y.toNat : Int)] 5)).drew).cell? ⟨(w4.alloc (.cells zero5 28)).heap.size, 0, none⟩ = some (byteV y) := by simp [byteV]
    have e : (w4.alloc (.cells zero5 28)).heap.size = w4.heap.size + 1 := by simp
    rw [e] at h; exact h)
  have hcv3 : (convert 65 9 (.slice (some ⟨w4.heap.size, 0, none⟩) 1 1)).run Tryz.prog ((w4.alloc (.cells #[.int .u8 (y.toNat : Int)] 5)).alloc (.cells zero5 28)).drew = .ok (.string ⟨#[y]⟩) ((w4.alloc (.cells #[.int .u8 (y.toNat : Int)] 5)).alloc (.cells zero5 28)).drew := conv1 w4.heap.size y _ (by
    have b : Blk (w4.alloc (.cells #[.int .u8 (y.toNat : Int)] 5)) w4.heap.size 5 #[.int .u8 (y.toNat : Int)] := Blk.new w4 5 _
    exact (b.more (.cells zero5 28)).cell 0)
  have HA : Hid (Calls Tryz.prog 15 #[sv X2] (w4.alloc (.cells #[.int .u8 (y.toNat : Int)] 5)).drew fun e w5 => ∃ D1 p1 q1 D2 p2 q2 D3 p3 q3 D4 p4 q4, e = .returned (.tuple #[.agg #[.int .i64 r1.seq, .slice D1 p1 q1, .slice D2 p2 q2, .slice D3 p3 q3, .slice D4 p4 q4], .int .i64 27]) ∧ Fr No w w5) := Lib.hid ((CR1.out _).mono fun e w5 h => by
    obtain ⟨dv, mv, vv, bv, he, f5, hck⟩ := h
    obtain ⟨D1, p1, q1, D2, p2, q2, D3, p3, q3, D4, p4, q4, rfl, rfl, rfl, rfl⟩ := hck.forms
    exact ⟨_, _, _, _, _, _, _, _, _, _, _, _, he, ((F4.out.alloc _).drew).trans f5 fun _ _ h => h⟩)
  have HBB : Hid (Calls Tryz.prog 15 #[sv X2] ((w4.alloc (.cells zero5 28)).alloc (.cells #[.int .u8 (y.toNat : Int)] 5)).drew fun e w5 => ∃ D1 p1 q1 D2 p2 q2 D3 p3 q3 D4 p4 q4, e = .returned (.tuple #[.agg #[.int .i64 r1.seq, .slice D1 p1 q1, .slice D2 p2 q2, .slice D3 p3 q3, .slice D4 p4 q4], .int .i64 27]) ∧ Fr No w w5 ∧ Blk w5 w4.heap.size 28 zero5) := Lib.hid ((CR1.out _).mono fun e w5 h => by
    obtain ⟨dv, mv, vv, bv, he, f5, hck⟩ := h
    obtain ⟨D1, p1, q1, D2, p2, q2, D3, p3, q3, D4, p4, q4, rfl, rfl, rfl, rfl⟩ := hck.forms
    have b : Blk ((w4.alloc (.cells zero5 28)).alloc (.cells #[.int .u8 (y.toNat : Int)] 5)).drew w4.heap.size 28 zero5 := (Blk.new w4 28 zero5).more _
    exact ⟨_, _, _, _, _, _, _, _, _, _, _, _, he, (((F4.out.alloc _).alloc _).drew).trans f5 fun _ _ h => h, b.of (f5.block _ b.lt id)⟩)
  have HCC : Hid (Calls Tryz.prog 15 #[sv X2] ((w4.alloc (.cells #[.int .u8 (y.toNat : Int)] 5)).alloc (.cells zero5 28)).drew fun e w5 => ∃ D1 p1 q1 D2 p2 q2 D3 p3 q3 D4 p4 q4, e = .returned (.tuple #[.agg #[.int .i64 r1.seq, .slice D1 p1 q1, .slice D2 p2 q2, .slice D3 p3 q3, .slice D4 p4 q4], .int .i64 27]) ∧ Fr No w w5 ∧ Blk w5 (w4.heap.size + 1) 28 zero5) := Lib.hid ((CR1.out _).mono fun e w5 h => by
    obtain ⟨dv, mv, vv, bv, he, f5, hck⟩ := h
    obtain ⟨D1, p1, q1, D2, p2, q2, D3, p3, q3, D4, p4, q4, rfl, rfl, rfl, rfl⟩ := hck.forms
    have e1 : (w4.alloc (.cells #[.int .u8 (y.toNat : Int)] 5)).heap.size = w4.heap.size + 1 := by simp
    have b : Blk ((w4.alloc (.cells #[.int .u8 (y.toNat : Int)] 5)).alloc (.cells zero5 28)).drew (w4.heap.size + 1) 28 zero5 := by rw [← e1]; exact Blk.new _ 28 zero5
    exact ⟨_, _, _, _, _, _, _, _, _, _, _, _, he, (((F4.out.alloc _).alloc _).drew).trans f5 fun _ _ h => h, b.of (f5.block _ b.lt id)⟩)
  unfold zero5 at HBB HCC hcv2 hcv3
  unfold sv at HA HBB HCC
  have hP := HP.out
  have hR := HR.out
  have hy := HY.out
  rw [show ((1 : Nat) : Int) = 1 from rfl] at hy
  have hcat1 := H1.out
  have hcat2 := H2.out
  have hix := hidx.out
  clear hj hav hk h9 hF1 hsz hw4 hneb hV CR1
  go_region_with (first
    | (go_at_call 15; with_reducible refine HA.out.mono ?_; rintro e w5 ⟨D1, p1, q1, D2, p2, q2, D3, p3, q3, D4, p4, q4, rfl, f5⟩; have F5 := Lib.hid f5; clear f5)
    | (go_at_call 15; refine HBB.out.mono ?_; rintro e w5 ⟨D1, p1, q1, D2, p2, q2, D3, p3, q3, D4, p4, q4, rfl, f5, b5⟩; have F5 := Lib.hid f5; have B5 := Lib.hid b5; have y0 := b5.frozen 0; have y1 := b5.frozen 1; have y2 := b5.frozen 2; have y3 := b5.frozen 3; have y4 := b5.frozen 4; have z0 : w5.cell? ⟨w4.heap.size, 0, none⟩ = some (.int .i64 0) := b5.cell 0; have z1 : w5.cell? ⟨w4.heap.size, 1, none⟩ = some (.slice none 0 0) := b5.cell 1; have z2 : w5.cell? ⟨w4.heap.size, 2, none⟩ = some (.slice none 0 0) := b5.cell 2; have z3 : w5.cell? ⟨w4.heap.size, 3, none⟩ = some (.slice none 0 0) := b5.cell 3; have z4 : w5.cell? ⟨w4.heap.size, 4, none⟩ = some (.slice none 0 0) := b5.cell 4; clear f5 b5)
    | (go_at_call 15; refine HCC.out.mono ?_; rintro e w5 ⟨D1, p1, q1, D2, p2, q2, D3, p3, q3, D4, p4, q4, rfl, f5, b5⟩; have F5 := Lib.hid f5; have B5 := Lib.hid b5; have y0 := b5.frozen 0; have y1 := b5.frozen 1; have y2 := b5.frozen 2; have y3 := b5.frozen 3; have y4 := b5.frozen 4; have z0 : w5.cell? ⟨w4.heap.size + 1, 0, none⟩ = some (.int .i64 0) := b5.cell 0; have z1 : w5.cell? ⟨w4.heap.size + 1, 1, none⟩ = some (.slice none 0 0) := b5.cell 1; have z2 : w5.cell? ⟨w4.heap.size + 1, 2, none⟩ = some (.slice none 0 0) := b5.cell 2; have z3 : w5.cell? ⟨w4.heap.size + 1, 3, none⟩ = some (.slice none 0 0) := b5.cell 3; have z4 : w5.cell? ⟨w4.heap.size + 1, 4, none⟩ = some (.slice none 0 0) := b5.cell 4; clear f5 b5))
  all_goals
    clear hcv1 hcv2 hcv3 hcat1 hcat2 hix hR hy HA HBB HCC
    have CR3 : Hid (∀ wx : World, Fr No w wx → Calls Tryz.prog 15 #[sv P] wx fun e w6 => ∃ D1 p1 q1 D2 p2 q2 D3 p3 q3 D4 p4 q4, e = .returned (.tuple #[.agg #[.int .i64 r2.seq, .slice D1 p1 q1, .slice D2 p2 q2, .slice D3 p3 q3, .slice D4 p4 q4], .int .i64 27]) ∧ Fr No w w6) := Lib.hid fun wx hx => (CR2.out _).mono fun e w6 h => by
      obtain ⟨dv, mv, vv, bv, he, f6, hck⟩ := h
      obtain ⟨D1, p1, q1, D2, p2, q2, D3, p3, q3, D4, p4, q4, rfl, rfl, rfl, rfl⟩ := hck.forms
      exact ⟨_, _, _, _, _, _, _, _, _, _, _, _, he, hx.trans f6 fun _ _ h => h⟩
    have hs4 := F4.out.size
    have HS4 := Lib.hid hs4
    clear hs4
    go_wp2_with fail
    refine (CR3.out _ ?_).mono ?_
    · first
        | exact F5.out.alloc _
        | exact frset5 F5.out (Nat.le_trans HS4.out (by first | exact Nat.le_refl _ | exact Nat.le_succ _)) _ _ _ _ _
    · rintro e w6 ⟨E1, s1, t1, E2, s2, t2, E3, s3, t3, E4, s4, t4, rfl, f6⟩
      have F6 := Lib.hid f6
      clear f6
      go_wp2
      go_ret
      exact ⟨rfl, F6.out.alloc _⟩
end Go.Proofs.YtoaiofjcjjkfaaaGreatDoor
