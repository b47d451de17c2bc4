/- The law's own round of a small checkpoint: awake. -/
import Derived.Test.YtoaiofjcjjkfaaaGreatDoorM5
import Derived.Test.YtoaiofjcjjkfaaaGreatDoorTie
import Derived.Test.YtoaiofjcjjkfaaaGreatDoorCards
import Derived.Deep.DeepHandedRow
import Derived.Deep.DeepWitnessRowRef
import Derived.Lib.LaidTab
import Derived.Lib.LaidIn
import Derived.LaidMore
import Derived.Stop.LaidErr
import Derived.ProofKit
import Derived.SizedLaws
import Derived.SliceStrings
import Derived.SevenTiedAt
namespace Go.Proofs.YtoaiofjcjjkfaaaGreatDoor
open Go.RowKit Go.Maps Go.Sort
set_option linter.unusedVariables false

/-- Old blocks below a bound stay: of a frame over what is not below it. -/
theorem Fr.low {B : Nat} {w w' : World} (h : Fr (fun k => ¬ k < B) w w') (hB : w.heap.size ≤ B) : Fr No w w' := h.mono fun k hk hn => hn (by omega)
set_option maxRecDepth 100000 in
set_option maxHeartbeats 2000000 in
theorem awake_any (w : World) (hv : Vr w) : Calls Tryz.prog 10 #[] w fun e w' => e = .returned (.bool true) ∧ Fr No w w' := by
  obtain ⟨B, hB⟩ : ∃ B, w.heap.size = B := ⟨_, rfl⟩
  have C0 := Lib.hid (x_new 10000 w (fun k => k < B) (fun k hk => by omega))
  have HB := Lib.hid hB
  have HV := Lib.hid hv
  clear hB hv
  go_enter Tryz.func10, Tryz.ntmps10
  go_wp2_with fail
  refine C0.out.mono ?_
  clear C0
  rintro e w1 ⟨d, rfl, h1, f1⟩
  have D1 := Lib.hid h1
  have F1 := Lib.hid f1
  have V1 := Lib.hid (HV.out.keep f1)
  clear h1 f1
  have CL1 := Lib.hid (load_ck_any D1.out V1.out)
  go_wp2_with fail
  refine CL1.out.mono ?_
  clear CL1
  rintro e w2 ⟨dv, mv, vv, bv, rfl, f2, hck⟩
  rw [show AS.new 10000 = new0 from rfl, loadE] at hck
  rw [show AS.new 10000 = new0 from rfl, loadE]
  obtain ⟨A1, n1, c1, A2, n2, c2, A3, n3, c3, A4, n4, c4, rfl, rfl, rfl, rfl⟩ := hck.forms
  clear hck
  obtain ⟨w3, hw3⟩ : ∃ w3, w2.alloc (.cells #[.int .i64 0, .slice A1 n1 c1, .slice A2 n2 c2, .slice A3 n3 c3, .slice A4 n4 c4] 28) = w3 := ⟨_, rfl⟩
  have f3 : Fr No w2 w3 := by rw [← hw3]; exact (Fr.refl _ w2).alloc _
  have f13 := f2.trans f3 fun _ _ h => h
  have HW3 := Lib.hid hw3
  have D3 := Lib.hid (D1.out.keep f13)
  have V3 := Lib.hid (V1.out.keep f13)
  have F3 := Lib.hid (F1.out.trans f13 fun _ _ h => h)
  clear f2 f3 f13 hw3
  unfold ckv CkP.zero
  have CS := Lib.hid (small_any 2 (by unfold i64; omega) w3)
  go_wp2_with fail
  rw [HW3.out]
  refine CS.out.mono ?_
  clear CS
  rintro e w4 ⟨dv, mv, vv, bv, rfl, f4, hck⟩
  have D4 := D3.out.keep f4
  have V4 := Lib.hid (V3.out.keep f4)
  have F4 := Lib.hid (F3.out.trans f4 fun _ _ h => h)
  have CV := Lib.hid (save_any D4 (by omega) V4.out (fun k => k < w4.heap.size) _ _ _ _ _ hck.bound (fun _ h => h) (by simp [smallP]))
  rw [show AS.new 10000 = new0 from rfl, saveW0] at CV
  clear hck D4 f4
  go_wp2_with fail
  refine CV.out.mono ?_
  clear CV
  rintro e w5 ⟨rfl, h5, f5⟩
  rw [run0]
  have D5 := Lib.hid h5
  have hb3 : 3 ≤ B := by have := HV.out.lt; have := HB.out; omega
  have V5 := Lib.hid (V4.out.of fun k hk => f5.block k (by have := V4.out.lt; omega) (fun hn => hn (by omega)))
  have F5 := Lib.hid (F4.out.trans f5 fun j hj hn => hn (by have := HB.out; omega))
  clear f5 h5 hb3
  have CL2 := Lib.hid (load_ck_any D5.out V5.out)
  rw [load0] at CL2
  go_wp2_with fail
  refine CL2.out.mono ?_
  clear CL2
  rintro e w6 ⟨dv, mv, vv, bv, rfl, f6, hck⟩
  obtain ⟨A1, n1, c1, A2, n2, c2, A3, n3, c3, A4, n4, c4, rfl, rfl, rfl, rfl⟩ := hck.forms
  obtain ⟨w7, hw7⟩ : ∃ w7, w6.alloc (.cells #[.int .i64 2, .slice A1 n1 c1, .slice A2 n2 c2, .slice A3 n3 c3, .slice A4 n4 c4] 28) = w7 := ⟨_, rfl⟩
  obtain ⟨g, hg⟩ : ∃ g, w6.heap.size = g := ⟨_, rfl⟩
  have f7 : Fr No w6 w7 := by rw [← hw7]; exact (Fr.refl _ w6).alloc _
  have hck7 : CkAt (fun k => k < w7.heap.size) w7 (smallP 2) (.slice A1 n1 c1) (.slice A2 n2 c2) (.slice A3 n3 c3) (.slice A4 n4 c4) :=
    (hck.bound.of fun k hk => f7.block k hk id).mono fun k hk => Nat.lt_of_lt_of_le hk f7.size
  have b7 : Blk w7 g 28 #[.int .i64 2, .slice A1 n1 c1, .slice A2 n2 c2, .slice A3 n3 c3, .slice A4 n4 c4] := by rw [← hw7, ← hg]; exact Blk.new w6 28 _
  have x0 : w7.cell? ⟨g, 0, none⟩ = some (.int .i64 2) := b7.cell 0
  have x1 : w7.cell? ⟨g, 1, none⟩ = some (.slice A1 n1 c1) := b7.cell 1
  have x2 : w7.cell? ⟨g, 2, none⟩ = some (.slice A2 n2 c2) := b7.cell 2
  have x3 : w7.cell? ⟨g, 3, none⟩ = some (.slice A3 n3 c3) := b7.cell 3
  have x4 : w7.cell? ⟨g, 4, none⟩ = some (.slice A4 n4 c4) := b7.cell 4
  have f67 := f6.trans f7 fun _ _ h => h
  have V7 := Lib.hid (V5.out.keep f67)
  have F7 := Lib.hid (F5.out.trans f67 fun _ _ h => h)
  have HCK := Lib.hid hck7
  have HW7 := Lib.hid hw7
  have HG := Lib.hid hg
  have HB7 := Lib.hid b7
  have CS : Hid (∀ wx : World, Fr No w7 wx → Calls Tryz.prog 33 #[.int .i64 2] wx fun e w' => ∃ C1 i1 j1 C2 i2 j2 C3 i3 j3 C4 i4 j4, e = .returned (ckv (smallP 2) (.slice C1 i1 j1) (.slice C2 i2 j2) (.slice C3 i3 j3) (.slice C4 i4 j4)) ∧ Fr No w7 w' ∧ CkAt (fun k => k < w'.heap.size) w' (smallP 2) (.slice C1 i1 j1) (.slice C2 i2 j2) (.slice C3 i3 j3) (.slice C4 i4 j4) ∧ Blk w' g 28 #[.int .i64 2, .slice A1 n1 c1, .slice A2 n2 c2, .slice A3 n3 c3, .slice A4 n4 c4]) := Lib.hid fun wx hx =>
    (small_any 2 (by unfold i64; omega) wx).mono fun e w8 h => by
      obtain ⟨dv, mv, vv, bv, he, f8, hc⟩ := h
      obtain ⟨C1, i1, j1, C2, i2, j2, C3, i3, j3, C4, i4, j4, rfl, rfl, rfl, rfl⟩ := hc.forms
      have f := hx.trans f8 fun _ _ h => h
      exact ⟨C1, i1, j1, C2, i2, j2, C3, i3, j3, C4, i4, j4, he, f, hc.bound, b7.of (f.block _ b7.lt id)⟩
  have CM : Hid (∀ (wx : World) C1 i1 j1 C2 i2 j2 C3 i3 j3 C4 i4 j4, Fr No w7 wx → CkAt (fun k => k < wx.heap.size) wx (smallP 2) (.slice C1 i1 j1) (.slice C2 i2 j2) (.slice C3 i3 j3) (.slice C4 i4 j4) →
      Calls Tryz.prog 16 #[ckv (smallP 2) (.slice A1 n1 c1) (.slice A2 n2 c2) (.slice A3 n3 c3) (.slice A4 n4 c4), ckv (smallP 2) (.slice C1 i1 j1) (.slice C2 i2 j2) (.slice C3 i3 j3) (.slice C4 i4 j4)] wx fun e w' => e = .returned (.bool true) ∧ Fr No w7 w') := Lib.hid fun wx C1 i1 j1 C2 i2 j2 C3 i3 j3 C4 i4 j4 hx hc =>
    (same_any (smallP 2) (smallP 2) _ _ _ _ _ _ _ _ wx ((hck7.of fun k hk => hx.block k hk id).mono fun k hk => Nat.lt_of_lt_of_le hk hx.size) hc ckb0 ckb0).mono fun e w8 h => ⟨by rw [h.1, same0], hx.trans h.2 fun _ _ h => h⟩
  have CF : Hid (∀ wx : World, Fr No w7 wx → Calls Tryz.prog 13 #[.int .i64 1] wx fun e w' => e = .returned (.string ⟨#[99, 97, 116, 45, 48, 48, 48, 48, 48, 48, 48, 49]⟩) ∧ Fr No w w') := Lib.hid fun wx hx =>
    (file_any 1 wx (V7.out.keep hx) (by omega) (by omega)).mono fun e w8 h => ⟨by rw [h.1, file0], (F7.out.trans hx fun _ _ h => h).trans h.2 fun _ _ h => h⟩
  unfold ckv smallP at CS CM
  clear hck hck7 f6 f7 f67 b7 hw7 hg
  unfold ckv smallP
  go_upto_region 7 with fail
  rw [HW7.out, HG.out]
  go_region_with (first
    | (go_at_call 33; refine (CS.out _ (by first | exact ((Fr.refl No w7).drew) | exact (Fr.refl No w7))).mono ?_; rintro e w8 ⟨C1, i1, j1, C2, i2, j2, C3, i3, j3, C4, i4, j4, rfl, f8, hc, hb⟩; have F8 := Lib.hid f8; have HC8 := Lib.hid hc; have y0 : w8.cell? ⟨g, 0, none⟩ = some (.int .i64 2) := hb.cell 0; have y1 : w8.cell? ⟨g, 1, none⟩ = some (.slice A1 n1 c1) := hb.cell 1; have y2 : w8.cell? ⟨g, 2, none⟩ = some (.slice A2 n2 c2) := hb.cell 2; have y3 : w8.cell? ⟨g, 3, none⟩ = some (.slice A3 n3 c3) := hb.cell 3; have y4 : w8.cell? ⟨g, 4, none⟩ = some (.slice A4 n4 c4) := hb.cell 4; clear f8 hc hb)
    | (go_at_call 16; refine (CM.out _ _ _ _ _ _ _ _ _ _ _ _ _ F8.out HC8.out).mono ?_; rintro e w9 ⟨rfl, f9⟩; have F9 := Lib.hid f9; clear f9))
  all_goals
    go_wp2_with fail
    refine (CF.out _ F9.out).mono ?_
    rintro e w10 ⟨rfl, f10⟩
    have F10 := Lib.hid f10
    clear f10
    go_wp2
    go_ret
    exact ⟨rfl, F10.out⟩
end Go.Proofs.YtoaiofjcjjkfaaaGreatDoor
/- CatalogNil walked. -/
namespace Go.Proofs.YtoaiofjcjjkfaaaGreatDoor
open Go.RowKit Go.Maps Go.Sort
set_option linter.unusedVariables false

set_option maxRecDepth 100000 in
set_option maxHeartbeats 1000000 in
theorem save_nil (n : Int) (A1 : Option Addr) (n1 k1 : Nat) (A2 : Option Addr) (n2 k2 : Nat) (A3 : Option Addr) (n3 k3 : Nat) (A4 : Option Addr) (n4 k4 : Nat) (w : World) :
    Calls Tryz.prog 27 #[.pointer none, .agg #[.int .i64 n, .slice A1 n1 k1, .slice A2 n2 k2, .slice A3 n3 k3, .slice A4 n4 k4]] w fun e w' => e = .returned (.int .i64 1) ∧ Fr No w w' := by
  obtain ⟨w1, hw1⟩ : ∃ w1, w.alloc (.cells #[.int .i64 n, .slice A1 n1 k1, .slice A2 n2 k2, .slice A3 n3 k3, .slice A4 n4 k4] 28) = w1 := ⟨_, rfl⟩
  have f1 : Fr No w w1 := by rw [← hw1]; exact (Fr.refl _ w).alloc _
  have HW1 := Lib.hid hw1
  have F1 := Lib.hid f1
  clear hw1 f1
  go_enter Tryz.func27, Tryz.ntmps27
  go_wp2
  go_ret
  exact ⟨rfl, by first | exact F1.out | (rw [HW1.out]; exact F1.out)⟩

theorem frame0 : ∃ l, frameR [] = l ∧ (readP l).2 = 27 ∧ l.length = 8 := ⟨_, rfl, by kernel_rfl, by kernel_rfl⟩
set_option maxRecDepth 100000 in
set_option maxHeartbeats 2000000 in
theorem catalogNil_any (n : Int) (A1 : Option Addr) (n1 k1 : Nat) (A2 : Option Addr) (n2 k2 : Nat) (A3 : Option Addr) (n3 k3 : Nat) (A4 : Option Addr) (n4 k4 : Nat) (w : World) (hv : Vr w) :
    Calls Tryz.prog 9 #[.agg #[.int .i64 n, .slice A1 n1 k1, .slice A2 n2 k2, .slice A3 n3 k3, .slice A4 n4 k4]] w fun e w' => e = .returned (.bool true) ∧ Fr No w w' := by
  obtain ⟨B, hB⟩ : ∃ B, w.heap.size = B := ⟨_, rfl⟩
  obtain ⟨w1, hw1⟩ : ∃ w1, w.alloc (.cells #[.int .i64 n, .slice A1 n1 k1, .slice A2 n2 k2, .slice A3 n3 k3, .slice A4 n4 k4] 28) = w1 := ⟨_, rfl⟩
  have f1 : Fr No w w1 := by rw [← hw1]; exact (Fr.refl _ w).alloc _
  have b1 : Blk w1 B 28 #[.int .i64 n, .slice A1 n1 k1, .slice A2 n2 k2, .slice A3 n3 k3, .slice A4 n4 k4] := by rw [← hw1, ← hB]; exact Blk.new w 28 _
  have HW1 := Lib.hid hw1
  have F1 := Lib.hid f1
  have B1 := Lib.hid b1
  have V1 := Lib.hid (hv.keep f1)
  have HB := Lib.hid hB
  have CL := Lib.hid (load_nil w1)
  clear hw1 f1 b1 hv hB
  go_enter Tryz.func9, Tryz.ntmps9
  go_wp2_with fail
  rw [HW1.out]
  refine CL.out.mono ?_
  clear CL
  rintro e w2 ⟨dv, mv, vv, bv, rfl, f2, hck⟩
  obtain ⟨C1, i1, j1, C2, i2, j2, C3, i3, j3, C4, i4, j4, rfl, rfl, rfl, rfl⟩ := hck.forms
  obtain ⟨w3, hw3⟩ : ∃ w3, w2.alloc (.cells #[.int .i64 0, .slice C1 i1 j1, .slice C2 i2 j2, .slice C3 i3 j3, .slice C4 i4 j4] 28) = w3 := ⟨_, rfl⟩
  have f3 : Fr No w1 w3 := by rw [← hw3]; exact f2.alloc _
  have HW3 := Lib.hid hw3
  have F3 := Lib.hid f3
  clear hck f2 f3 hw3
  obtain ⟨l, hl, hr, hn⟩ := frame0
  have CF := rframe_any [] w3 (by simp)
  unfold Framed at CF
  rw [frameV_ok (by simp), hl] at CF
  have CR : Hid (∀ wx : World, Calls Tryz.prog 15 #[sv l] wx (RdP wx (readP l).1 27)) := Lib.hid fun wx => by rw [← hr]; exact read_ck_any l wx (by omega)
  have HCF := Lib.hid CF
  clear hl hr hn CF
  generalize (readP l).1 = rc at *
  unfold ckv CkP.zero
  go_wp2_with fail
  rw [HW3.out]
  refine HCF.out.mono ?_
  clear HCF
  rintro e w4 ⟨rfl, b4⟩
  have f4 : Fr No w3 w4 := ⟨b4.os, b4.tape, b4.output, b4.size, fun k hk _ => b4.block k hk⟩
  have F4 := Lib.hid (F3.out.trans f4 fun _ _ h => h)
  clear b4 f4
  go_wp2_with fail
  refine (CR.out _).mono ?_
  clear CR
  rintro e w5 ⟨dv, mv, vv, bv, rfl, f5, hck⟩
  obtain ⟨D1, p1, q1, D2, p2, q2, D3, p3, q3, D4, p4, q4, rfl, rfl, rfl, rfl⟩ := hck.forms
  obtain ⟨w6, hw6⟩ : ∃ w6, w5.alloc (.cells #[.int .i64 rc.seq, .slice D1 p1 q1, .slice D2 p2 q2, .slice D3 p3 q3, .slice D4 p4 q4] 28) = w6 := ⟨_, rfl⟩
  have f6 : Fr No w1 w6 := by rw [← hw6]; exact (F4.out.trans f5 fun _ _ h => h).alloc _
  have HW6 := Lib.hid hw6
  have F6 := Lib.hid f6
  have CA := Lib.hid (awake_any w6 (V1.out.keep f6))
  clear hck f5 f6 hw6
  unfold ckv
  go_wp2_with fail
  rw [HW6.out]
  refine CA.out.mono ?_
  clear CA
  rintro e w7 ⟨rfl, f7⟩
  have f17 := F6.out.trans f7 fun _ _ h => h
  have b7 := B1.out.of (f17.block _ B1.out.lt id)
  have x0 : w7.cell? ⟨B, 0, none⟩ = some (.int .i64 n) := b7.cell 0
  have x1 : w7.cell? ⟨B, 1, none⟩ = some (.slice A1 n1 k1) := b7.cell 1
  have x2 : w7.cell? ⟨B, 2, none⟩ = some (.slice A2 n2 k2) := b7.cell 2
  have x3 : w7.cell? ⟨B, 3, none⟩ = some (.slice A3 n3 k3) := b7.cell 3
  have x4 : w7.cell? ⟨B, 4, none⟩ = some (.slice A4 n4 k4) := b7.cell 4
  have F7 := Lib.hid (F1.out.trans f17 fun _ _ h => h)
  clear f7 f17 b7
  rw [HB.out]
  go_wp2_with fail
  refine (save_nil _ _ _ _ _ _ _ _ _ _ _ _ _ _).mono ?_
  rintro e w8 ⟨rfl, f8⟩
  have F8 := Lib.hid (F7.out.trans f8 fun _ _ h => h)
  clear f8
  go_wp2
  go_ret
  exact ⟨rfl, F8.out⟩
end Go.Proofs.YtoaiofjcjjkfaaaGreatDoor
/- A checkpoint as an argument: opened, with what it weighs. -/
namespace Go.Proofs.YtoaiofjcjjkfaaaGreatDoor
open Go.RowKit Go.ChangeShapes Go.WideShapes Go.ChangeAt
set_option linter.unusedVariables false

instance : Inhabited FactP := ⟨⟨[], []⟩⟩
theorem one_eq {a v : Value} (h : [a] = [v]) : a = v := by injection h
theorem len2 {cs : List Value} (h : cs.length = 2) : ∃ a b, cs = [a, b] := by
  match cs, h with
  | [a, b], _ => exact ⟨a, b, rfl⟩
theorem wf_i64_bd {n : Int} (h : (Lit.int .i64 n).wf = true) : -9223372036854775808 ≤ n ∧ n ≤ 9223372036854775807 := by
  simp only [Lit.wf, Bool.and_eq_true, decide_eq_true_eq] at h
  simp [IntKind.min, IntKind.max, IntKind.signed, IntKind.bits] at h
  omega

set_option maxRecDepth 100000 in
theorem Tryz.c2 : Tryz.prog.cellsOf 2 = 1 := by kernel_rfl
theorem Tryz.c3 : Tryz.prog.cellsOf 3 = 1 := by kernel_rfl
theorem Tryz.c9 : Tryz.prog.cellsOf 9 = 1 := by kernel_rfl
theorem Tryz.c22 : Tryz.prog.cellsOf 22 = 1 := by kernel_rfl
theorem Tryz.c137 : Tryz.prog.cellsOf 137 = 1 := by kernel_rfl
theorem Tryz.c139 : Tryz.prog.cellsOf 139 = 2 := by kernel_rfl
theorem Tryz.c76 : Tryz.prog.cellsOf 76 = 1 := by kernel_rfl
theorem Tryz.c26 : Tryz.prog.cellsOf 26 = 1 := by kernel_rfl
theorem Tryz.c25 : Tryz.prog.cellsOf 25 = 1 := by kernel_rfl
theorem Tryz.c24 : Tryz.prog.cellsOf 24 = 2 := by kernel_rfl
theorem Tryz.c28 : Tryz.prog.cellsOf 28 = 5 := by kernel_rfl
section
variable {H : Type} {enc : TypeId × Value → H} {M : Nat}
theorem bulk_one (d : DataW H) : 1 ≤ Rows.uptoBulk d := by
  cases d with
  | lit l => cases l <;> simp [Rows.uptoBulk]
  | nil => simp [Rows.uptoBulk]
  | ptr d => simp [Rows.uptoBulk]
  | slice elems spare => simp [Rows.uptoBulk]
  | agg parts => simp [Rows.uptoBulk]
  | iface t d => simp [Rows.uptoBulk]
  | map entries => simp [Rows.uptoBulk]
  | held h => simp [Rows.uptoBulk]
theorem bulk_sum {α : Type} (f : Nat → α) (β : α → Nat) (D : Nat → DataW H) : ∀ L : List Nat, (∀ i ∈ L, β (f i) ≤ 16 * Rows.uptoBulk (D i)) → ((L.map f).map β).sum ≤ 16 * Rows.uptoBulkAll (L.map D)
  | [], _ => by simp
  | i :: L, h => by
    have h1 := h i (by simp)
    have h2 := bulk_sum f β D L fun j hj => h j (by simp [hj])
    simp only [List.map_cons, List.sum_cons, Rows.uptoBulkAll]
    omega
theorem bulk_part {d : DataW H} : ∀ {l : List (DataW H)}, d ∈ l → Rows.uptoBulk d ≤ Rows.uptoBulkAll l
  | [], h => by cases h
  | x :: l, h => by
    simp only [Rows.uptoBulkAll]
    rcases List.mem_cons.1 h with rfl | h
    · omega
    · have := bulk_part h; omega

/-- Any row, its elements opened by a way of their own, and what it weighs. -/
theorem open_rowB {α : Type} [Inhabited α] {W : World} (E : α → List Value → Prop) (β : α → Nat) (t e size : Nat) (ht : Tryz.prog.underlying t = some (.slice e)) (hsz : Tryz.prog.cellsOf e = size) (h0 : 0 < size)
    (hE : ∀ fuel cs x, cs.length = size → DataW.trod enc Tryz.prog W 0 (fun _ => true) true fuel e cs = some x → Rows.uptoBulk x.1 ≤ M → ∃ y, E y cs ∧ β y ≤ 16 * Rows.uptoBulk x.1)
    {fuel : Nat} {cs : List Value} {x : DataW H × List MemPlace} (h : DataW.trod enc Tryz.prog W 0 (fun _ => true) true fuel t cs = some x) (hb : Rows.uptoBulk x.1 ≤ M) :
    ∃ v l, cs = [v] ∧ RowE (fun k => k < W.heap.size) W size E v l ∧ (∀ A n c, v = .slice A n c → n ≤ c) ∧ 4 + (l.map β).sum ≤ 16 * Rows.uptoBulk x.1 := by
  rcases Go.Deep.open_slice ht h with ⟨rfl, rfl⟩ | ⟨a, len, cap, m, n, D, Pl, rfl, hbs, hl, hm, hmm, rfl, hi⟩
  · refine ⟨_, [], rfl, RowE.nil _ _ _ _ _, fun A n c e => ?_, by simp [Rows.uptoBulk]⟩
    injection e with e1 e2 e3; omega
  · simp only [if_true] at hmm
    rw [hsz] at hi
    simp only [Rows.uptoBulk] at hb ⊢
    have hel : ∀ i, ∃ y : α, i < len → (∃ cs' : List Value, cs'.length = size ∧ (∀ j, j < size → W.cell? ((a.add (i * size)).add j) = cs'[j]?) ∧ E y cs') ∧ β y ≤ 16 * Rows.uptoBulk (D i) := by
      intro i
      by_cases hil : i < len
      · obtain ⟨cs', hc, htr⟩ := hi i (by omega)
        obtain ⟨_, hlen, hat⟩ := World.cells?_some hc
        have hp : Rows.uptoBulk (D i) ≤ Rows.uptoBulkAll ((List.range len).map D) := bulk_part (List.mem_map.2 ⟨i, List.mem_range.2 hil, rfl⟩)
        obtain ⟨y, hy, hw⟩ := hE _ _ _ hlen htr (by show Rows.uptoBulk (D i) ≤ M; omega)
        exact ⟨y, fun _ => ⟨⟨cs', hlen, hat, hy⟩, hw⟩⟩
      · exact ⟨default, fun h => absurd h hil⟩
    obtain ⟨f, hf⟩ := Classical.axiomOfChoice hel
    refine ⟨_, (List.range len).map f, rfl, ⟨some a, cap, by simp, by simp; omega, fun hl0 => ?_⟩, fun A n c e => ?_, ?_⟩
    · have hlen0 : 0 < len := by simpa using hl0
      obtain ⟨cs0, hl1, hc0, _⟩ := (hf 0 hlen0).1
      have hc00 := hc0 0 h0
      rw [List.getElem?_eq_getElem (by omega)] at hc00
      obtain ⟨b, off, spot⟩ := a
      have hspot : spot = none := by simpa [Addr.add] using World.cell?_spot hc00
      subst hspot
      refine ⟨b, off, rfl, ?_, fun j hj => ?_⟩
      · have := World.block_lt_of_cell? W _ hc00
        simpa [Addr.add] using this
      · rw [List.length_map, List.length_range] at hj
        obtain ⟨cs', h1, h2, h3⟩ := (hf j hj).1
        refine ⟨cs', h1, fun i hi' => ?_, by rw [List.getElem_map, List.getElem_range]; exact h3⟩
        have := h2 i hi'
        rw [Addr.add_lit, Addr.add_lit] at this
        exact this
    · injection e with e1 e2 e3; omega
    · have := bulk_sum f β D (List.range len) fun i hi => (hf i (List.mem_range.1 hi)).2
      omega

theorem row_bytes {α : Type} (b : α → List UInt8) (l : List α) : (bRow b l).length = 4 + (l.map fun x => (b x).length).sum := by
  unfold bRow
  rw [List.length_append, low_len]
  induction l with
  | nil => rfl
  | cons x l ih =>
    have := ih
    simp only [List.flatMap_cons, List.length_append, List.map_cons, List.sum_cons] at this ⊢
    omega
theorem flat_many {α : Type} (b : α → List UInt8) (h : ∀ x, 1 ≤ (b x).length) : ∀ l : List α, l.length ≤ (l.flatMap b).length
  | [] => by simp
  | x :: l => by
    have h1 := h x
    have h2 := flat_many b h l
    simp only [List.flatMap_cons, List.length_append, List.length_cons]
    omega
theorem bText_len (s : List UInt8) : (bText s).length = 4 + s.length := by unfold bText; rw [List.length_append, low_len]
theorem enc8_len (n : Int) : (enc8 n).length = 8 := by unfold enc8; rw [low_len]
variable {W : World}
theorem openB_str (fuel : Nat) (cs : List Value) (x : DataW H × List MemPlace) (hl : cs.length = 1) (h : DataW.trod enc Tryz.prog W 0 (fun _ => true) true fuel 9 cs = some x) (hb : Rows.uptoBulk x.1 ≤ M) : ∃ y, strE y cs ∧ (bText y).length ≤ 16 * Rows.uptoBulk x.1 := by
  obtain ⟨s, e4, rfl, w4⟩ := DataW.trod_string Tryz.underlying9 h
  refine ⟨s.data.toList, ⟨e4, (Array.length_toList (xs := s.data)).symm ▸ w4⟩, ?_⟩
  rw [bText_len]
  simp only [Rows.uptoBulk]
  omega
theorem openB_int (fuel : Nat) (cs : List Value) (x : DataW H × List MemPlace) (hl : cs.length = 1) (h : DataW.trod enc Tryz.prog W 0 (fun _ => true) true fuel 2 cs = some x) (hb : Rows.uptoBulk x.1 ≤ M) : ∃ y, intE y cs ∧ (enc8 y).length ≤ 16 * Rows.uptoBulk x.1 := by
  obtain ⟨n, e, r, w⟩ := DataW.trod_int Tryz.underlying2 h
  have h1 := bulk_one x.1
  exact ⟨n, ⟨e, wf_i64_bd w⟩, by rw [enc8_len]; omega⟩
theorem openB_strs {fuel : Nat} {cs : List Value} {x : DataW H × List MemPlace} (h : DataW.trod enc Tryz.prog W 0 (fun _ => true) true fuel 22 cs = some x) (hb : Rows.uptoBulk x.1 ≤ M) : ∃ v l, cs = [v] ∧ RowE (fun k => k < W.heap.size) W 1 strE v l ∧ (bRow bText l).length ≤ 16 * Rows.uptoBulk x.1 := by
  obtain ⟨v, l, e, r, _, hw⟩ := open_rowB strE (fun s => (bText s).length) 22 9 1 Tryz.underlying22 Tryz.c9 (by omega) openB_str h hb
  exact ⟨v, l, e, r, by rw [row_bytes]; exact hw⟩
theorem openB_ints {fuel : Nat} {cs : List Value} {x : DataW H × List MemPlace} (h : DataW.trod enc Tryz.prog W 0 (fun _ => true) true fuel 137 cs = some x) (hb : Rows.uptoBulk x.1 ≤ M) : ∃ v l, cs = [v] ∧ RowE (fun k => k < W.heap.size) W 1 intE v l ∧ (bRow enc8 l).length ≤ 16 * Rows.uptoBulk x.1 := by
  obtain ⟨v, l, e, r, _, hw⟩ := open_rowB intE (fun s => (enc8 s).length) 137 2 1 Tryz.underlying137 Tryz.c2 (by omega) openB_int h hb
  exact ⟨v, l, e, r, by rw [row_bytes]; exact hw⟩
set_option maxRecDepth 100000 in
theorem openB_fact (fuel : Nat) (cs : List Value) (x : DataW H × List MemPlace) (hl : cs.length = 2) (h : DataW.trod enc Tryz.prog W 0 (fun _ => true) true fuel 139 cs = some x) (hb : Rows.uptoBulk x.1 ≤ M) : ∃ y, factE (fun k => k < W.heap.size) W y cs ∧ (bFact y).length ≤ 16 * Rows.uptoBulk x.1 := by
  obtain ⟨xs, n, _, rfl, hlen, hxl, hg⟩ := DataW.trod_struct Tryz.underlying139 h
  obtain ⟨a, b, rfl⟩ := len2 hl
  have hx3 : xs.length = 2 := hxl
  match xs, hx3 with
  | [x0, x1], _ =>
    have g0 : DataW.trod enc Tryz.prog W 0 (fun _ => true) true n 22 (([a, b].drop 0).take (Tryz.prog.cellsOf 22)) = some x0 := hg 0 _ rfl
    have g1 : DataW.trod enc Tryz.prog W 0 (fun _ => true) true n 137 (([a, b].drop 1).take (Tryz.prog.cellsOf 137)) = some x1 := hg 1 _ rfl
    rw [Tryz.c22] at g0
    rw [Tryz.c137] at g1
    simp only [List.map_cons, List.map_nil, Rows.uptoBulk, Rows.uptoBulkAll] at hb ⊢
    obtain ⟨v0, l0, e0, r0, b0⟩ := openB_strs (M := M) g0 (by omega)
    obtain ⟨v1, l1, e1, r1, b1⟩ := openB_ints (M := M) g1 (by omega)
    obtain rfl := one_eq e0
    obtain rfl := one_eq e1
    refine ⟨⟨l0, l1⟩, ⟨_, _, rfl, r0, r1⟩, ?_⟩
    unfold bFact
    rw [List.length_append]
    simp only
    omega

theorem openB_int3 (fuel : Nat) (cs : List Value) (x : DataW H × List MemPlace) (hl : cs.length = 1) (h : DataW.trod enc Tryz.prog W 0 (fun _ => true) true fuel 3 cs = some x) (hb : Rows.uptoBulk x.1 ≤ M) : ∃ y, intE y cs ∧ (enc8 y).length ≤ 16 * Rows.uptoBulk x.1 := by
  obtain ⟨n, e, r, w⟩ := DataW.trod_int Tryz.underlying3 h
  have h1 := bulk_one x.1
  exact ⟨n, ⟨e, wf_i64_bd w⟩, by rw [enc8_len]; omega⟩
theorem openB_bat (fuel : Nat) (cs : List Value) (x : DataW H × List MemPlace) (hl : cs.length = 1) (h : DataW.trod enc Tryz.prog W 0 (fun _ => true) true fuel 76 cs = some x) (hb : Rows.uptoBulk x.1 ≤ M) : ∃ y, batE (fun k => k < W.heap.size) W y cs ∧ (bRow bFact y).length ≤ 16 * Rows.uptoBulk x.1 := by
  obtain ⟨v, l, e, r, _, hw⟩ := open_rowB (M := M) (factE (fun k => k < W.heap.size) W) (fun f => (bFact f).length) 76 139 2 Tryz.underlying76 Tryz.c139 (by omega) openB_fact h hb
  exact ⟨l, ⟨v, e, r⟩, by rw [row_bytes]; exact hw⟩
set_option maxRecDepth 100000 in
theorem openB_ck {v : Value} {d : DataW H} {ps : List MemPlace} {b0 : Nat} (hval : Value.okWide Tryz.prog W .any b0 28 v) (h : DataW.Trod enc Tryz.prog W 0 (fun _ => true) true 28 v d ps) (hb : Rows.uptoBulk d ≤ M) :
    ∃ c dv mv vv bv, v = ckv c dv mv vv bv ∧ CkAt (fun k => k < W.heap.size) W c dv mv vv bv ∧ (bRow bText c.dims).length + (bRow bText c.meas).length + (4 + (c.views.map fun x => (enc8 x).length).sum) + (4 + (c.bats.map fun b => (bRow bFact b).length).sum) ≤ 16 * Rows.uptoBulk d := by
  obtain ⟨cs, rfl, hsz⟩ := okWide_struct Tryz.underlying28 hval
  obtain ⟨fuel, hf⟩ := h
  rw [Tryz.c28] at hsz
  obtain ⟨csl⟩ := cs
  have hl5 : csl.length = 5 := hsz
  obtain ⟨a, b, c, e, f, rfl⟩ : ∃ a b c e f, csl = [a, b, c, e, f] := by
    match csl, hl5 with
    | [a, b, c, e, f], _ => exact ⟨a, b, c, e, f, rfl⟩
  have hf' : DataW.trod enc Tryz.prog W 0 (fun _ => true) true fuel 28 [a, b, c, e, f] = some (d, ps) := by simpa [Value.cells] using hf
  obtain ⟨xs, n, hx, hd, hlen, hxl, hg⟩ := DataW.trod_struct Tryz.underlying28 hf'
  have hx3 : xs.length = 4 := hxl
  match xs, hx3 with
  | [x0, x1, x2, x3], _ =>
    have g0 : DataW.trod enc Tryz.prog W 0 (fun _ => true) true n 3 (([a, b, c, e, f].drop 0).take (Tryz.prog.cellsOf 3)) = some x0 := hg 0 _ rfl
    have g1 : DataW.trod enc Tryz.prog W 0 (fun _ => true) true n 24 (([a, b, c, e, f].drop 1).take (Tryz.prog.cellsOf 24)) = some x1 := hg 1 _ rfl
    have g2 : DataW.trod enc Tryz.prog W 0 (fun _ => true) true n 25 (([a, b, c, e, f].drop 3).take (Tryz.prog.cellsOf 25)) = some x2 := hg 2 _ rfl
    have g3 : DataW.trod enc Tryz.prog W 0 (fun _ => true) true n 26 (([a, b, c, e, f].drop 4).take (Tryz.prog.cellsOf 26)) = some x3 := hg 3 _ rfl
    rw [Tryz.c3] at g0
    rw [Tryz.c24] at g1
    rw [Tryz.c25] at g2
    rw [Tryz.c26] at g3
    injection hd with hd1 hd2
    subst hd1
    simp only [List.map_cons, List.map_nil, Rows.uptoBulk, Rows.uptoBulkAll] at hb ⊢
    obtain ⟨n0, e0, r0, w0⟩ := DataW.trod_int Tryz.underlying3 g0
    obtain ⟨ys, m, _, hy, _, hyl, hh⟩ := DataW.trod_struct Tryz.underlying24 g1
    have hy2 : ys.length = 2 := hyl
    match ys, hy2 with
    | [y0, y1], _ =>
      have k0 : DataW.trod enc Tryz.prog W 0 (fun _ => true) true m 22 (([b, c].drop 0).take (Tryz.prog.cellsOf 22)) = some y0 := hh 0 _ rfl
      have k1 : DataW.trod enc Tryz.prog W 0 (fun _ => true) true m 22 (([b, c].drop 1).take (Tryz.prog.cellsOf 22)) = some y1 := hh 1 _ rfl
      rw [Tryz.c22] at k0 k1
      subst hy
      simp only [List.map_cons, List.map_nil, Rows.uptoBulk, Rows.uptoBulkAll] at hb ⊢
      obtain ⟨v1, l1, e1, q1, b1⟩ := openB_strs (M := M) k0 (by omega)
      obtain ⟨v2, l2, e2, q2, b2⟩ := openB_strs (M := M) k1 (by omega)
      obtain ⟨v3, l3, e3, q3, _, b3⟩ := open_rowB (M := M) intE (fun s => (enc8 s).length) 25 3 1 Tryz.underlying25 Tryz.c3 (by omega) openB_int3 g2 (by omega)
      obtain ⟨v4, l4, e4, q4, _, b4⟩ := open_rowB (M := M) (batE (fun k => k < W.heap.size) W) (fun b => (bRow bFact b).length) 26 76 1 Tryz.underlying26 Tryz.c76 (by omega) openB_bat g3 (by omega)
      obtain rfl := one_eq e0
      obtain rfl := one_eq e1
      obtain rfl := one_eq e2
      obtain rfl := one_eq e3
      obtain rfl := one_eq e4
      exact ⟨⟨n0, l1, l2, l3, l4⟩, _, _, _, _, rfl, ⟨wf_i64_bd w0, q1, q2, q3, q4⟩, by simp only; omega⟩
end
end Go.Proofs.YtoaiofjcjjkfaaaGreatDoor
/- The rows of the catalog: what they have in common: the laid variables; CatalogNil: for every input it returns true, and its argument reads as it did. -/
namespace Go.Proofs.YtoaiofjcjjkfaaaGreatDoor
open Go.RowKit Go.ChangeShapes Go.WideShapes Go.ChangeAt
open Go.ChangeMaps (open_string shut_string)
set_option linter.unusedVariables false

theorem Tryz.laidOut : laidOutB Tryz.prog = true := by kernel_rfl
theorem ownN : ownKnob Tryz.prog.godebug = none := by kernel_rfl
theorem rowErr (u : TypeId) (h : Tryz.prog.typeName? 3 u = some "*errors.errorString") : u = 266 :=
  typeName_ptr_named (nm := "errors.errorString") (by rw [show "*" ++ "errors.errorString" = "*errors.errorString" by decide]; kernel_rfl) (by kernel_rfl) (by decide) u (by rw [show "*" ++ "errors.errorString" = "*errors.errorString" by decide]; exact h)
def laidN : List (String × DataW Unit) := [("math/bits.deBruijn32tab", Rows.laid_math_bits_deBruijn32tab), ("math/bits.deBruijn64tab", Rows.laid_math_bits_deBruijn64tab), ("internal/strconv.uint64pow10", Rows.laid_internal_strconv_uint64pow10), ("strconv.ErrRange", Rows.laid_strconv_ErrRange), ("strconv.ErrSyntax", Rows.laid_strconv_ErrSyntax)]
theorem vr_of_laid {W : World} (h0 : laidMetH Tryz.prog laidN W) : Vr W := by
  have h : laidMet Tryz.prog laidN W := by
    rw [MakeChecks.laidMetH_plain _ _ _ (by kernel_rfl)] at h0
    exact h0
  have h3 := laidMet.tail (laidMet.tail h)
  obtain ⟨a0, s0, hv0, _⟩ := laid_sentinel (g := 2) (laidMet.tail h3) (by kernel_rfl) (by kernel_rfl) Tryz.underlying142 rowErr Tryz.underlying266 Tryz.underlying268 rfl rfl Tryz.underlying9 (by kernel_rfl) (by kernel_rfl)
  obtain ⟨a1, s1, hv1, _⟩ := laid_sentinel (g := 1) (laidMet.tail (laidMet.tail h3)) (by kernel_rfl) (by kernel_rfl) Tryz.underlying142 rowErr Tryz.underlying266 Tryz.underlying268 rfl rfl Tryz.underlying9 (by kernel_rfl) (by kernel_rfl)
  exact ⟨Lib.tabIs_of_head (g := 0) (t := 236) (e := 82) (n := 20) (by kernel_rfl) (by kernel_rfl) Tryz.underlying236 Tryz.underlying82 (by kernel_rfl) (by kernel_rfl) h3, ⟨_, _, hv1⟩, ⟨_, _, hv0⟩⟩

theorem door_met (os : Os) (args : Array Value) : laidMetH Tryz.prog laidN ((World.doorLaid Tryz.prog 400 os).forCall (fun _ _ => 0) ⟨#[], args, []⟩).memory := by
  rw [MakeChecks.laidMetH_plain _ _ _ (by kernel_rfl)]
  exact laidMet_of_run' 8 (by kernel_rfl) (by kernel_rfl)
end Go.Proofs.YtoaiofjcjjkfaaaGreatDoor
