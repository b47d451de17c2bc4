/- CatalogTurned, walked. -/
import Derived.Test.YtoaiofjcjjkfaaaGreatDoorQO
namespace Go.Proofs.YtoaiofjcjjkfaaaGreatDoor
open Go.RowKit Go.Maps Go.Sort
set_option linter.unusedVariables false

/-- What the walk comes to: a file that is too short, or is none; else its text, cut and turned. -/
def bare (c : CkP) : CkP := ⟨c.seq, c.dims, c.meas, c.views, []⟩
set_option maxRecDepth 100000 in
set_option maxHeartbeats 2000000 in
theorem turned_no (c : CkP) (dv mv vv bv : Value) (a b : Value) (w : World) (hv : Vr w) (hck : CkAt (fun k => k < w.heap.size) w c dv mv vv bv) (hno : (bytesP (bare c)).2 ≠ 0 ∨ (bytesP (bare c)).1.length < 9) :
    Calls Tryz.prog 8 #[ckv c dv mv vv bv, a, b] w fun e w' => e = .returned (.bool true) ∧ Fr No w w' := by
  obtain ⟨B, hB⟩ : ∃ B, w.heap.size = B := ⟨_, rfl⟩
  obtain ⟨A1, n1, k1, A2, n2, k2, A3, n3, k3, A4, n4, k4, rfl, rfl, rfl, rfl⟩ := hck.forms
  obtain ⟨w1, hw1⟩ : ∃ w1, w.alloc (.cells #[.int .i64 c.seq, .slice A1 n1 k1, .slice A2 n2 k2, .slice A3 n3 k3, .slice A4 n4 k4] 28) = w1 := ⟨_, rfl⟩
  have f1 : Fr No w w1 := by rw [← hw1]; exact (Fr.refl _ w).alloc _
  have b1 : Blk w1 B 28 #[.int .i64 c.seq, .slice A1 n1 k1, .slice A2 n2 k2, .slice A3 n3 k3, .slice A4 n4 k4] := by rw [← hw1, ← hB]; exact Blk.new w 28 _
  have CA := Lib.hid (awake_any w1 (hv.keep f1))
  have hlenb : (bytesP (bare c)).1.length ≤ 1000000 ∨ True := .inr trivial
  have HNO := Lib.hid hno
  have HW1 := Lib.hid hw1
  have HB := Lib.hid hB
  have HF1 := Lib.hid f1
  have HB1 := Lib.hid b1
  have HCK := Lib.hid hck
  have CB : Hid (∀ w3 : World, Fr No w w3 → Calls Tryz.prog 11 #[ckv (bare c) (.slice A1 n1 k1) (.slice A2 n2 k2) (.slice A3 n3 k3) (.slice none 0 0)] w3 fun e w' => e = .returned (.tuple #[sv (bytesP (bare c)).1, .int .i64 (bytesP (bare c)).2]) ∧ Fr No w w') := Lib.hid fun w3 f3 => by
    have hc3 := hck.of (w' := w3) fun k hk => f3.block k hk id
    exact (bytes_any (fun k => k < w.heap.size) (bare c) _ _ _ _ w3 ⟨hc3.seq, hc3.dims, hc3.meas, hc3.views, RowE.nil _ _ _ _ _⟩ (fun k hk => Nat.lt_of_lt_of_le hk f3.size) (by simp [bare])).mono fun e w4 h => ⟨h.1, f3.trans h.2 fun _ _ h => h⟩
  generalize bytesP (bare c) = FE at *
  obtain ⟨F, E⟩ := FE
  simp only at HNO CB
  clear hck hno hw1 f1 b1 hB hv hlenb
  unfold ckv at CB ⊢
  simp only [bare] at CB
  go_enter Tryz.func8, Tryz.ntmps8
  go_wp2_with fail
  rw [HW1.out]
  refine CA.out.mono ?_
  clear CA
  rintro e w2 ⟨rfl, f2⟩
  have b2 := HB1.out.of (f2.block _ HB1.out.lt id)
  obtain ⟨w3, hw3⟩ : ∃ w3, w2.setCell ⟨B, 4, none⟩ (.slice none 0 0) = w3 := ⟨_, rfl⟩
  have b3 : Blk w3 B 28 #[.int .i64 c.seq, .slice A1 n1 k1, .slice A2 n2 k2, .slice A3 n3 k3, .slice none 0 0] := by rw [← hw3]; exact b2.set_ 4 _
  have f3 : Fr No w w3 := by
    rw [← hw3]
    exact (HF1.out.trans f2 fun _ _ h => h).trans (Fr.set0 B w2 4 _) fun j hj h => by unfold One at h; have := HB.out; omega
  have z4 : w2.cell? ⟨B, 4, none⟩ = some (.slice A4 n4 k4) := b2.cell 4
  have y4 := b2.frozen 4
  have x0 : w3.cell? ⟨B, 0, none⟩ = some (.int .i64 c.seq) := b3.cell 0
  have x1 : w3.cell? ⟨B, 1, none⟩ = some (.slice A1 n1 k1) := b3.cell 1
  have x2 : w3.cell? ⟨B, 2, none⟩ = some (.slice A2 n2 k2) := b3.cell 2
  have x3 : w3.cell? ⟨B, 3, none⟩ = some (.slice A3 n3 k3) := b3.cell 3
  have x4 : w3.cell? ⟨B, 4, none⟩ = some (.slice none 0 0) := b3.cell 4
  have HW3 := Lib.hid hw3
  have CC := Lib.hid (CB.out w3 f3)
  clear f2 b2 b3 f3 hw3 CB
  rw [HB.out]
  go_upto_region 3 with fail
  rw [HW3.out]
  go_wp2_with fail
  refine CC.out.mono ?_
  clear CC
  rintro e w4 ⟨rfl, f4⟩
  have F4 := Lib.hid f4
  clear f4 x0 x1 x2 x3 x4 z4 y4
  by_cases hE : E = 0
  · subst hE
    have hlen : ((F.length : Int) < 9) := by rcases HNO.out with h | h; exact absurd rfl h; omega
    have hsz : decide ((F.length : Int) < 9) = true := by simpa using hlen
    clear hlen
    go_wp2
    go_ret
    exact ⟨rfl, F4.out⟩
  · have hEb : (E != 0) = true := by simpa using hE
    go_wp2
    go_ret
    exact ⟨rfl, F4.out⟩
theorem frset5 {w w5 : World} {g : Nat} (h : Fr No w w5) (hg : w.heap.size ≤ g) (u0 u1 u2 u3 u4 : Value) :
    Fr No w (((((w5.setCell ⟨g, 0, none⟩ u0).setCell ⟨g, 1, none⟩ u1).setCell ⟨g, 2, none⟩ u2).setCell ⟨g, 3, none⟩ u3).setCell ⟨g, 4, none⟩ u4) :=
  h.trans (((((Fr.set0 g w5 0 u0).set1 1 u1).set1 2 u2).set1 3 u3).set1 4 u4) fun j hj e => by unfold One at e; omega
end Go.Proofs.YtoaiofjcjjkfaaaGreatDoor
