/- The laws `awake` and NetNil, walked. -/
import Derived.Test.YthcpdeffgdaieaaB3
namespace Go.Proofs.Ythcpdeffgdaieaa
open Go.RowKit Go.Maps
set_option linter.unusedVariables false

def lHello : List UInt8 := [104, 101, 108, 108, 111]
def N1 : NS := NS.zero.opened.2
def N2 : NS := (N1.send 1 0 lHello).2
def N3 : NS := (N2.move 1 1 3).2
def N4 : NS := (N3.take 1 1 9).2
def N5 : NS := (N4.cutC 1).2
theorem aw1 : NS.zero.opened.1 = (1, 0) := by kernel_rfl
theorem aw2 : (N1.send 1 0 lHello).1 = (5, 0) := by kernel_rfl
theorem aw3 : (N2.take 1 1 9).1 = ([], 15) := by kernel_rfl
theorem aw3' : (N2.take 1 1 9).2 = N2 := by kernel_rfl
theorem aw4 : (N2.move 1 1 3).1 = (3, 0) := by kernel_rfl
theorem aw5 : (N3.take 1 1 9).1 = ([104, 101, 108], 0) := by kernel_rfl
theorem aw6 : N4.waits 1 1 = (2, 0) := by kernel_rfl
theorem aw7 : (N4.cutC 1).1 = 0 := by kernel_rfl
theorem aw8 : (N5.cutC 1).1 = 17 := by kernel_rfl
theorem aw9 : (N5.cutC 1).2 = N5 := by kernel_rfl

/-- The law's own: what was there ahead of it. -/
def Old (B : Nat) (k : Nat) : Prop := k < B
theorem frO {X : Nat → Prop} {a b c : World} (h : Fr (Out X) a b) (k : Fr (Out X) b c) : Fr (Out X) a c := h.trans k fun _ _ hj => hj
theorem bel_of {B : Nat} {w w' : World} (h : Fr (Out (Old B)) w w') (hB : B ≤ w.heap.size) : Below B w w' := h.below_of hB fun k hk => by unfold Out Old at hk; omega
theorem frO_bel {B : Nat} {w w' : World} (h : Below B w w') : Fr (Out (Old B)) w w' := ⟨h.os, h.tape, h.output, h.size, fun k _ hk => h.block k (by unfold Out Old at hk; omega)⟩

set_option maxRecDepth 100000 in
set_option maxHeartbeats 4000000 in
theorem awake_any (w : World) : Calls Try.prog 7 #[] w fun e w' => e = .returned (.bool true) ∧ Below w.heap.size w w' := by
  go_enter Try.func7, Try.ntmps7
  go_wp2_with fail
  refine (m_new (Old w.heap.size) fun k hk => hk).mono ?_
  rintro e w1 ⟨d, rfl, h0, f0⟩
  have H0 := Lib.hid h0
  have HF0 := Lib.hid (show Fr (Out (Old w.heap.size)) w w1 from f0.any)
  clear h0 f0
  go_wp2_with fail
  refine (m_open H0.out (by decide)).mono ?_
  rintro e w2 ⟨rfl, h1, f1⟩
  rw [aw1]
  have H1 := Lib.hid (show Nt w2 (Old w.heap.size) d N1 from h1)
  have HF1 := Lib.hid (frO HF0.out f1)
  clear H0 HF0 h1 f1
  go_wp2_with fail
  refine (m_send H1.out 1 0 [104, 101, 108, 108, 111] (by decide) (by decide)).mono ?_
  rintro e w3 ⟨rfl, h1, f1⟩
  have e2 : (N1.send 1 0 [104, 101, 108, 108, 111]).1 = (5, 0) := aw2
  rw [e2]
  have H2 := Lib.hid (show Nt w3 (Old w.heap.size) d N2 from h1)
  have HF2 := Lib.hid (frO HF1.out f1)
  clear H1 HF1 h1 f1 e2
  go_wp2_with fail
  refine (m_take H2.out 1 1 9 (by decide)).mono ?_
  rintro e w4 ⟨rfl, h1, f1⟩
  rw [aw3] 
  rw [aw3'] at h1
  have H3 := Lib.hid h1
  have HF3 := Lib.hid (frO HF2.out f1)
  clear H2 HF2 h1 f1
  go_wp2_with fail
  refine (m_move H3.out 1 1 3 (by decide)).mono ?_
  rintro e w5 ⟨rfl, h1, f1⟩
  rw [aw4]
  have H4 := Lib.hid (show Nt w5 (Old w.heap.size) d N3 from h1)
  have HF4 := Lib.hid (frO HF3.out f1)
  clear H3 HF3 h1 f1
  go_wp2_with fail
  refine (m_take H4.out 1 1 9 (by decide)).mono ?_
  rintro e w6 ⟨rfl, h1, f1⟩
  rw [aw5]
  have H5 := Lib.hid (show Nt w6 (Old w.heap.size) d N4 from h1)
  have HF5 := Lib.hid (frO HF4.out f1)
  clear H4 HF4 h1 f1
  go_wp2_with fail
  refine (m_waits H5.out 1 1 (by decide)).mono ?_
  rintro e w7 ⟨rfl, h1, f1⟩
  rw [aw6]
  have H6 := Lib.hid h1
  have HF6 := Lib.hid (frO HF5.out f1.any)
  clear H5 HF5 h1 f1
  go_wp2_with fail
  refine (m_cut H6.out 1 (by decide)).mono ?_
  rintro e w8 ⟨rfl, h1, f1⟩
  rw [aw7]
  have H7 := Lib.hid (show Nt w8 (Old w.heap.size) d N5 from h1)
  have HF7 := Lib.hid (frO HF6.out f1)
  clear H6 HF6 h1 f1
  go_wp2_with fail
  refine (m_cut H7.out 1 (by decide)).mono ?_
  rintro e w9 ⟨rfl, h1, f1⟩
  rw [aw8]
  have HB := Lib.hid (bel_of (frO HF7.out f1) (Nat.le_refl _))
  clear H7 HF7 h1 f1
  go_wp2
  go_ret
  exact ⟨rfl, HB.out⟩

end Go.Proofs.Ythcpdeffgdaieaa
