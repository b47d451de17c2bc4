/- The law `awake`. -/
import Derived.Test.YtlopbhamlhmpbaaC4
namespace Go.Proofs.Ytlopbhamlhmpbaa
open Go.RowKit Go.Maps Go.Sort
set_option linter.unusedVariables false

theorem len_max {l : List UInt8} (h : l.length ≤ 1000000000) : l.length ≤ maxLen := by unfold maxLen; omega

set_option maxRecDepth 100000 in
set_option maxHeartbeats 4000000 in
theorem awake_any (w : World) : Calls Try.prog 9 #[] w fun e w' => e = .returned (.bool true) ∧ Below w.heap.size w w' := by
  go_enter Try.func9, Try.ntmps9
  go_wp2_with fail
  refine (m_new 10 w w.heap.size (Nat.le_refl _)).mono ?_
  rintro e w1 ⟨d, rfl, h0, f0⟩
  have H := Lib.hid h0
  have HB := Lib.hid f0.below
  clear h0 f0
  go_wp2_with fail
  refine (m_write H.out (by omega) [97] [104, 101, 108, 108, 111] (by decide) (by decide)).mono ?_
  rintro e w2 ⟨rfl, h1, b1⟩
  have e1 : ((AS.new 10).write [97] [104, 101, 108, 108, 111]).2 = 0 := aw1
  rw [e1]
  have H1 := Lib.hid (show Dsk w2 w.heap.size d 1 W1 from h1)
  have HB1 := Lib.hid (HB.out.trans b1)
  clear H HB h1 b1 e1
  go_wp2_with fail
  refine (m_sync H1.out [97] (by decide)).mono ?_
  rintro e w3 ⟨rfl, h1, b1⟩
  have e1 : (W1.sync [97]).2 = 0 := aw2
  rw [e1]
  have H2 := Lib.hid (show Dsk w3 w.heap.size d 1 W2 from h1)
  have HB2 := Lib.hid (HB1.out.trans b1)
  clear H1 HB1 h1 b1 e1
  go_wp2_with fail
  refine (m_settle H2.out).mono ?_
  rintro e w4 ⟨rfl, h1, b1⟩
  have e1 : W2.settle.2 = 0 := aw3
  rw [e1]
  have H3 := Lib.hid (show Dsk w4 w.heap.size d 1 W3 from h1)
  have HB3 := Lib.hid (HB2.out.trans b1)
  clear H2 HB2 h1 b1 e1
  go_wp2_with fail
  refine (m_write H3.out (by omega) [97] [120, 121, 122] (by decide) (by decide)).mono ?_
  rintro e w5 ⟨rfl, h1, b1⟩
  have e1 : (W3.write [97] [120, 121, 122]).2 = 0 := aw4
  rw [e1]
  have H4 := Lib.hid (show Dsk w5 w.heap.size d 2 W4 from h1)
  have HB4 := Lib.hid (HB3.out.trans b1)
  clear H3 HB3 h1 b1 e1
  go_wp2_with fail
  have hp : PicksAt (w5.alloc (.cells #[.int .i64 5, .int .i64 2] 3)) w5.heap.size (some ⟨w5.heap.size, 0, none⟩) 2 2 [5, 2] :=
    ⟨rfl, ⟨by omega, by omega⟩, by decide, fun _ => ⟨0, rfl, fun j hj => by
      have hx := Blk.cell (w := w5.alloc (.cells #[.int .i64 5, .int .i64 2] 3)) (g := w5.heap.size) (t := 3) (heap_alloc_new w5 _)
      match j, hj with
      | 0, _ => exact hx 0
      | 1, _ => exact hx 1⟩⟩
  have fa : Fr No w5 (w5.alloc (.cells #[.int .i64 5, .int .i64 2] 3)) := (Fr.refl _ _).alloc _
  refine (m_crash (H4.out.keep fa) w5.heap.size _ 2 2 [5, 2] hp (fun _ => .inr ⟨_, _, heap_alloc_new w5 _⟩)).mono ?_
  rintro e w6 ⟨rfl, h1, b1⟩
  have H5 := Lib.hid (show Dsk w6 w.heap.size d 2 W5 from h1)
  have HB5 := Lib.hid ((HB4.out.trans (fr_base H4.out fa)).trans b1)
  clear H4 HB4 h1 b1 fa hp
  go_wp2_with fail
  refine (m_read H5.out [97] (by decide)).mono ?_
  rintro e w7 ⟨rfl, f1⟩
  have e1 : W5.read [97] = ([104, 101, 108, 108, 111, 120, 121], 0) := aw6
  rw [e1]
  have H6 := Lib.hid (H5.out.keep f1)
  have HB6 := Lib.hid (HB5.out.trans (fr_base H5.out f1))
  clear H5 HB5 f1 e1
  go_wp2_with fail
  have hu := m_used H6.out aw8
  rw [aw7] at hu
  refine hu.mono ?_
  clear hu
  rintro e w8 ⟨rfl, f1⟩
  have H7 := Lib.hid (H6.out.keep f1)
  have HB7 := Lib.hid (HB6.out.trans (fr_base H6.out f1))
  clear H6 HB6 f1
  go_wp2_with fail
  have hu := m_on H7.out
  rw [aw8] at hu
  refine hu.mono ?_
  clear hu
  rintro e w' ⟨rfl, rfl⟩
  go_wp2_with fail
  have hu := m_steps H7.out
  rw [aw9] at hu
  refine hu.mono ?_
  clear hu
  rintro e w' ⟨rfl, rfl⟩
  go_wp2
  go_ret
  exact ⟨rfl, HB7.out⟩

end Go.Proofs.Ytlopbhamlhmpbaa
