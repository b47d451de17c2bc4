/- The law SchedNil, walked. -/
import Derived.Test.YtnonidoeakhfdaaB8
namespace Go.Proofs.Ytnonidoeakhfdaa
open Go.RowKit Go.Maps Go.Sort
set_option linter.unusedVariables false

theorem zero_sc (w : World) : Sc (w.alloc (.cells #[.map none, .int .i64 0, .map none, .map none] 56)) (Old w.heap.size) w.heap.size SS.zero := by
  refine ⟨⟨Rp.zero, zero_at (Blk.new w 56 _), fun k hk hx => ?_⟩, zero_wf, fun k hk => ?_⟩
  · have := zero_foot hk
    unfold Old at hx
    omega
  · unfold Old at hk; simp; omega
theorem nil1 : (A1.lockC 1 3).1 = (true, 0) := by kernel_rfl

set_option maxRecDepth 100000 in
set_option maxHeartbeats 4000000 in
theorem schednil_any (w : World) (a b : Int) :
    Calls Try.prog 7 #[.int .i64 a, .int .i64 b] w fun e w' => e = .returned (.bool true) ∧ Below w.heap.size w w' := by
  have H0 := Lib.hid (zero_sc w)
  have F0 := Lib.hid (show Fr (Out (Old w.heap.size)) w (w.alloc (.cells #[.map none, .int .i64 0, .map none, .map none] 56)) from (Fr.refl _ w).alloc _)
  go_enter Try.func7, Try.ntmps7
  go_wp2_with fail
  refine (start_nil _).mono ?_
  rintro e w2 ⟨rfl, rfl⟩
  go_wp2_with fail
  refine (lock_nil _ _ _).mono ?_
  rintro e w2 ⟨rfl, rfl⟩
  go_wp2_with fail
  refine (await_nil _ _ _).mono ?_
  rintro e w2 ⟨rfl, rfl⟩
  go_wp2_with fail
  refine (pick_nil _ _).mono ?_
  rintro e w2 ⟨rfl, rfl⟩
  go_wp2_with fail
  refine (m_start H0.out (by decide)).mono ?_
  rintro e w3 ⟨rfl, h1, f1⟩
  rw [aw1]
  have H1 := Lib.hid (show Sc w3 (Old w.heap.size) w.heap.size A1 from h1)
  have F1 := Lib.hid (frO F0.out f1)
  clear H0 F0 h1 f1
  go_wp2_with fail
  refine (m_lock H1.out 1 3 (by decide) (by decide) (by decide)).mono ?_
  rintro e w4 ⟨rfl, h1, f1⟩
  rw [nil1]
  have F2 := Lib.hid (frO F1.out f1)
  clear H1 F1 h1 f1
  go_wp2_with fail
  refine (awake_any _).mono ?_
  rintro e w5 ⟨rfl, b⟩
  have F3 := Lib.hid (frO F2.out ((Fr.of_below b).any))
  clear F2 b
  go_wp2_with fail
  refine (end_nil _ _).mono ?_
  rintro e w6 ⟨rfl, rfl⟩
  go_wp2_with fail
  refine (unlock_nil _ _ _).mono ?_
  rintro e w6 ⟨rfl, rfl⟩
  go_wp2_with fail
  refine (open_nil _ _).mono ?_
  rintro e w6 ⟨rfl, f⟩
  have F4 := Lib.hid (frO F3.out f.any)
  clear F3 f
  go_wp2_with fail
  refine (holder_nil _ _).mono ?_
  rintro e w7 ⟨rfl, rfl⟩
  go_wp2_with fail
  refine (picks_nil _ _).mono ?_
  rintro e w7 ⟨rfl, rfl⟩
  go_wp2_with fail
  refine (ready_nil _).mono ?_
  rintro e w7 ⟨rfl, rfl⟩
  go_wp2_with fail
  refine (stuck_nil _).mono ?_
  rintro e w7 ⟨rfl, rfl⟩
  go_wp2
  go_ret
  exact ⟨rfl, bel_of F4.out (Nat.le_refl _)⟩

end Go.Proofs.Ytnonidoeakhfdaa
