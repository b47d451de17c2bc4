/- The law NetNil, walked. -/
import Derived.Test.YthcpdeffgdaieaaB4
namespace Go.Proofs.Ythcpdeffgdaieaa
open Go.RowKit Go.Maps
set_option linter.unusedVariables false

theorem zero_nt (w : World) : Nt (w.alloc (.cells #[.map none, .int .i64 0] 53)) (Old w.heap.size) w.heap.size NS.zero := by
  refine ⟨⟨Rp.zero, zero_at (Blk.new w 53 _), fun k hk hx => ?_⟩, zero_wf, fun k hk => ?_⟩
  · have := zero_foot hk
    unfold Old at hx
    omega
  · unfold Old at hk; simp; omega

set_option maxRecDepth 100000 in
set_option maxHeartbeats 4000000 in
theorem netnil_any (w : World) (conn side : Int) (l : List UInt8) :
    Calls Try.prog 5 #[.int .i64 conn, .int .i64 side, .string ⟨l.toArray⟩] w fun e w' => e = .returned (.bool true) ∧ Below w.heap.size w w' := by
  have H0 := Lib.hid (zero_nt w)
  have F0 := Lib.hid (show Fr (Out (Old w.heap.size)) w (w.alloc (.cells #[.map none, .int .i64 0] 53)) from (Fr.refl _ w).alloc _)
  go_enter Try.func5, Try.ntmps5
  go_wp2_with fail
  refine (open_nil _).mono ?_
  rintro e w2 ⟨rfl, rfl⟩
  go_wp2_with fail
  refine (send_nil _ _ _ _).mono ?_
  rintro e w2 ⟨rfl, rfl⟩
  go_wp2_with fail
  refine (move_nil _ _ _ _).mono ?_
  rintro e w2 ⟨rfl, rfl⟩
  go_wp2_with fail
  refine (take_nil _ _ _ _).mono ?_
  rintro e w2 ⟨rfl, rfl⟩
  go_wp2_with fail
  refine (waits_nil _ _ _).mono ?_
  rintro e w2 ⟨rfl, f⟩
  have H1 := Lib.hid (H0.out.keep f)
  have F1 := Lib.hid (frO F0.out f.any)
  clear f H0 F0
  go_wp2_with fail
  refine (m_open H1.out (by decide)).mono ?_
  rintro e w3 ⟨rfl, h1, f1⟩
  rw [aw1]
  have F2 := Lib.hid (frO F1.out f1)
  clear H1 F1 h1 f1
  go_wp2_with fail
  refine (awake_any _).mono ?_
  rintro e w4 ⟨rfl, b⟩
  have F3 := Lib.hid (frO F2.out ((Fr.of_below b).any))
  clear F2 b
  go_wp2_with fail
  refine (shut_nil _ _ _).mono ?_
  rintro e w5 ⟨rfl, rfl⟩
  go_wp2_with fail
  refine (cut_nil _ _).mono ?_
  rintro e w5 ⟨rfl, rfl⟩
  go_wp2_with fail
  refine (conns_nil _).mono ?_
  rintro e w5 ⟨rfl, rfl⟩
  go_wp2
  go_ret
  exact ⟨rfl, bel_of F3.out (Nat.le_refl _)⟩

end Go.Proofs.Ythcpdeffgdaieaa
