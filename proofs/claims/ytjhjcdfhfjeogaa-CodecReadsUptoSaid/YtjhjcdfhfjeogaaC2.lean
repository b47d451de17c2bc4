/- What a reader tells: plain things, and the zero one with an error. -/
import Derived.Test.YtjhjcdfhfjeogaaC1
namespace Go.Proofs.Ytjhjcdfhfjeogaa
open Go.RowKit Go.Maps
set_option linter.unusedVariables false

theorem told88_ok (V : Value) (P : Value) (w : World) (HS : Hid (Calls Try.prog 67 #[P] w fun e w' => e = .returned (.bool false) ∧ w = w')) : Calls Try.prog 88 #[P, V] w fun e w' => e = .returned (V) ∧ w = w' := by
  go_enter Try.func88, Try.ntmps88
  go_wp2_with (go_at_call 67; refine HS.out.mono ?_; rintro e w' ⟨rfl, rfl⟩)
  go_ret
  exact ⟨rfl, rfl⟩
theorem told88_no (V : Value) (P : Value) (w : World) (HS : Hid (Calls Try.prog 67 #[P] w fun e w' => e = .returned (.bool true) ∧ w = w')) : Calls Try.prog 88 #[P, V] w fun e w' => e = .returned (.int .i64 0) ∧ w = w' := by
  go_enter Try.func88, Try.ntmps88
  go_wp2_with (go_at_call 67; refine HS.out.mono ?_; rintro e w' ⟨rfl, rfl⟩)
  go_ret
  exact ⟨rfl, rfl⟩
theorem told88 (p : Option Nat) (S : RS) (V : Value) (w : World) (h : RAt w p S) : Calls Try.prog 88 #[wpt p, V] w fun e w' => e = .returned (if S.fault = 0 then V else .int .i64 0) ∧ w = w' := by
  by_cases h0 : S.fault = 0
  · rw [if_pos h0]; exact told88_ok V _ w (Lib.hid (rstop_no p S w h h0))
  · rw [if_neg h0]; exact told88_no V _ w (Lib.hid (rstop_yes p S w h h0))
theorem told103_ok (V : Value) (P : Value) (w : World) (HS : Hid (Calls Try.prog 67 #[P] w fun e w' => e = .returned (.bool false) ∧ w = w')) : Calls Try.prog 103 #[P, V] w fun e w' => e = .returned (V) ∧ w = w' := by
  go_enter Try.func103, Try.ntmps103
  go_wp2_with (go_at_call 67; refine HS.out.mono ?_; rintro e w' ⟨rfl, rfl⟩)
  go_ret
  exact ⟨rfl, rfl⟩
theorem told103_no (V : Value) (P : Value) (w : World) (HS : Hid (Calls Try.prog 67 #[P] w fun e w' => e = .returned (.bool true) ∧ w = w')) : Calls Try.prog 103 #[P, V] w fun e w' => e = .returned (.slice none 0 0) ∧ w = w' := by
  go_enter Try.func103, Try.ntmps103
  go_wp2_with (go_at_call 67; refine HS.out.mono ?_; rintro e w' ⟨rfl, rfl⟩)
  go_ret
  exact ⟨rfl, rfl⟩
theorem told103 (p : Option Nat) (S : RS) (V : Value) (w : World) (h : RAt w p S) : Calls Try.prog 103 #[wpt p, V] w fun e w' => e = .returned (if S.fault = 0 then V else .slice none 0 0) ∧ w = w' := by
  by_cases h0 : S.fault = 0
  · rw [if_pos h0]; exact told103_ok V _ w (Lib.hid (rstop_no p S w h h0))
  · rw [if_neg h0]; exact told103_no V _ w (Lib.hid (rstop_yes p S w h h0))
theorem told104_ok (V : Value) (P : Value) (w : World) (HS : Hid (Calls Try.prog 67 #[P] w fun e w' => e = .returned (.bool false) ∧ w = w')) : Calls Try.prog 104 #[P, V] w fun e w' => e = .returned (V) ∧ w = w' := by
  go_enter Try.func104, Try.ntmps104
  go_wp2_with (go_at_call 67; refine HS.out.mono ?_; rintro e w' ⟨rfl, rfl⟩)
  go_ret
  exact ⟨rfl, rfl⟩
theorem told104_no (V : Value) (P : Value) (w : World) (HS : Hid (Calls Try.prog 67 #[P] w fun e w' => e = .returned (.bool true) ∧ w = w')) : Calls Try.prog 104 #[P, V] w fun e w' => e = .returned (.slice none 0 0) ∧ w = w' := by
  go_enter Try.func104, Try.ntmps104
  go_wp2_with (go_at_call 67; refine HS.out.mono ?_; rintro e w' ⟨rfl, rfl⟩)
  go_ret
  exact ⟨rfl, rfl⟩
theorem told104 (p : Option Nat) (S : RS) (V : Value) (w : World) (h : RAt w p S) : Calls Try.prog 104 #[wpt p, V] w fun e w' => e = .returned (if S.fault = 0 then V else .slice none 0 0) ∧ w = w' := by
  by_cases h0 : S.fault = 0
  · rw [if_pos h0]; exact told104_ok V _ w (Lib.hid (rstop_no p S w h h0))
  · rw [if_neg h0]; exact told104_no V _ w (Lib.hid (rstop_yes p S w h h0))
theorem told105_ok (V : Value) (P : Value) (w : World) (HS : Hid (Calls Try.prog 67 #[P] w fun e w' => e = .returned (.bool false) ∧ w = w')) : Calls Try.prog 105 #[P, V] w fun e w' => e = .returned (V) ∧ w = w' := by
  go_enter Try.func105, Try.ntmps105
  go_wp2_with (go_at_call 67; refine HS.out.mono ?_; rintro e w' ⟨rfl, rfl⟩)
  go_ret
  exact ⟨rfl, rfl⟩
theorem told105_no (V : Value) (P : Value) (w : World) (HS : Hid (Calls Try.prog 67 #[P] w fun e w' => e = .returned (.bool true) ∧ w = w')) : Calls Try.prog 105 #[P, V] w fun e w' => e = .returned (.slice none 0 0) ∧ w = w' := by
  go_enter Try.func105, Try.ntmps105
  go_wp2_with (go_at_call 67; refine HS.out.mono ?_; rintro e w' ⟨rfl, rfl⟩)
  go_ret
  exact ⟨rfl, rfl⟩
theorem told105 (p : Option Nat) (S : RS) (V : Value) (w : World) (h : RAt w p S) : Calls Try.prog 105 #[wpt p, V] w fun e w' => e = .returned (if S.fault = 0 then V else .slice none 0 0) ∧ w = w' := by
  by_cases h0 : S.fault = 0
  · rw [if_pos h0]; exact told105_ok V _ w (Lib.hid (rstop_no p S w h h0))
  · rw [if_neg h0]; exact told105_no V _ w (Lib.hid (rstop_yes p S w h h0))
theorem told106_ok (V : Value) (P : Value) (w : World) (HS : Hid (Calls Try.prog 67 #[P] w fun e w' => e = .returned (.bool false) ∧ w = w')) : Calls Try.prog 106 #[P, V] w fun e w' => e = .returned (V) ∧ w = w' := by
  go_enter Try.func106, Try.ntmps106
  go_wp2_with (go_at_call 67; refine HS.out.mono ?_; rintro e w' ⟨rfl, rfl⟩)
  go_ret
  exact ⟨rfl, rfl⟩
theorem told106_no (V : Value) (P : Value) (w : World) (HS : Hid (Calls Try.prog 67 #[P] w fun e w' => e = .returned (.bool true) ∧ w = w')) : Calls Try.prog 106 #[P, V] w fun e w' => e = .returned (.slice none 0 0) ∧ w = w' := by
  go_enter Try.func106, Try.ntmps106
  go_wp2_with (go_at_call 67; refine HS.out.mono ?_; rintro e w' ⟨rfl, rfl⟩)
  go_ret
  exact ⟨rfl, rfl⟩
theorem told106 (p : Option Nat) (S : RS) (V : Value) (w : World) (h : RAt w p S) : Calls Try.prog 106 #[wpt p, V] w fun e w' => e = .returned (if S.fault = 0 then V else .slice none 0 0) ∧ w = w' := by
  by_cases h0 : S.fault = 0
  · rw [if_pos h0]; exact told106_ok V _ w (Lib.hid (rstop_no p S w h h0))
  · rw [if_neg h0]; exact told106_no V _ w (Lib.hid (rstop_yes p S w h h0))
set_option maxHeartbeats 400000 in
theorem told90_ok (P : Value) (a b : Int) (c : List UInt8) (w : World) (HS : Hid (∀ w1, Below w.heap.size w w1 → Calls Try.prog 67 #[P] w1 fun e w' => e = .returned (.bool false) ∧ w1 = w')) : Calls Try.prog 90 #[P, .agg #[.int .i64 a, .int .i64 b, sv c]] w fun e w' => e = .returned (.agg #[.int .i64 a, .int .i64 b, sv c]) ∧ Below w.heap.size w w' := by
  go_enter Try.func90, Try.ntmps90
  go_wp2_with (go_at_call 67; refine (HS.out _ (((Below.refl _ _).alloc (Nat.le_refl _) _).alloc (by simp) _)).mono ?_; rintro e w' ⟨rfl, rfl⟩)
  refine bodyPost_ret (v := .agg #[.int .i64 a, .int .i64 b, sv c]) (by simp [results, Try.results90, go_sem]) rfl ⟨rfl, ?_⟩
  first | exact Fr.below (((Fr.refl No w).alloc _).alloc _) | exact Fr.below ((((Fr.refl No w).alloc _).alloc _).alloc _)
set_option maxHeartbeats 400000 in
theorem told90_no (P : Value) (a b : Int) (c : List UInt8) (w : World) (HS : Hid (∀ w1, Below w.heap.size w w1 → Calls Try.prog 67 #[P] w1 fun e w' => e = .returned (.bool true) ∧ w1 = w')) : Calls Try.prog 90 #[P, .agg #[.int .i64 a, .int .i64 b, sv c]] w fun e w' => e = .returned (.agg #[.int .i64 0, .int .i64 0, sv []]) ∧ Below w.heap.size w w' := by
  go_enter Try.func90, Try.ntmps90
  go_wp2_with (go_at_call 67; refine (HS.out _ (((Below.refl _ _).alloc (Nat.le_refl _) _).alloc (by simp) _)).mono ?_; rintro e w' ⟨rfl, rfl⟩)
  refine bodyPost_ret (v := .agg #[.int .i64 0, .int .i64 0, sv []]) (by simp [results, Try.results90, go_sem]) rfl ⟨rfl, ?_⟩
  first | exact Fr.below (((Fr.refl No w).alloc _).alloc _) | exact Fr.below ((((Fr.refl No w).alloc _).alloc _).alloc _)
theorem told90 (p : Option Nat) (S : RS) (a b : Int) (c : List UInt8) (w : World) (h : RAt w p S) : Calls Try.prog 90 #[wpt p, .agg #[.int .i64 a, .int .i64 b, sv c]] w fun e w' => e = .returned (.agg (if S.fault = 0 then #[.int .i64 a, .int .i64 b, sv c] else #[.int .i64 0, .int .i64 0, sv []])) ∧ Below w.heap.size w w' := by
  by_cases h0 : S.fault = 0
  · rw [if_pos h0]; exact told90_ok _ a b c w (Lib.hid fun w1 hb => rstop_no p S w1 (h.below hb) h0)
  · rw [if_neg h0]; exact told90_no _ a b c w (Lib.hid fun w1 hb => rstop_yes p S w1 (h.below hb) h0)
set_option maxHeartbeats 400000 in
theorem told93_ok (P : Value) (A1 A2 : Option Addr) (n1 n2 c1 c2 : Nat) (w : World) (HS : Hid (∀ w1, Below w.heap.size w w1 → Calls Try.prog 67 #[P] w1 fun e w' => e = .returned (.bool false) ∧ w1 = w')) : Calls Try.prog 93 #[P, .agg #[.slice A1 n1 c1, .slice A2 n2 c2]] w fun e w' => e = .returned (.agg #[.slice A1 n1 c1, .slice A2 n2 c2]) ∧ Below w.heap.size w w' := by
  go_enter Try.func93, Try.ntmps93
  go_wp2_with (go_at_call 67; refine (HS.out _ (((Below.refl _ _).alloc (Nat.le_refl _) _).alloc (by simp) _)).mono ?_; rintro e w' ⟨rfl, rfl⟩)
  refine bodyPost_ret (v := .agg #[.slice A1 n1 c1, .slice A2 n2 c2]) (by simp [results, Try.results93, go_sem]) rfl ⟨rfl, ?_⟩
  first | exact Fr.below (((Fr.refl No w).alloc _).alloc _) | exact Fr.below ((((Fr.refl No w).alloc _).alloc _).alloc _)
set_option maxHeartbeats 400000 in
theorem told93_no (P : Value) (A1 A2 : Option Addr) (n1 n2 c1 c2 : Nat) (w : World) (HS : Hid (∀ w1, Below w.heap.size w w1 → Calls Try.prog 67 #[P] w1 fun e w' => e = .returned (.bool true) ∧ w1 = w')) : Calls Try.prog 93 #[P, .agg #[.slice A1 n1 c1, .slice A2 n2 c2]] w fun e w' => e = .returned (.agg #[.slice none 0 0, .slice none 0 0]) ∧ Below w.heap.size w w' := by
  go_enter Try.func93, Try.ntmps93
  go_wp2_with (go_at_call 67; refine (HS.out _ (((Below.refl _ _).alloc (Nat.le_refl _) _).alloc (by simp) _)).mono ?_; rintro e w' ⟨rfl, rfl⟩)
  refine bodyPost_ret (v := .agg #[.slice none 0 0, .slice none 0 0]) (by simp [results, Try.results93, go_sem]) rfl ⟨rfl, ?_⟩
  first | exact Fr.below (((Fr.refl No w).alloc _).alloc _) | exact Fr.below ((((Fr.refl No w).alloc _).alloc _).alloc _)
theorem told93 (p : Option Nat) (S : RS) (A1 A2 : Option Addr) (n1 n2 c1 c2 : Nat) (w : World) (h : RAt w p S) : Calls Try.prog 93 #[wpt p, .agg #[.slice A1 n1 c1, .slice A2 n2 c2]] w fun e w' => e = .returned (.agg (if S.fault = 0 then #[.slice A1 n1 c1, .slice A2 n2 c2] else #[.slice none 0 0, .slice none 0 0])) ∧ Below w.heap.size w w' := by
  by_cases h0 : S.fault = 0
  · rw [if_pos h0]; exact told93_ok _ A1 A2 n1 n2 c1 c2 w (Lib.hid fun w1 hb => rstop_no p S w1 (h.below hb) h0)
  · rw [if_neg h0]; exact told93_no _ A1 A2 n1 n2 c1 c2 w (Lib.hid fun w1 hb => rstop_yes p S w1 (h.below hb) h0)
set_option maxHeartbeats 400000 in
theorem told95_ok (P : Value) (A1 A2 : Option Addr) (n1 n2 c1 c2 : Nat) (w : World) (HS : Hid (∀ w1, Below w.heap.size w w1 → Calls Try.prog 67 #[P] w1 fun e w' => e = .returned (.bool false) ∧ w1 = w')) : Calls Try.prog 95 #[P, .agg #[.slice A1 n1 c1, .slice A2 n2 c2]] w fun e w' => e = .returned (.agg #[.slice A1 n1 c1, .slice A2 n2 c2]) ∧ Below w.heap.size w w' := by
  go_enter Try.func95, Try.ntmps95
  go_wp2_with (go_at_call 67; refine (HS.out _ (((Below.refl _ _).alloc (Nat.le_refl _) _).alloc (by simp) _)).mono ?_; rintro e w' ⟨rfl, rfl⟩)
  refine bodyPost_ret (v := .agg #[.slice A1 n1 c1, .slice A2 n2 c2]) (by simp [results, Try.results95, go_sem]) rfl ⟨rfl, ?_⟩
  first | exact Fr.below (((Fr.refl No w).alloc _).alloc _) | exact Fr.below ((((Fr.refl No w).alloc _).alloc _).alloc _)
set_option maxHeartbeats 400000 in
theorem told95_no (P : Value) (A1 A2 : Option Addr) (n1 n2 c1 c2 : Nat) (w : World) (HS : Hid (∀ w1, Below w.heap.size w w1 → Calls Try.prog 67 #[P] w1 fun e w' => e = .returned (.bool true) ∧ w1 = w')) : Calls Try.prog 95 #[P, .agg #[.slice A1 n1 c1, .slice A2 n2 c2]] w fun e w' => e = .returned (.agg #[.slice none 0 0, .slice none 0 0]) ∧ Below w.heap.size w w' := by
  go_enter Try.func95, Try.ntmps95
  go_wp2_with (go_at_call 67; refine (HS.out _ (((Below.refl _ _).alloc (Nat.le_refl _) _).alloc (by simp) _)).mono ?_; rintro e w' ⟨rfl, rfl⟩)
  refine bodyPost_ret (v := .agg #[.slice none 0 0, .slice none 0 0]) (by simp [results, Try.results95, go_sem]) rfl ⟨rfl, ?_⟩
  first | exact Fr.below (((Fr.refl No w).alloc _).alloc _) | exact Fr.below ((((Fr.refl No w).alloc _).alloc _).alloc _)
theorem told95 (p : Option Nat) (S : RS) (A1 A2 : Option Addr) (n1 n2 c1 c2 : Nat) (w : World) (h : RAt w p S) : Calls Try.prog 95 #[wpt p, .agg #[.slice A1 n1 c1, .slice A2 n2 c2]] w fun e w' => e = .returned (.agg (if S.fault = 0 then #[.slice A1 n1 c1, .slice A2 n2 c2] else #[.slice none 0 0, .slice none 0 0])) ∧ Below w.heap.size w w' := by
  by_cases h0 : S.fault = 0
  · rw [if_pos h0]; exact told95_ok _ A1 A2 n1 n2 c1 c2 w (Lib.hid fun w1 hb => rstop_no p S w1 (h.below hb) h0)
  · rw [if_neg h0]; exact told95_no _ A1 A2 n1 n2 c1 c2 w (Lib.hid fun w1 hb => rstop_yes p S w1 (h.below hb) h0)
end Go.Proofs.Ytjhjcdfhfjeogaa
