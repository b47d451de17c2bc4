/- Of no log nothing comes: WalNil, walked. -/
import Derived.Test.YtccjkolcmdhliaaGreatDoorM5
namespace Go.Proofs.YtccjkolcmdhliaaGreatDoor
open Go.RowKit Go.Maps
set_option linter.unusedVariables false

theorem state_nil (w : World) : Calls Tryz.prog 57 #[.pointer none] w fun e w' => e = .returned (.int .i64 1) ∧ w = w' := by
  go_enter Tryz.func57, Tryz.ntmps57
  go_wp2
  all_goals go_ret
  all_goals exact ⟨rfl, rfl⟩
theorem state_zero {w : World} {z : Nat} (h : w.cell? ⟨z, 0, none⟩ = some .nilIface) : Calls Tryz.prog 57 #[.pointer (some ⟨z, 0, none⟩)] w fun e w' => e = .returned (.int .i64 1) ∧ w = w' := by
  go_enter Tryz.func57, Tryz.ntmps57
  go_wp2
  all_goals go_ret
  all_goals exact ⟨rfl, rfl⟩
theorem append_arg {v : Value} {w : World} (h : Calls Tryz.prog 57 #[v] w fun e w' => e = .returned (.int .i64 1) ∧ w = w') (s : Value) : Calls Tryz.prog 24 #[v, s] w fun e w' => e = .returned (.tuple #[.int .i64 0, .int .i64 1]) ∧ w = w' := by
  have H := Lib.hid h
  clear h
  go_enter Tryz.func24, Tryz.ntmps24
  go_wp2_with fail
  refine H.out.mono ?_
  rintro e w' ⟨rfl, rfl⟩
  go_wp2
  go_ret2
  exact ⟨rfl, rfl⟩
theorem sync_arg {v : Value} {w : World} (h : Calls Tryz.prog 57 #[v] w fun e w' => e = .returned (.int .i64 1) ∧ w = w') : Calls Tryz.prog 20 #[v] w fun e w' => e = .returned (.int .i64 1) ∧ w = w' := by
  have H := Lib.hid h
  clear h
  go_enter Tryz.func20, Tryz.ntmps20
  go_wp2_with fail
  refine H.out.mono ?_
  rintro e w' ⟨rfl, rfl⟩
  go_wp2
  go_ret
  exact ⟨rfl, rfl⟩
theorem trim_arg {v : Value} {w : World} (h : Calls Tryz.prog 57 #[v] w fun e w' => e = .returned (.int .i64 1) ∧ w = w') (n : Value) : Calls Tryz.prog 21 #[v, n] w fun e w' => e = .returned (.int .i64 1) ∧ w = w' := by
  have H := Lib.hid h
  clear h
  go_enter Tryz.func21, Tryz.ntmps21
  go_wp2_with fail
  refine H.out.mono ?_
  rintro e w' ⟨rfl, rfl⟩
  go_wp2
  go_ret
  exact ⟨rfl, rfl⟩
theorem last_nil (w : World) : Calls Tryz.prog 16 #[.pointer none] w fun e w' => e = .returned (.int .i64 0) ∧ w = w' := by
  go_enter Tryz.func16, Tryz.ntmps16
  go_wp2
  go_ret
  exact ⟨rfl, rfl⟩
theorem firm_nil (w : World) : Calls Tryz.prog 17 #[.pointer none] w fun e w' => e = .returned (.int .i64 0) ∧ w = w' := by
  go_enter Tryz.func17, Tryz.ntmps17
  go_wp2
  go_ret
  exact ⟨rfl, rfl⟩
theorem broken_nil (w : World) : Calls Tryz.prog 18 #[.pointer none] w fun e w' => e = .returned (.bool false) ∧ w = w' := by
  go_enter Tryz.func18, Tryz.ntmps18
  go_wp2
  go_ret
  exact ⟨rfl, rfl⟩
set_option maxRecDepth 100000 in
theorem open_nil (n : Int) (w : World) : Calls Tryz.prog 19 #[.pointer none, .int .i64 n] w fun e w' => e = .returned (.tuple #[.pointer none, .slice none 0 0, .int .i64 1]) ∧ Fr No w w' := by
  go_enter_defers Tryz.func19, Tryz.ntmps19
  go_upto_region 2 with fail
  obtain ⟨p4, hp4⟩ : ∃ p, w.heap.size = p := ⟨_, rfl⟩
  obtain ⟨p5, hp5⟩ : ∃ p, w.heap.size + 1 = p := ⟨_, rfl⟩
  obtain ⟨p6, hp6⟩ : ∃ p, w.heap.size + 1 + 1 = p := ⟨_, rfl⟩
  obtain ⟨wa1, hwa1⟩ : ∃ wa, w.alloc (.cells #[.pointer none] 29) = wa := ⟨_, rfl⟩
  obtain ⟨wa2, hwa2⟩ : ∃ wa, wa1.alloc (.cells #[.slice none 0 0] 43) = wa := ⟨_, rfl⟩
  obtain ⟨wa, hwa⟩ : ∃ wa, wa2.alloc (.cells #[.int .i64 0] 39) = wa := ⟨_, rfl⟩
  have fa1 : Fr No w wa1 := by rw [← hwa1]; exact (Fr.refl _ w).alloc _
  have fa2 : Fr No wa1 wa2 := by rw [← hwa2]; exact (Fr.refl _ wa1).alloc _
  have fa3 : Fr No wa2 wa := by rw [← hwa]; exact (Fr.refl _ wa2).alloc _
  have fa : Fr No w wa := (fa1.trans fa2 fun _ _ h => h).trans fa3 fun _ _ h => h
  have s1 : wa1.heap.size = p5 := by rw [← hwa1, ← hp5]; simp
  have s2 : wa2.heap.size = p6 := by rw [← hwa2, ← hp6]; simp [s1, ← hp5]
  have ba4 : Blk wa p4 29 #[.pointer none] := by
    have h1 : Blk wa1 p4 29 #[.pointer none] := by rw [← hwa1, ← hp4]; exact Blk.new w 29 _
    have h2 := h1.of (fa2.block p4 h1.lt id)
    exact h2.of (fa3.block p4 h2.lt id)
  have ba5 : Blk wa p5 43 #[.slice none 0 0] := by
    have h2 : Blk wa2 p5 43 #[.slice none 0 0] := by rw [← hwa2, ← s1]; exact Blk.new wa1 43 _
    exact h2.of (fa3.block p5 h2.lt id)
  have ba6 : Blk wa p6 39 #[.int .i64 0] := by rw [← hwa, ← s2]; exact Blk.new wa2 39 _
  rw [hwa1, hwa2, hwa, hp6, hp5, hp4]
  have q5 : p4 < p5 := by omega
  have q6 : p5 < p6 := by omega
  obtain ⟨v1, hv1⟩ : ∃ v1, wa.setCell ⟨p4, 0, none⟩ (.pointer none) = v1 := ⟨_, rfl⟩
  have g1 : Fr (fun k => k = p4) wa v1 := by rw [← hv1]; exact (Fr.refl (fun k => k = p4) wa).setCell (p := ⟨p4, 0, none⟩) (fun _ => rfl) _
  have a4 : Blk v1 p4 29 #[.pointer none] := by rw [← hv1]; exact ba4.set_ 0 _
  have a5 := ba5.of (g1.block p5 ba5.lt (by omega))
  have a6 := ba6.of (g1.block p6 ba6.lt (by omega))
  obtain ⟨v2, hv2⟩ : ∃ v2, v1.setCell ⟨p5, 0, none⟩ (.slice none 0 0) = v2 := ⟨_, rfl⟩
  have g2 : Fr (fun k => k = p5) v1 v2 := by rw [← hv2]; exact (Fr.refl (fun k => k = p5) v1).setCell (p := ⟨p5, 0, none⟩) (fun _ => rfl) _
  have i5 : Blk v2 p5 43 #[.slice none 0 0] := by rw [← hv2]; exact a5.set_ 0 _
  have i4 := a4.of (g2.block p4 a4.lt (by omega))
  have i6 := a6.of (g2.block p6 a6.lt (by omega))
  obtain ⟨wz, hwz⟩ : ∃ wz, v2.setCell ⟨p6, 0, none⟩ (.int .i64 1) = wz := ⟨_, rfl⟩
  have g3 : Fr (fun k => k = p6) v2 wz := by rw [← hwz]; exact (Fr.refl (fun k => k = p6) v2).setCell (p := ⟨p6, 0, none⟩) (fun _ => rfl) _
  have j6 : Blk wz p6 39 #[.int .i64 1] := by rw [← hwz]; exact i6.set_ 0 _
  have j4 := i4.of (g3.block p4 i4.lt (by omega))
  have j5 := i5.of (g3.block p5 i5.lt (by omega))
  have o4 : wz.cell? ⟨p4, 0, none⟩ = some (.pointer none) := j4.cell 0
  have o5 : wz.cell? ⟨p5, 0, none⟩ = some (.slice none 0 0) := j5.cell 0
  have o6 : wz.cell? ⟨p6, 0, none⟩ = some (.int .i64 1) := j6.cell 0
  have x4 : wa.cell? ⟨p4, 0, none⟩ = some (.pointer none) := ba4.cell 0
  have x5 : v1.cell? ⟨p5, 0, none⟩ = some (.slice none 0 0) := a5.cell 0
  have x6 : v2.cell? ⟨p6, 0, none⟩ = some (.int .i64 0) := i6.cell 0
  have y4 := ba4.frozen 0
  have y5 := a5.frozen 0
  have y6 := i6.frozen 0
  have fz : Fr No w wz := (((fa.any.trans g1 fun _ _ h => .inl h).trans g2 fun _ _ h => .inr (.inl h)).trans g3 fun _ _ h => .inr (.inr h) : Fr (fun k => k = p4 ∨ k = p5 ∨ k = p6) w wz).no_of (b := p4) (by omega) fun k hk => by omega
  have FZ := Lib.hid fz
  have V1 := Lib.hid hv1
  have V2 := Lib.hid hv2
  have WZ := Lib.hid hwz
  rw [← hv1] at x5 y5
  rw [← hv2, ← hv1] at x6 y6
  rw [← hwz, ← hv2, ← hv1] at o4 o5 o6
  clear fa1 fa2 fa3 fa s1 s2 ba4 ba5 ba6 g1 a4 a5 a6 g2 i4 i5 i6 g3 j4 j5 j6 fz hv1 hv2 hwz hwa1 hwa2 hwa hp4 hp5 hp6
  go_wp2_with fail
  refine ⟨.tuple #[.pointer none, .slice none 0 0, .int .i64 1], by simp [results, Tryz.results19, go_sem, o4, o5, o6], rfl, ?_⟩
  rw [V1.out, V2.out, WZ.out]
  exact FZ.out
set_option maxRecDepth 100000 in
set_option maxHeartbeats 4000000 in
theorem walNil_any (s : Value) (n : Int) (w : World) (hv : Vr w) : Calls Tryz.prog 8 #[s, .int .i64 n] w fun e w' => e = .returned (.bool true) ∧ Below w.heap.size w w' := by
  have HV := Lib.hid hv
  clear hv
  go_enter Tryz.func8, Tryz.ntmps8
  go_upto_region 3 with fail
  obtain ⟨w1, hw1⟩ : ∃ w1, w.alloc (.cells #[.nilIface, .int .i64 0, .int .i64 0, .int .i64 0, .slice none 0 0, .int .i64 0, .bool false, .bool false] 71) = w1 := ⟨_, rfl⟩
  have f1 : Fr No w w1 := by rw [← hw1]; exact (Fr.refl _ w).alloc _
  have b1 : Blk w1 w.heap.size 71 #[.nilIface, .int .i64 0, .int .i64 0, .int .i64 0, .slice none 0 0, .int .i64 0, .bool false, .bool false] := by rw [← hw1]; exact Blk.new w 71 _
  obtain ⟨z, hz⟩ : ∃ z, w.heap.size = z := ⟨_, rfl⟩
  rw [hz] at b1
  have B1 := Lib.hid b1
  have F1 := Lib.hid f1
  have HZ := Lib.hid hz
  rw [hw1, hz]
  clear b1 f1 hw1 hz
  go_wp2_with fail
  refine (append_arg (state_nil w1) s).mono ?_
  rintro e w' ⟨rfl, rfl⟩
  go_wp2_with fail
  refine (append_arg (state_zero (B1.out.cell 0)) s).mono ?_
  rintro e w' ⟨rfl, rfl⟩
  go_wp2_with fail
  refine (open_nil n w1).mono ?_
  rintro e w2 ⟨rfl, f2⟩
  have F2 := Lib.hid (F1.out.trans f2 fun _ _ h => h)
  have B2 := Lib.hid (B1.out.of (f2.block z B1.out.lt id))
  clear f2 F1 B1
  have HA := Lib.hid (awake_any w2 (HV.out.keep F2.out))
  go_wp2_with fail
  refine HA.out.mono ?_
  rintro e w3 ⟨rfl, -, b3⟩
  have B3 := Lib.hid (B2.out.of (b3.block z B2.out.lt))
  have F3 := Lib.hid (F2.out.below.trans (b3.mono F2.out.size))
  clear b3 F2 B2 HA
  go_wp2_with fail
  refine (sync_arg (state_nil w3)).mono ?_
  rintro e w' ⟨rfl, rfl⟩
  go_wp2_with fail
  refine (sync_arg (state_zero (B3.out.cell 0))).mono ?_
  rintro e w' ⟨rfl, rfl⟩
  go_wp2_with fail
  refine (trim_arg (state_nil w3) (.int .i64 n)).mono ?_
  rintro e w' ⟨rfl, rfl⟩
  go_wp2_with fail
  refine (last_nil w3).mono ?_
  rintro e w' ⟨rfl, rfl⟩
  go_wp2_with fail
  refine (firm_nil w3).mono ?_
  rintro e w' ⟨rfl, rfl⟩
  go_wp2_with fail
  refine (broken_nil w3).mono ?_
  rintro e w' ⟨rfl, rfl⟩
  go_wp2
  go_ret
  exact ⟨rfl, F3.out⟩
end Go.Proofs.YtccjkolcmdhliaaGreatDoor
