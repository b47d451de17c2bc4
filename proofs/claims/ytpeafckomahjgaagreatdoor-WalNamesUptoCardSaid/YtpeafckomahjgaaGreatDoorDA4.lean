/- What the disk's own fields do: armed, steps, room. -/
import Derived.Test.YtpeafckomahjgaaGreatDoorDA3
import Derived.Deep.DeepFit
import Derived.StillTailTactics
namespace Go.Proofs.YtpeafckomahjgaaGreatDoor
open Go.RowKit Go.Maps
set_option linter.unusedVariables false

def AS.arm (S : AS) (n : Int) : AS := { S with armed := decide (0 ≤ n), left := max n 0 }

theorem cells_all {w : World} {d : Nat} {R : Rp} {S : AS} (h : At w d R S) :
    w.cell? ⟨d, 0, none⟩ = some (.int .i64 S.room) ∧ w.cell? ⟨d, 1, none⟩ = some (.bool S.on) ∧ w.cell? ⟨d, 2, none⟩ = some (.bool S.armed) ∧ w.cell? ⟨d, 3, none⟩ = some (.int .i64 S.left) ∧
    w.cell? ⟨d, 4, none⟩ = some (.int .i64 S.steps) ∧ w.cell? ⟨d, 5, none⟩ = some (.map R.nm) ∧ w.cell? ⟨d, 6, none⟩ = some (.map R.fm) ∧ w.cell? ⟨d, 7, none⟩ = some R.lv ∧ w.cell? ⟨d, 8, none⟩ = some (.map R.fb) ∧ w.cell? ⟨d, 9, none⟩ = some (.int .i64 S.last) :=
  ⟨h.cells 0, h.cells 1, h.cells 2, h.cells 3, h.cells 4, h.cells 5, h.cells 6, h.cells 7, h.cells 8, h.cells 9⟩

theorem arm_nil (n : Int) (w : World) : Calls Tryz.prog 22 #[.pointer none, .int .i64 n] w fun e w' => e = .returned (.tuple #[]) ∧ w = w' := by
  go_enter Tryz.func22, Tryz.ntmps22
  go_wp2
  exact bodyPost_ret (results_none rfl _ _ _) rfl ⟨rfl, rfl⟩

set_option maxHeartbeats 400000 in
theorem arm_any (d : Nat) (R : Rp) (S : AS) (n : Int) (w : World) (h : At w d R S) :
    Calls Tryz.prog 22 #[.pointer (some ⟨d, 0, none⟩), .int .i64 n] w fun e w' => e = .returned (.tuple #[]) ∧ At w' d R (S.arm n) ∧ Fr (One d) w w' := by
  obtain ⟨c0, c1, c2, c3, c4, c5, c6, c7, c8, c9⟩ := cells_all h
  have f2 := h.blk.frozen 2
  have f3 := h.blk.frozen 3
  go_enter Tryz.func22, Tryz.ntmps22
  go_wp2
  go_end0
  have hf : Fr (One d) w ((w.setCell ⟨d, 2, none⟩ (.bool (decide (0 ≤ n)))).setCell ⟨d, 3, none⟩ (.int .i64 (max n 0))) := (Fr.set0 d w 2 _).set1 3 _
  exact ⟨rfl, h.own hf ((h.blk.set_ 2 _).set_ 3 _) rfl rfl rfl rfl h.onn, hf⟩

def roomOf (n : Int) : Int := min (max n 0) 16777216
def AS.limit (S : AS) (n : Int) : AS := { S with room := roomOf n }

theorem limit_nil (n : Int) (w : World) : Calls Tryz.prog 35 #[.pointer none, .int .i64 n] w fun e w' => e = .returned (.tuple #[]) ∧ w = w' := by
  go_enter Tryz.func35, Tryz.ntmps35
  go_wp2
  exact bodyPost_ret (results_none rfl _ _ _) rfl ⟨rfl, rfl⟩

set_option maxHeartbeats 400000 in
theorem limit_any (d : Nat) (R : Rp) (S : AS) (n : Int) (w : World) (h : At w d R S) :
    Calls Tryz.prog 35 #[.pointer (some ⟨d, 0, none⟩), .int .i64 n] w fun e w' => e = .returned (.tuple #[]) ∧ At w' d R (S.limit n) ∧ Fr (One d) w w' := by
  have c0 := (cells_all h).1
  have f0 := h.blk.frozen 0
  go_enter Tryz.func35, Tryz.ntmps35
  go_wp2
  go_end0
  have hf : Fr (One d) w (w.setCell ⟨d, 0, none⟩ (.int .i64 (roomOf n))) := Fr.set0 d w 0 _
  exact ⟨rfl, h.own hf (h.blk.set_ 0 _) rfl rfl rfl rfl h.onn, hf⟩

theorem on_nil (w : World) : Calls Tryz.prog 49 #[.pointer none] w fun e w' => e = .returned (.bool false) ∧ w = w' := by
  go_enter Tryz.func49, Tryz.ntmps49
  go_wp2
  go_ret
  exact ⟨rfl, rfl⟩
theorem on_any (d : Nat) (R : Rp) (S : AS) (w : World) (h : At w d R S) :
    Calls Tryz.prog 49 #[.pointer (some ⟨d, 0, none⟩)] w fun e w' => e = .returned (.bool S.on) ∧ w = w' := by
  have c1 := (cells_all h).2.1
  go_enter Tryz.func49, Tryz.ntmps49
  go_wp2
  go_ret
  exact ⟨rfl, rfl⟩

theorem steps_nil (w : World) : Calls Tryz.prog 46 #[.pointer none] w fun e w' => e = .returned (.int .i64 0) ∧ w = w' := by
  go_enter Tryz.func46, Tryz.ntmps46
  go_wp2
  go_ret
  exact ⟨rfl, rfl⟩

set_option maxHeartbeats 400000 in
theorem load_any (d i : Nat) (n : Int) (w : World) (hc : w.cell? ⟨d, i, none⟩ = some (.int .i64 n)) :
    Calls Tryz.prog 82 #[.pointer (some ⟨d, i, none⟩)] w fun e w' => e = .returned (.int .i64 n) ∧ w = w' := by
  have hl := run_call_load (P := Tryz.prog) Tryz.func121 (by kernel_rfl) (by kernel_rfl) (by kernel_rfl) .i64 (by kernel_rfl) (w := w) (a := ⟨d, i, none⟩) (x := n) hc
  go_enter Tryz.func82, Tryz.ntmps82
  go_wp2
  go_ret
  exact ⟨rfl, rfl⟩

set_option maxHeartbeats 400000 in
theorem add_any (d i : Nat) (n : Int) (w : World) (hc : w.cell? ⟨d, i, none⟩ = some (.int .i64 n)) (hf : w.frozen? ⟨d, i, none⟩ = false) :
    Calls Tryz.prog 111 #[.pointer (some ⟨d, i, none⟩), .int .i64 1] w fun e w' => e = .returned (.int .i64 (wrap64 (n + 1))) ∧ w.setCell ⟨d, i, none⟩ (.int .i64 (wrap64 (n + 1))) = w' := by
  have hadd := run_call_add (P := Tryz.prog) Tryz.func141 (by kernel_rfl) (by kernel_rfl) (by kernel_rfl) .i64 (by kernel_rfl) (w := w) (a := ⟨d, i, none⟩) (x := n) (y := 1) (s := wrap64 (n + 1)) hc hf (by simp [go_sem]; exact IntWalk.i64_left _)
  go_enter Tryz.func111, Tryz.ntmps111
  go_wp2
  go_ret
  exact ⟨rfl, rfl⟩

theorem steps_any (d : Nat) (R : Rp) (S : AS) (w : World) (h : At w d R S) :
    Calls Tryz.prog 46 #[.pointer (some ⟨d, 0, none⟩)] w fun e w' => e = .returned (.int .i64 S.steps) ∧ w = w' := by
  have c4 := (cells_all h).2.2.2.2.1
  go_enter Tryz.func46, Tryz.ntmps46
  go_wp2_with (go_at_call 82; refine (load_any _ _ _ _ c4).mono ?_; rintro e w' ⟨rfl, rfl⟩)
  go_ret
  exact ⟨rfl, rfl⟩

/-- A step: is the power out? -/
def AS.step (S : AS) : AS :=
  if S.armed then (if 0 < S.left then { S with steps := wrap64 (S.steps + 1), left := S.left - 1 } else { S with steps := wrap64 (S.steps + 1), on := false, armed := false, left := 0 })
  else { S with steps := wrap64 (S.steps + 1) }
def AS.stepE (S : AS) : Int := if S.armed then (if 0 < S.left then 0 else 13) else 0

set_option maxHeartbeats 400000 in
theorem step_any (d : Nat) (R : Rp) (S : AS) (w : World) (h : At w d R S) (hl : S.left ≤ 9223372036854775807) :
    Calls Tryz.prog 75 #[.pointer (some ⟨d, 0, none⟩)] w fun e w' => e = .returned (.int .i64 S.stepE) ∧ At w' d R S.step ∧ Fr (One d) w w' := by
  obtain ⟨c0, c1, c2, c3, c4, c5, c6, c7, c8, c9⟩ := cells_all h
  have f1 := h.blk.frozen 1
  have f3 := h.blk.frozen 3
  have f4 := h.blk.frozen 4
  by_cases ha : S.armed = true
  · by_cases hp : 0 < S.left
    · rw [ha] at c2
      have eS : S.step = { S with steps := wrap64 (S.steps + 1), left := S.left - 1 } := by unfold AS.step; rw [if_pos ha, if_pos hp]
      have eE : S.stepE = 0 := by unfold AS.stepE; rw [if_pos ha, if_pos hp]
      rw [eS, eE]
      clear eS eE ha
      go_enter Tryz.func75, Tryz.ntmps75
      go_wp2_with (go_at_call 111; refine (add_any _ _ _ _ c4 f4).mono ?_; rintro e w' ⟨rfl, rfl⟩)
      go_ret
      have hf : Fr (One d) w ((w.setCell ⟨d, 4, none⟩ (.int .i64 (wrap64 (S.steps + 1)))).setCell ⟨d, 3, none⟩ (.int .i64 (S.left - 1))) := (Fr.set0 d w 4 _).set1 3 _
      exact ⟨rfl, h.own hf ((h.blk.set_ 4 _).set_ 3 _) rfl rfl rfl rfl h.onn, hf⟩
    · rw [ha] at c2
      have eS : S.step = { S with steps := wrap64 (S.steps + 1), on := false, armed := false, left := 0 } := by unfold AS.step; rw [if_pos ha, if_neg hp]
      have eE : S.stepE = 13 := by unfold AS.stepE; rw [if_pos ha, if_neg hp]
      rw [eS, eE]
      clear eS eE ha
      go_enter Tryz.func75, Tryz.ntmps75
      go_wp2_with (go_at_call 111; refine (add_any _ _ _ _ c4 f4).mono ?_; rintro e w' ⟨rfl, rfl⟩)
      have hf : Fr (One d) w ((w.setCell ⟨d, 4, none⟩ (.int .i64 (wrap64 (S.steps + 1)))).setCell ⟨d, 1, none⟩ (.bool false)) := (Fr.set0 d w 4 _).set1 1 _
      have h1 : At _ d R { S with steps := wrap64 (S.steps + 1), on := false } := h.own hf ((h.blk.set_ 4 _).set_ 1 _) rfl rfl rfl rfl (fun e => by cases e)
      refine (arm_any d R _ (-1) _ h1).mono ?_
      rintro e w' ⟨rfl, h2, hf2⟩
      go_wp2
      go_ret
      exact ⟨rfl, h2, hf.trans hf2 (fun _ _ hj => hj)⟩
  · have c2' : w.cell? ⟨d, 2, none⟩ = some (.bool false) := by rw [c2]; simp [ha]
    clear c2
    have eS : S.step = { S with steps := wrap64 (S.steps + 1) } := by unfold AS.step; rw [if_neg ha]
    have eE : S.stepE = 0 := by unfold AS.stepE; rw [if_neg ha]
    rw [eS, eE]
    clear eS eE ha
    go_enter Tryz.func75, Tryz.ntmps75
    go_wp2_with (go_at_call 111; refine (add_any _ _ _ _ c4 f4).mono ?_; rintro e w' ⟨rfl, rfl⟩)
    go_ret
    have hf : Fr (One d) w (w.setCell ⟨d, 4, none⟩ (.int .i64 (wrap64 (S.steps + 1)))) := Fr.set0 d w 4 _
    exact ⟨rfl, h.own hf (h.blk.set_ 4 _) rfl rfl rfl rfl h.onn, hf⟩

end Go.Proofs.YtpeafckomahjgaaGreatDoor
