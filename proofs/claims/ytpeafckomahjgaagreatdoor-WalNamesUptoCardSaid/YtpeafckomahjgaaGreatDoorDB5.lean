/- Write, that makes a file; Write, refused. -/
import Derived.Test.YtpeafckomahjgaaGreatDoorDB4
namespace Go.Proofs.YtpeafckomahjgaaGreatDoor
open Go.RowKit Go.Maps Go.Sort
set_option linter.unusedVariables false

set_option maxHeartbeats 400000 in
theorem write_bad (d : Nat) (R : Rp) (S : AS) (l : List UInt8) (data : ByteArray) (E : Int) (w : World) (h : At w d R S) (hl : l.length ≤ maxLen) (hE : checkOf S.on [l] = E) (hb : E ≠ 0) :
    Calls Tryz.prog 27 #[.pointer (some ⟨d, 0, none⟩), .string ⟨l.toArray⟩, .string data] w fun e w' => e = .returned (.int .i64 E) ∧ Fr No w w' := by
  have hne2 : (E != 0) = true := by simpa using hb
  have hcon := check_new d R S l E w h hE hl
  clear hE hb hl
  go_enter Tryz.func27, Tryz.ntmps27
  go_wp2_with fail
  refine hcon.mono ?_
  rintro e w' ⟨rfl, rfl⟩
  go_wp2
  go_ret
  exact ⟨rfl, (Fr.refl _ _).alloc _⟩

theorem len_regrown {w : World} {d b : Nat} {R : Rp} {S : AS} (h : At w d R S) (e1 : R.nm = some b) (dd : Nat) (os : Array Obj) (ty : TypeId) :
    (Builtin.len_ #[75] ty #[.map (some b)]).run Tryz.prog (grow (redrawn w dd) os) = .ok (.int .i64 (Maps.size S.names)) (grow (redrawn w dd) os) := by
  have := (h.regrown dd os).names
  rw [e1] at this
  exact World.ownsMap.len (b := b) this Tryz.underlying75 ty

set_option maxRecDepth 100000 in
set_option maxHeartbeats 1000000 in
theorem write_full2 (d : Nat) (R : Rp) (S : AS) (l : List UInt8) (data : List UInt8) (w : World) (h : At w d R S) (hW : WF S) (hl : l.length ≤ maxLen) (hE : checkOf S.on [l] = 0) (hn : look S.names l = none)
    (hsz : Maps.size S.names ≤ 1000000) (hfit : usedOf S.file S.names + data.length ≤ S.room) (hfull : 64 ≤ Maps.size S.names) :
    Calls Tryz.prog 27 #[.pointer (some ⟨d, 0, none⟩), .string ⟨l.toArray⟩, .string ⟨data.toArray⟩] w fun e w' => e = .returned (.int .i64 12) ∧ Fr No w w' := by
  have hcon := check_new d R S l 0 w h hE hl
  have hon := on_of hE
  obtain ⟨nb, fb, e1, e2⟩ := h.onn hon
  obtain ⟨w1, hw1⟩ : ∃ w1, w.alloc (.cells #[.string ⟨l.toArray⟩] 9) = w1 := ⟨_, rfl⟩
  have f1 : Fr No w w1 := by rw [← hw1]; exact (Fr.refl _ w).alloc _
  rw [hw1] at hcon
  have h1 := h.keep f1
  have hnm := h1.names
  rw [e1] at hnm
  have hrun := run_look_none (b := nb) hnm hl hn
  have c5 := (cells_all h1).2.2.2.2.2.1
  rw [e1] at c5
  have hused := used_regrown h1 hW e1 hsz
  have HU := Lib.hid hused
  have c0 : ∀ dd os, (grow (redrawn w1 dd) os).cell? ⟨d, 0, none⟩ = some (.int .i64 S.room) := fun dd os => (cells_all (h1.regrown dd os)).1
  have c5' : ∀ dd os, (grow (redrawn w1 dd) os).cell? ⟨d, 5, none⟩ = some (.map (some nb)) := fun dd os => by
    have := (cells_all (h1.regrown dd os)).2.2.2.2.2.1
    rw [e1] at this; exact this
  have hlen := len_regrown h1 e1
  obtain ⟨hU1, hU2⟩ := used_bounds h hW hsz
  have hroom := hW.room
  generalize hu : usedOf S.file S.names = U at *
  have t1 : IntKind.i64.wrap (S.room - U) = S.room - U := IntWalk.i64_in _ (by omega)
  have t2 : decide (S.room - U < (data.length : Int)) = false := by simp; omega
  have t3 : decide ((64 : Int) ≤ (Maps.size S.names : Int)) = true := by simp; omega
  have HF := Lib.hid f1
  have HC := Lib.hid hcon
  clear hused hu hn hE h hW hon e1 e2 h1 hnm f1 hl hcon
  go_enter Tryz.func27, Tryz.ntmps27
  go_wp2_with fail
  refine HC.out.mono ?_
  rintro e w' ⟨rfl, rfl⟩
  go_wp2_with fail
  refine wp_region_quiet_below mixed (by kernel_rfl) ?_
  repeat (first | go_big_quiet_step (exact HU.out _ _) | quiet_step (exact HU.out _ _))
  refine wpQuiet_nil ?_
  rintro w2 ⟨p, rfl⟩
  go_wp2
  go_ret
  exact ⟨rfl, HF.out.trans (Fr.of_below (below_regrown w1 p.d p.os)) fun _ _ hj => hj⟩

end Go.Proofs.YtpeafckomahjgaaGreatDoor
