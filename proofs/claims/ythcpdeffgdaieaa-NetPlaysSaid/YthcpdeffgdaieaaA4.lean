/- The ways of a connection: asked, put to, taken from. -/
import Derived.Test.YthcpdeffgdaieaaA3
import Derived.Deep.DeepFit
namespace Go.Proofs.Ythcpdeffgdaieaa
open Go.RowKit Go.Maps
set_option linter.unusedVariables false

/-- A side's number, and where the way to it lies. -/
def sd (s : Bool) : Int := if s then 1 else 0
def po (s : Bool) : Nat := if s then 3 else 0

set_option maxHeartbeats 400000 in
theorem to_any (g : Nat) (s : Bool) (w : World) :
    Calls Try.prog 31 #[.pointer (some ⟨g, 0, none⟩), .int .i64 (sd s)] w fun e w' => e = .returned (.pointer (some ⟨g, po s, none⟩)) ∧ w = w' := by
  cases s
  · show Calls Try.prog 31 #[.pointer (some ⟨g, 0, none⟩), .int .i64 0] w fun e w' => e = .returned (.pointer (some ⟨g, 0, none⟩)) ∧ w = w'
    go_enter Try.func31, Try.ntmps31
    go_wp2
    go_ret
    exact ⟨rfl, rfl⟩
  · show Calls Try.prog 31 #[.pointer (some ⟨g, 0, none⟩), .int .i64 1] w fun e w' => e = .returned (.pointer (some ⟨g, 3, none⟩)) ∧ w = w'
    go_enter Try.func31, Try.ntmps31
    go_wp2
    go_ret
    exact ⟨rfl, rfl⟩

set_option maxHeartbeats 400000 in
theorem from_any (g : Nat) (s : Bool) (w : World) :
    Calls Try.prog 28 #[.pointer (some ⟨g, 0, none⟩), .int .i64 (sd s)] w fun e w' => e = .returned (.pointer (some ⟨g, po (!s), none⟩)) ∧ w = w' := by
  cases s
  · show Calls Try.prog 28 #[.pointer (some ⟨g, 0, none⟩), .int .i64 0] w fun e w' => e = .returned (.pointer (some ⟨g, 3, none⟩)) ∧ w = w'
    go_enter Try.func28, Try.ntmps28
    go_wp2
    go_ret
    exact ⟨rfl, rfl⟩
  · show Calls Try.prog 28 #[.pointer (some ⟨g, 0, none⟩), .int .i64 1] w fun e w' => e = .returned (.pointer (some ⟨g, 0, none⟩)) ∧ w = w'
    go_enter Try.func28, Try.ntmps28
    go_wp2
    go_ret
    exact ⟨rfl, rfl⟩

def amt (many all : Int) : Int := min (max many 0) all
set_option maxHeartbeats 400000 in
theorem atMost_any (many all : Int) (w : World) :
    Calls Try.prog 32 #[.int .i64 many, .int .i64 all] w fun e w' => e = .returned (.int .i64 (amt many all)) ∧ w = w' := by
  go_enter Try.func32, Try.ntmps32
  go_wp2
  all_goals go_ret
  all_goals (refine ⟨ret_int ?_, rfl⟩; unfold amt; omega)

set_option maxHeartbeats 400000 in
theorem size_any (g o : Nat) (v : Value) (l : List UInt8) (w : World) (hc : w.cell? ⟨g, o, none⟩ = some v) (h : RowB w v l) :
    Calls Try.prog 29 #[.pointer (some ⟨g, o, none⟩)] w fun e w' => e = .returned (.int .i64 l.length) ∧ w = w' := by
  have hl := fun ty => h.run_len ty
  clear h
  go_enter Try.func29, Try.ntmps29
  go_wp2
  go_ret
  exact ⟨rfl, rfl⟩

/-- A way, as it lies: three cells from o on, and its bytes. -/
structure WAt (w : World) (g o : Nat) (v : Value) (W : WS) : Prop where
  c0 : w.cell? ⟨g, o, none⟩ = some v
  c1 : w.cell? ⟨g, o + 1, none⟩ = some (.int .i64 W.arr)
  c2 : w.cell? ⟨g, o + 2, none⟩ = some (.bool W.shut)
  row : RowB w v W.bytes

theorem LAt.wat {w : World} {g : Nat} {vv : Bool → Value} {K : LK} (h : LAt w g vv K) (s : Bool) : WAt w g (po s) (vv s) (K.way s) := by
  cases s
  · exact ⟨h.blk.cell 0, h.blk.cell 1, h.blk.cell 2, h.row false⟩
  · exact ⟨h.blk.cell 3, h.blk.cell 4, h.blk.cell 5, h.row true⟩
theorem LAt.frozen {w : World} {g : Nat} {vv : Bool → Value} {K : LK} (h : LAt w g vv K) (i : Nat) : w.frozen? ⟨g, i, none⟩ = false := h.blk.frozen i

def WS.mov (W : WS) : Int := (W.bytes.length : Int) - W.arr
def WS.ended (W : WS) : Bool := W.shut && W.bytes.isEmpty

set_option maxHeartbeats 400000 in
theorem moving_any (g o : Nat) (v : Value) (W : WS) (w : World) (h : WAt w g o v W) (hl : W.bytes.length ≤ 65536) (ha : W.arr ≤ W.bytes.length) :
    Calls Try.prog 33 #[.pointer (some ⟨g, o, none⟩)] w fun e w' => e = .returned (.int .i64 W.mov) ∧ ∃ n, w' = w.drewN n := by
  have hs : ∀ n, Calls Try.prog 29 #[.pointer (some ⟨g, o, none⟩)] (w.drewN n) fun e w' => e = .returned (.int .i64 W.bytes.length) ∧ w' = w.drewN n := fun n =>
    (size_any g o v W.bytes (w.drewN n) h.c0 (h.row.of fun _ _ => rfl)).mono fun e w' h => ⟨h.1, h.2.symm⟩
  have c1 := h.c1
  have e1 : IntKind.i64.wrap ((W.bytes.length : Int) - W.arr) = (W.bytes.length : Int) - W.arr := IntWalk.i64_in _ (by omega)
  go_enter Try.func33, Try.ntmps33
  go_wp2
  go_quiet ((go_at_call 29; exact Calls.quiet_of_same (hs _)))
  go_wp2
  go_ret
  exact ⟨rfl, _, rfl⟩

set_option maxHeartbeats 400000 in
theorem ended_any (g o : Nat) (v : Value) (W : WS) (w : World) (h : WAt w g o v W) :
    Calls Try.prog 34 #[.pointer (some ⟨g, o, none⟩)] w fun e w' => e = .returned (.bool W.ended) ∧ w = w' := by
  have hs := size_any g o v W.bytes w h.c0 h.row
  have c2 := h.c2
  obtain ⟨bytes, arr, shut⟩ := W
  cases shut
  · clear hs h
    go_enter Try.func34, Try.ntmps34
    go_wp2_with fail
    go_ret
    exact ⟨rfl, rfl⟩
  · clear h
    go_enter Try.func34, Try.ntmps34
    go_wp2_with (go_at_call 29; refine hs.mono ?_; rintro e w' ⟨rfl, rfl⟩)
    go_ret
    refine ⟨ret_bool ?_, rfl⟩
    unfold WS.ended
    cases bytes <;> simp <;> omega

end Go.Proofs.Ythcpdeffgdaieaa
