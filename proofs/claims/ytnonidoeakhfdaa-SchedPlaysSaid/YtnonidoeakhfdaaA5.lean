/- Tasks and locks found; what is asked of them. -/
import Derived.Test.YtnonidoeakhfdaaA4
import Derived.Deep.DeepFit
import Derived.Outline
namespace Go.Proofs.Ytnonidoeakhfdaa
open Go.RowKit Go.Maps
set_option linter.unusedVariables false

theorem zero59 (w : World) : (zeroValue 59).run Try.prog w = .ok (.pointer none) w := by kernel_rfl
theorem zero63 (w : World) : (zeroValue 63).run Try.prog w = .ok (.pointer none) w := by kernel_rfl
theorem zero71 (w : World) : (zeroValue 71).run Try.prog w = .ok (.agg #[]) w := by kernel_rfl

theorem ptrElem_nil {v : Value} {ps : List MemPlace} (h : ptrElem v = some (.nil, ps)) : v = .pointer none := by
  unfold ptrElem at h
  split at h
  · rfl
  · simp at h
  · simp at h

section
variable {w : World} {b n : Nat} {m : Option Nat} {D : DU} {c : Int} {g : Nat}
theorem look_some {T E : TypeId} (hT : Try.prog.underlying T = some (.map 3 E)) (hE : (zeroValue E).run Try.prog w = .ok (.pointer none) w) (h : w.ownsMap Try.prog 3 ptrElem b n D) (hw : (Lit.int .i64 c).wf = true) (hc : ∀ z, D.atKey (.int .i64 c) z = .lit (.int .i64 g)) :
    (Instr.lookup T (.map (some b)) (.int .i64 c) false).run Try.prog w = .ok (.pointer (some ⟨g, 0, none⟩)) w ∧ (Instr.lookup T (.map (some b)) (.int .i64 c) true).run Try.prog w = .ok (.tuple #[.pointer (some ⟨g, 0, none⟩), .bool true]) w := by
  constructor
  · obtain ⟨v, ps, hr, hv⟩ := h.lookup law3 hT hE (zd := .nil) (zp := []) rfl (key3 c hw)
    rw [hc] at hv
    rw [hr, ptrElem_inv hv]
  · obtain ⟨v, ps, hr, hv⟩ := h.look_ok law3 hT hE (zd := .nil) (zp := []) rfl (key3 c hw)
    rw [hc] at hv
    rw [hr, ptrElem_inv hv, has_true_of_atKey hc]
theorem look_none {T E : TypeId} (hT : Try.prog.underlying T = some (.map 3 E)) (hE : (zeroValue E).run Try.prog w = .ok (.pointer none) w) (h : MapAt w Try.prog 3 ptrElem m D) (hw : (Lit.int .i64 c).wf = true) (hc : has D (.int .i64 c) = false) :
    (Instr.lookup T (.map m) (.int .i64 c) true).run Try.prog w = .ok (.tuple #[.pointer none, .bool false]) w := by
  cases m with
  | none => exact Maps.look_nil (P := Try.prog) true law3 hT hE (key3 c hw)
  | some b =>
    have h' : w.ownsMap Try.prog 3 ptrElem b (Maps.size D) D := h
    obtain ⟨v, ps, hr, hv⟩ := h'.look_ok law3 hT hE (zd := .nil) (zp := []) rfl (key3 c hw)
    rw [atKey_of_not_has hc] at hv
    rw [hr, ptrElem_nil hv, hc]
theorem look_unit (h : MapAt w Try.prog 3 (unitElem (H := Unit)) m D) (hw : (Lit.int .i64 c).wf = true) :
    (Instr.lookup 54 (.map m) (.int .i64 c) true).run Try.prog w = .ok (.tuple #[.agg #[], .bool (has D (.int .i64 c))]) w := by
  cases m with
  | none =>
    have hD : D = .map [] := h
    rw [Maps.look_nil (P := Try.prog) true law3 Try.underlying54 (zero71 w) (key3 c hw), hD]
    rfl
  | some b =>
    have h' : w.ownsMap Try.prog 3 (unitElem (H := Unit)) b (Maps.size D) D := h
    obtain ⟨v, ps, hr, hv⟩ := h'.look_ok law3 Try.underlying54 (zero71 w) (zd := .agg []) (zp := []) unitElem_mk (key3 c hw)
    rw [hr, (unitElem_inv hv).1]
end

section
variable {w : World} {d : Nat} {R : Rp} {S : SS} {n : Int} {T : TS} {H : HS}
theorem At.c0 (h : At w d R S) : w.cell? ⟨d, 0, none⟩ = some (.map R.t.m) := h.blk.cell 0
theorem At.c1 (h : At w d R S) : w.cell? ⟨d, 1, none⟩ = some (.int .i64 S.last) := h.blk.cell 1
theorem At.c2 (h : At w d R S) : w.cell? ⟨d, 2, none⟩ = some (.map R.l.m) := h.blk.cell 2
theorem At.c3 (h : At w d R S) : w.cell? ⟨d, 3, none⟩ = some (.map R.o.m) := h.blk.cell 3
theorem At.tblk (h : At w d R S) (hT : S.task n = some T) : Blk w (R.t.c n).1 79 T.cells := (h.t.get hT).2.1
theorem At.lblk (h : At w d R S) (hH : S.lock n = some H) : Blk w (R.l.c n).1 66 #[.int .i64 H.holder, (R.l.c n).2] ∧ RowZ w (R.l.c n).2 H.queue := (h.l.get hH).2
theorem At.tlook (h : At w d R S) (hw : (Lit.int .i64 n).wf = true) (hT : S.task n = some T) :
    (Instr.lookup 52 (.map R.t.m) (.int .i64 n) false).run Try.prog w = .ok (.pointer (some ⟨(R.t.c n).1, 0, none⟩)) w ∧ (Instr.lookup 52 (.map R.t.m) (.int .i64 n) true).run Try.prog w = .ok (.tuple #[.pointer (some ⟨(R.t.c n).1, 0, none⟩), .bool true]) w := by
  obtain ⟨b, hb⟩ := h.t.mapSome hT
  have hm := h.t.map
  rw [hb] at hm ⊢
  exact look_some (b := b) Try.underlying52 (zero59 w) hm hw (h.t.get hT).1
theorem At.tlook0 (h : At w d R S) (hw : (Lit.int .i64 n).wf = true) (hT : S.task n = none) :
    (Instr.lookup 52 (.map R.t.m) (.int .i64 n) true).run Try.prog w = .ok (.tuple #[.pointer none, .bool false]) w := look_none Try.underlying52 (zero59 w) h.t.map hw (h.t.not hT)
theorem At.llook (h : At w d R S) (hw : (Lit.int .i64 n).wf = true) (hH : S.lock n = some H) :
    (Instr.lookup 53 (.map R.l.m) (.int .i64 n) false).run Try.prog w = .ok (.pointer (some ⟨(R.l.c n).1, 0, none⟩)) w ∧ (Instr.lookup 53 (.map R.l.m) (.int .i64 n) true).run Try.prog w = .ok (.tuple #[.pointer (some ⟨(R.l.c n).1, 0, none⟩), .bool true]) w := by
  obtain ⟨b, hb⟩ := h.l.mapSome hH
  have hm := h.l.map
  rw [hb] at hm ⊢
  exact look_some (b := b) Try.underlying53 (zero63 w) hm hw (h.l.get hH).1
theorem At.llook0 (h : At w d R S) (hw : (Lit.int .i64 n).wf = true) (hH : S.lock n = none) :
    (Instr.lookup 53 (.map R.l.m) (.int .i64 n) true).run Try.prog w = .ok (.tuple #[.pointer none, .bool false]) w := look_none Try.underlying53 (zero63 w) h.l.map hw (h.l.not hH)
end

/-! ### find -/
set_option maxHeartbeats 400000 in
theorem find_nil (n : Int) (w : World) : Calls Try.prog 37 #[.pointer none, .int .i64 n] w fun e w' => e = .returned (.tuple #[.pointer none, .int .i64 1]) ∧ w = w' := by
  go_enter Try.func37, Try.ntmps37
  go_wp2
  go_ret2
  exact ⟨rfl, rfl⟩
set_option maxHeartbeats 400000 in
theorem find_none (d : Nat) (R : Rp) (S : SS) (n : Int) (w : World) (h : At w d R S) (hw : (Lit.int .i64 n).wf = true) (hT : S.task n = none) :
    Calls Try.prog 37 #[.pointer (some ⟨d, 0, none⟩), .int .i64 n] w fun e w' => e = .returned (.tuple #[.pointer none, .int .i64 18]) ∧ w = w' := by
  have hr := h.tlook0 hw hT
  have c0 := h.c0
  clear h hT hw
  go_enter Try.func37, Try.ntmps37
  go_wp2
  go_ret2
  exact ⟨rfl, rfl⟩
set_option maxHeartbeats 400000 in
theorem find_some (d : Nat) (R : Rp) (S : SS) (n : Int) (T : TS) (w : World) (h : At w d R S) (hw : (Lit.int .i64 n).wf = true) (hT : S.task n = some T) :
    Calls Try.prog 37 #[.pointer (some ⟨d, 0, none⟩), .int .i64 n] w fun e w' => e = .returned (.tuple #[.pointer (some ⟨(R.t.c n).1, 0, none⟩), .int .i64 0]) ∧ w = w' := by
  have hr := (h.tlook hw hT).2
  have c0 := h.c0
  clear h hT hw
  go_enter Try.func37, Try.ntmps37
  go_wp2
  go_ret2
  exact ⟨rfl, rfl⟩

/-! ### ready, awake -/
set_option maxHeartbeats 400000 in
theorem ready_any (g : Nat) (T : TS) (w : World) (h : Blk w g 79 T.cells) :
    Calls Try.prog 36 #[.pointer (some ⟨g, 0, none⟩)] w fun e w' => e = .returned (.bool (T.kind == 0)) ∧ w = w' := by
  have c1 : w.cell? ⟨g, 1, none⟩ = some (.int .i64 T.kind) := h.cell 1
  clear h
  go_enter Try.func36, Try.ntmps36
  go_wp2
  go_ret
  exact ⟨rfl, rfl⟩

/-- The error of a call that a task can't make while it waits. -/
def SS.awk (S : SS) (n : Int) : Int :=
  match S.task n with
  | none => 18
  | some T => if T.kind = 0 then 0 else 51

set_option maxHeartbeats 400000 in
theorem awake_nil (n : Int) (w : World) : Calls Try.prog 40 #[.pointer none, .int .i64 n] w fun e w' => e = .returned (.tuple #[.pointer none, .int .i64 1]) ∧ w = w' := by
  go_enter Try.func40, Try.ntmps40
  go_wp2_with (go_at_call 37; refine (find_nil _ _).mono ?_; rintro e w' ⟨rfl, rfl⟩)
  go_ret2
  exact ⟨rfl, rfl⟩
set_option maxHeartbeats 400000 in
theorem awake_none (d : Nat) (R : Rp) (S : SS) (n : Int) (w : World) (h : At w d R S) (hw : (Lit.int .i64 n).wf = true) (hT : S.task n = none) :
    Calls Try.prog 40 #[.pointer (some ⟨d, 0, none⟩), .int .i64 n] w fun e w' => e = .returned (.tuple #[.pointer none, .int .i64 18]) ∧ w = w' := by
  have hf := find_none d R S n w h hw hT
  clear h hT hw
  go_enter Try.func40, Try.ntmps40
  go_wp2_with (go_at_call 37; refine hf.mono ?_; rintro e w' ⟨rfl, rfl⟩)
  go_ret2
  exact ⟨rfl, rfl⟩
set_option maxHeartbeats 400000 in
theorem awake_some (d : Nat) (R : Rp) (S : SS) (n : Int) (T : TS) (w : World) (h : At w d R S) (hw : (Lit.int .i64 n).wf = true) (hT : S.task n = some T) (hk : T.kind = 0) :
    Calls Try.prog 40 #[.pointer (some ⟨d, 0, none⟩), .int .i64 n] w fun e w' => e = .returned (.tuple #[.pointer (some ⟨(R.t.c n).1, 0, none⟩), .int .i64 0]) ∧ w = w' := by
  have hf := find_some d R S n T w h hw hT
  have hr := ready_any _ T w (h.tblk hT)
  rw [show (T.kind == 0) = true by simp [hk]] at hr
  clear h hT hw hk
  go_enter Try.func40, Try.ntmps40
  go_wp2_with (first | (go_at_call 37; refine hf.mono ?_; rintro e w' ⟨rfl, rfl⟩) | (go_at_call 36; refine hr.mono ?_; rintro e w' ⟨rfl, rfl⟩))
  go_ret2
  exact ⟨rfl, rfl⟩
set_option maxHeartbeats 400000 in
theorem awake_waits (d : Nat) (R : Rp) (S : SS) (n : Int) (T : TS) (w : World) (h : At w d R S) (hw : (Lit.int .i64 n).wf = true) (hT : S.task n = some T) (hk : T.kind ≠ 0) :
    Calls Try.prog 40 #[.pointer (some ⟨d, 0, none⟩), .int .i64 n] w fun e w' => e = .returned (.tuple #[.pointer none, .int .i64 51]) ∧ w = w' := by
  have hf := find_some d R S n T w h hw hT
  have hr := ready_any _ T w (h.tblk hT)
  rw [show (T.kind == 0) = false by simpa using hk] at hr
  clear h hT hw hk
  go_enter Try.func40, Try.ntmps40
  go_wp2_with (first | (go_at_call 37; refine hf.mono ?_; rintro e w' ⟨rfl, rfl⟩) | (go_at_call 36; refine hr.mono ?_; rintro e w' ⟨rfl, rfl⟩))
  go_ret2
  exact ⟨rfl, rfl⟩
theorem awake_err (d : Nat) (R : Rp) (S : SS) (n : Int) (w : World) (h : At w d R S) (hw : (Lit.int .i64 n).wf = true) (he : S.awk n ≠ 0) :
    Calls Try.prog 40 #[.pointer (some ⟨d, 0, none⟩), .int .i64 n] w fun e w' => e = .returned (.tuple #[.pointer none, .int .i64 (S.awk n)]) ∧ w = w' := by
  unfold SS.awk at he ⊢
  cases hT : S.task n with
  | none => exact awake_none d R S n w h hw hT
  | some T =>
    rw [hT] at he
    by_cases hk : T.kind = 0
    · simp [hk] at he
    · simp only [hk, if_false]
      exact awake_waits d R S n T w h hw hT hk
theorem awk_ok {S : SS} {n : Int} (h : S.awk n = 0) : ∃ T, S.task n = some T ∧ T.kind = 0 := by
  unfold SS.awk at h
  cases hT : S.task n with
  | none => rw [hT] at h; cases h
  | some T =>
    rw [hT] at h
    by_cases hk : T.kind = 0
    · exact ⟨T, rfl, hk⟩
    · simp [hk] at h

/-! ### Holder, Picks -/
def SS.holderC (S : SS) (n : Int) : Int :=
  match S.lock n with
  | none => 0
  | some H => H.holder
theorem holder_nil (n : Int) (w : World) : Calls Try.prog 16 #[.pointer none, .int .i64 n] w fun e w' => e = .returned (.int .i64 0) ∧ w = w' := by
  go_enter Try.func16, Try.ntmps16
  go_wp2
  go_ret
  exact ⟨rfl, rfl⟩
set_option maxHeartbeats 400000 in
theorem holder_any (d : Nat) (R : Rp) (S : SS) (n : Int) (w : World) (h : At w d R S) (hw : (Lit.int .i64 n).wf = true) :
    Calls Try.prog 16 #[.pointer (some ⟨d, 0, none⟩), .int .i64 n] w fun e w' => e = .returned (.int .i64 (S.holderC n)) ∧ w = w' := by
  have c2 := h.c2
  unfold SS.holderC
  cases hH : S.lock n with
  | none =>
    have hr := h.llook0 hw hH
    clear h hH hw
    go_enter Try.func16, Try.ntmps16
    go_wp2
    go_ret
    exact ⟨rfl, rfl⟩
  | some H =>
    have hr := (h.llook hw hH).2
    have ch : w.cell? ⟨(R.l.c n).1, 0, none⟩ = some (.int .i64 H.holder) := (h.lblk hH).1.cell 0
    clear h hH hw
    go_enter Try.func16, Try.ntmps16
    go_wp2
    go_ret
    exact ⟨rfl, rfl⟩

set_option maxHeartbeats 400000 in
theorem load_any (d i : Nat) (n : Int) (w : World) (hc : w.cell? ⟨d, i, none⟩ = some (.int .i64 n)) :
    Calls Try.prog 38 #[.pointer (some ⟨d, i, none⟩)] w fun e w' => e = .returned (.int .i64 n) ∧ w = w' := by
  have hl := run_call_load (P := Try.prog) Try.func49 (by kernel_rfl) (by kernel_rfl) (by kernel_rfl) .i64 (by kernel_rfl) (w := w) (a := ⟨d, i, none⟩) (x := n) hc
  go_enter Try.func38, Try.ntmps38
  go_wp2
  go_ret
  exact ⟨rfl, rfl⟩

set_option maxHeartbeats 400000 in
theorem add_any (d i : Nat) (n : Int) (w : World) (hc : w.cell? ⟨d, i, none⟩ = some (.int .i64 n)) (hf : w.frozen? ⟨d, i, none⟩ = false) (h0 : 0 ≤ n) (h1 : n ≤ 1000000000000) :
    Calls Try.prog 43 #[.pointer (some ⟨d, i, none⟩), .int .i64 1] w fun e w' => e = .returned (.int .i64 (n + 1)) ∧ w.setCell ⟨d, i, none⟩ (.int .i64 (n + 1)) = w' := by
  have hadd := run_call_add (P := Try.prog) Try.func50 (by kernel_rfl) (by kernel_rfl) (by kernel_rfl) .i64 (by kernel_rfl) (w := w) (a := ⟨d, i, none⟩) (x := n) (y := 1) (s := n + 1) hc hf (by simp [go_sem]; exact IntWalk.i64_in _ (by omega))
  clear h0 h1
  go_enter Try.func43, Try.ntmps43
  go_wp2
  go_ret
  exact ⟨rfl, rfl⟩

def SS.picksC (S : SS) (n : Int) : Int :=
  match S.task n with
  | none => 0
  | some T => T.picks
set_option maxHeartbeats 400000 in
theorem picks_nil (n : Int) (w : World) : Calls Try.prog 18 #[.pointer none, .int .i64 n] w fun e w' => e = .returned (.int .i64 0) ∧ w = w' := by
  go_enter Try.func18, Try.ntmps18
  go_wp2_with (go_at_call 37; refine (find_nil _ _).mono ?_; rintro e w' ⟨rfl, rfl⟩)
  go_ret
  exact ⟨rfl, rfl⟩
set_option maxHeartbeats 400000 in
theorem picks_any (d : Nat) (R : Rp) (S : SS) (n : Int) (w : World) (h : At w d R S) (hw : (Lit.int .i64 n).wf = true) :
    Calls Try.prog 18 #[.pointer (some ⟨d, 0, none⟩), .int .i64 n] w fun e w' => e = .returned (.int .i64 (S.picksC n)) ∧ w = w' := by
  unfold SS.picksC
  cases hT : S.task n with
  | none =>
    have hf := find_none d R S n w h hw hT
    clear h hT hw
    go_enter Try.func18, Try.ntmps18
    go_wp2_with (go_at_call 37; refine hf.mono ?_; rintro e w' ⟨rfl, rfl⟩)
    go_ret
    exact ⟨rfl, rfl⟩
  | some T =>
    have hf := find_some d R S n T w h hw hT
    have hl := load_any (R.t.c n).1 0 T.picks w ((h.tblk hT).cell 0)
    clear h hT hw
    go_enter Try.func18, Try.ntmps18
    go_wp2_with (first | (go_at_call 37; refine hf.mono ?_; rintro e w' ⟨rfl, rfl⟩) | (go_at_call 38; refine hl.mono ?_; rintro e w' ⟨rfl, rfl⟩))
    go_ret
    exact ⟨rfl, rfl⟩

end Go.Proofs.Ytnonidoeakhfdaa
