/- Start, Pick. -/
import Derived.Test.YtnonidoeakhfdaaA7
import Derived.Deep.RegionLaw
namespace Go.Proofs.Ytnonidoeakhfdaa
open Go.RowKit Go.Maps Go.Sort
set_option linter.unusedVariables false

theorem start_nil (w : World) : Calls Try.prog 20 #[.pointer none] w fun e w' => e = .returned (.tuple #[.int .i64 0, .int .i64 1]) ∧ w = w' := by
  go_enter Try.func20, Try.ntmps20
  go_wp2
  go_ret2
  exact ⟨rfl, rfl⟩

set_option maxHeartbeats 400000 in
theorem start_full (d : Nat) (R : Rp) (S : SS) (w : World) (h : At w d R S) (h8 : 64 ≤ S.keys.length) :
    Calls Try.prog 20 #[.pointer (some ⟨d, 0, none⟩)] w fun e w' => e = .returned (.tuple #[.int .i64 0, .int .i64 12]) ∧ w = w' := by
  have c0 := h.c0
  have hl := lenMap h
  have h8' : (64 : Int) ≤ (S.keys.length : Int) := by omega
  clear h h8
  go_enter Try.func20, Try.ntmps20
  go_wp2
  go_ret2
  exact ⟨rfl, rfl⟩

def SS.made (S : SS) : SS := { S with last := S.last + 1, keys := S.keys ++ [S.last + 1], task := upd S.task (S.last + 1) (some ⟨0, 0, 0⟩), used := S.used + 1 }
def SS.started (S : SS) : (Int × Int) × SS := if 64 ≤ S.keys.length then ((0, 12), S) else ((S.last + 1, 0), S.made)

/-- A task is laid into the table. -/
theorem made_turn {w : World} {d b : Nat} {R : Rp} {S : SS} (h : At w d R S) (hb : R.t.m = some b) {n : Int} (hn : S.task n = none) {w4 : World} {j : Nat} {cs : Array Value} (hcs : cs = TS.cells ⟨0, 0, 0⟩)
    (ho : w4.ownsMap Try.prog 3 ptrElem b j (R.t.D.put (.int .i64 n) (.lit (.int .i64 (w.heap.size : Nat))))) (ht : ((w.alloc (.cells cs 79)).drew).mapTurned w4 b) :
    PR d R S w { R with t := { R.t with D := R.t.D.put (.int .i64 n) (.lit (.int .i64 (w.heap.size : Nat))), c := upd R.t.c n (w.heap.size, .slice none 0 0) } } { S with keys := S.keys ++ [n], task := upd S.task n (some ⟨0, 0, 0⟩) } w4 := by
  subst hcs
  have hbl : b < w.heap.size := h.t.map.lt b hb
  have hft := mapTurned_one ht
  have hf : Fr (One b) w w4 := (((Fr.refl (One b) w).alloc _).drew).trans hft fun _ _ hj => hj
  have hnew : Blk w4 w.heap.size 79 (TS.cells ⟨0, 0, 0⟩) := (Blk.new w 79 _).of (hft.block w.heap.size (by show w.heap.size < ((w.alloc (.cells _ 79)).drew).heap.size; simp) (by unfold One; omega))
  exact h.turnT (PTadd (p := (w.heap.size, .slice none 0 0)) h.t hn hb hf (fun k hk => by
    rcases hk with hk | hk
    · exact Nat.le_of_eq hk.symm
    · cases hk) ⟨hnew, rfl⟩ ho) rfl

set_option maxRecDepth 100000 in
set_option maxHeartbeats 2000000 in
theorem start_some (d b : Nat) (R : Rp) (S : SS) (w : World) (h : At w d R S) (h8 : S.keys.length < 64) (hb : R.t.m = some b) (hl0 : 0 ≤ S.last) (hl1 : S.last ≤ 1000000) (hn : S.task (S.last + 1) = none) :
    Calls Try.prog 20 #[.pointer (some ⟨d, 0, none⟩)] w fun e w' => e = .returned (.tuple #[.int .i64 (S.last + 1), .int .i64 0]) ∧ Post d R S w S.made w' := by
  have c0 : w.cell? ⟨d, 0, none⟩ = some (.map (some b)) := by rw [h.c0, ← hb]
  have c1 := h.c1
  have f1 := h.blk.frozen 1
  have hl := lenMap h
  rw [hb] at hl
  have h8' : (S.keys.length : Int) < 64 := by omega
  have hP := h.turnLast (S.last + 1)
  obtain ⟨w2, hw2⟩ : ∃ w2, w.setCell ⟨d, 1, none⟩ (.int .i64 (S.last + 1)) = w2 := ⟨_, rfl⟩
  rw [hw2] at hP
  have d0 : w2.cell? ⟨d, 0, none⟩ = some (.map (some b)) := by rw [hP.at_.c0, ← hb]
  have d1 : w2.cell? ⟨d, 1, none⟩ = some (.int .i64 (S.last + 1)) := hP.at_.c1
  have hm2 := hP.at_.t.map
  rw [hb] at hm2
  have hm3 : ((w2.alloc (.cells #[.int .i64 0, .int .i64 0, .int .i64 0] 79)).drew).ownsMap Try.prog 3 ptrElem b (Maps.size R.t.D) R.t.D := World.ownsMap.drew (World.ownsMap.alloc (b := b) hm2 _)
  have hsz : Maps.size R.t.D < maxLen := by rw [h.t.sz]; unfold maxLen; omega
  obtain ⟨w4, hr, ho, ht⟩ := hm3.store law3 Try.underlying52 hsz (key := .int .i64 (S.last + 1)) (key3 _ (wf64 (by omega) (by omega))) (ptrElem_mk w2.heap.size)
  have hP2 := made_turn hP.at_ hb (n := S.last + 1) hn rfl ho ht
  have HP : Hid (Post d R S w S.made w4) := Lib.hid (((hP.trans hP2).more (u' := S.used + 1) (Nat.le_succ _)).post)
  have e1 : w4.cell? ⟨d, 1, none⟩ = some (.int .i64 (S.last + 1)) := hP2.at_.c1
  have b0 : d < w2.heap.size := hP.at_.blk.lt
  have q52 : ∀ (w : World) (r : Option Nat), (binOp .eql 52 (.map r) (.map none)).run Try.prog w = .ok (.bool r.isNone) w := fun w r => run_eql_map_nil w _ _ _ r Try.underlying52
  have HR := Lib.hid hr
  clear h h8 hb hn hP hm2 hm3 hsz hr ho ht hP2
  go_enter Try.func20, Try.ntmps20
  go_wp2
  clear hw2 c0 c1 f1 hl
  have hr : (Instr.mapUpdate 52 (.map (some b)) (.int .i64 (S.last + 1)) (.pointer (some ⟨w2.heap.size, 0, none⟩))).run Try.prog (w2.alloc (.cells #[.int .i64 0, .int .i64 0, .int .i64 0] 79)).drew = .ok () w4 := HR.out
  go_region
  all_goals (go_wp2; go_ret2)
  all_goals exact ⟨rfl, HP.out⟩

set_option maxRecDepth 100000 in
set_option maxHeartbeats 2000000 in
theorem start_first (d : Nat) (R : Rp) (S : SS) (w : World) (h : At w d R S) (h8 : S.keys.length < 64) (hb : R.t.m = none) (hl0 : 0 ≤ S.last) (hl1 : S.last ≤ 1000000) (hn : S.task (S.last + 1) = none) :
    Calls Try.prog 20 #[.pointer (some ⟨d, 0, none⟩)] w fun e w' => e = .returned (.tuple #[.int .i64 (S.last + 1), .int .i64 0]) ∧ Post d R S w S.made w' := by
  have c0 : w.cell? ⟨d, 0, none⟩ = some (.map none) := by rw [h.c0, ← hb]
  have c1 := h.c1
  have f0 := h.blk.frozen 0
  have hdl := h.blk.lt
  have hl := lenMap h
  rw [hb] at hl
  have h8' : (S.keys.length : Int) < 64 := by omega
  have hQ := h.madeT hb
  obtain ⟨w1, hw1⟩ : ∃ w1, (w.alloc (.map #[] 0)).setCell ⟨d, 0, none⟩ (.map (some w.heap.size)) = w1 := ⟨_, rfl⟩
  have hw1' : mkMap w d 0 = w1 := hw1
  rw [hw1'] at hQ
  have g1 : w1.cell? ⟨d, 1, none⟩ = some (.int .i64 S.last) := hQ.at_.c1
  have f1 := hQ.at_.blk.frozen 1
  have hP := hQ.at_.turnLast (S.last + 1)
  obtain ⟨w2, hw2⟩ : ∃ w2, w1.setCell ⟨d, 1, none⟩ (.int .i64 (S.last + 1)) = w2 := ⟨_, rfl⟩
  rw [hw2] at hP
  have d0 : w2.cell? ⟨d, 0, none⟩ = some (.map (some w.heap.size)) := hP.at_.c0
  have d1 : w2.cell? ⟨d, 1, none⟩ = some (.int .i64 (S.last + 1)) := hP.at_.c1
  have hm2 : w2.ownsMap Try.prog 3 ptrElem w.heap.size (Maps.size R.t.D) R.t.D := hP.at_.t.map
  have hm3 : ((w2.alloc (.cells #[.int .i64 0, .int .i64 0, .int .i64 0] 79)).drew).ownsMap Try.prog 3 ptrElem w.heap.size (Maps.size R.t.D) R.t.D := World.ownsMap.drew (World.ownsMap.alloc hm2 _)
  have hsz : Maps.size R.t.D < maxLen := by rw [h.t.sz]; unfold maxLen; omega
  obtain ⟨w4, hr, ho, ht⟩ := hm3.store law3 Try.underlying52 hsz (key := .int .i64 (S.last + 1)) (key3 _ (wf64 (by omega) (by omega))) (ptrElem_mk w2.heap.size)
  have hP2 := made_turn hP.at_ (b := w.heap.size) rfl (n := S.last + 1) hn rfl ho ht
  have HP : Hid (Post d R S w S.made w4) := Lib.hid ((((hQ.trans hP).trans hP2).more (u' := S.used + 1) (Nat.le_succ _)).post)
  have e1 : w4.cell? ⟨d, 1, none⟩ = some (.int .i64 (S.last + 1)) := hP2.at_.c1
  have b0 : d < w2.heap.size := hP.at_.blk.lt
  have q52 : ∀ (w : World) (r : Option Nat), (binOp .eql 52 (.map r) (.map none)).run Try.prog w = .ok (.bool r.isNone) w := fun w r => run_eql_map_nil w _ _ _ r Try.underlying52
  have hmk := @run_makeMap Try.prog
  have HR := Lib.hid hr
  clear h h8 hb hn hP hm2 hm3 hsz hr ho ht hP2 hQ hw1'
  go_enter Try.func20, Try.ntmps20
  go_wp2
  clear hw2 hw1 c0 c1 f1 hl
  have hr : (Instr.mapUpdate 52 (.map (some w.heap.size)) (.int .i64 (S.last + 1)) (.pointer (some ⟨w2.heap.size, 0, none⟩))).run Try.prog (w2.alloc (.cells #[.int .i64 0, .int .i64 0, .int .i64 0] 79)).drew = .ok () w4 := HR.out
  go_region
  all_goals (go_wp2; go_ret2)
  all_goals exact ⟨rfl, HP.out⟩

theorem WF.fresh {S : SS} (hW : WF S) : S.task (S.last + 1) = none := by
  cases hK : S.task (S.last + 1) with
  | none => rfl
  | some K =>
    have := hW.keys _ ((hW.rt.2 (S.last + 1)).2 (by rw [hK]; rfl))
    omega
theorem start_call (d : Nat) (R : Rp) (S : SS) (w : World) (h : At w d R S) (hW : WF S) :
    Calls Try.prog 20 #[.pointer (some ⟨d, 0, none⟩)] w fun e w' => e = .returned (.tuple #[.int .i64 S.started.1.1, .int .i64 S.started.1.2]) ∧ Post d R S w S.started.2 w' := by
  by_cases h8 : 64 ≤ S.keys.length
  · have e : S.started = ((0, 12), S) := by unfold SS.started; rw [if_pos h8]
    rw [e]
    exact (start_full d R S w h h8).mono fun e w' ⟨h1, h2⟩ => ⟨h1, h2 ▸ Post.refl h⟩
  · have e : S.started = ((S.last + 1, 0), S.made) := by unfold SS.started; rw [if_neg h8]
    rw [e]
    have hl : S.last ≤ 1000000 := by have := hW.last; have := hW.used; omega
    cases hb : R.t.m with
    | none => exact start_first d R S w h (by omega) hb hW.last.1 hl hW.fresh
    | some b => exact start_some d b R S w h (by omega) hb hW.last.1 hl hW.fresh
end Go.Proofs.Ytnonidoeakhfdaa
