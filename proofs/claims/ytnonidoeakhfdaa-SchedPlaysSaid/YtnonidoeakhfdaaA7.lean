/- Which tasks are ready; is nobody? -/
import Derived.Test.YtnonidoeakhfdaaA6
import Derived.Laws.StructEq
namespace Go.Proofs.Ytnonidoeakhfdaa
open Go.RowKit Go.Maps Go.Sort
set_option linter.unusedVariables false

set_option maxHeartbeats 400000 in
theorem ready35 (g : Nat) (T : TS) (w : World) (h : Blk w g 79 T.cells) :
    Calls Try.prog 35 #[.pointer (some ⟨g, 0, none⟩)] w fun e w' => e = .returned (.bool (T.kind == 0)) ∧ ∃ m, w' = w.drewN m := by
  have hr := ready_any g T w h
  clear h
  go_enter Try.func35, Try.ntmps35
  go_wp2_with (go_at_call 36; refine hr.mono ?_; rintro e w' ⟨rfl, rfl⟩)
  go_ret
  exact ⟨rfl, 0, rfl⟩

theorem eq77 (a b c d : Int) (w : World) : (binOp .eql 77 (.agg #[.int .i64 a, .int .i64 b]) (.agg #[.int .i64 c, .int .i64 d])).run Try.prog w = .ok (.bool (a == c && b == d)) w := by
  have hS : Try.prog.underlying 77 = some (.struct (Try.prog.fieldsOf 77)) := by kernel_rfl
  have hp : Try.prog.stoodInHeld 77 = false := by kernel_rfl
  rw [run_eql_struct, show (10000 : Nat) = 9999 + 1 from rfl, run_equalIn_agg w 9999 77 _ _ hS hp]
  simp only [Program.fieldsOf, Try.underlying77]
  have h1 : (Op.equalIn 9999 3 (.int .i64 a) (.int .i64 c)).run Try.prog w = .ok (a == c) w := run_equalIn_int w 9998 3 .i64 .i64 a c Try.underlying3
  have h2 : (Op.equalIn 9999 3 (.int .i64 b) (.int .i64 d)).run Try.prog w = .ok (b == d) w := run_equalIn_int w 9998 3 .i64 .i64 b d Try.underlying3
  by_cases e1 : a = c <;> by_cases e2 : b = d <;> simp [Op.eqFields, go_sem, h1, h2, e1, e2]

set_option maxHeartbeats 400000 in
theorem latch45 (g lb : Nat) (latch : Int) (T : TS) (w : World) (h : Blk w g 79 T.cells) (hl : w.cell? ⟨lb, 0, none⟩ = some (.int .i64 latch)) :
    Calls Try.prog 45 #[.pointer (some ⟨g, 0, none⟩), .pointer (some ⟨lb, 0, none⟩)] w fun e w' => e = .returned (.bool (T.kind == 2 && T.num == latch)) ∧ ∃ m, w' = w.drewN m := by
  have c1 : w.cell? ⟨g, 1, none⟩ = some (.int .i64 T.kind) := h.cell 1
  have c2 : w.cell? ⟨g, 2, none⟩ = some (.int .i64 T.num) := h.cell 2
  have hq := fun (w : World) => eq77 T.kind T.num 2 latch w
  have hg : ∀ x y xs ys (w : World), (eqGuard .eql 77 x y (.agg xs) (.agg ys)).run Try.prog w = .ok () w := fun x y xs ys w => run_eqGuard_agg w .eql 77 x y xs ys (by kernel_rfl)
  clear h
  go_enter Try.func45, Try.ntmps45
  go_wp2
  go_quiet (fail)
  go_wp2
  go_ret
  exact ⟨rfl, _, rfl⟩

set_option maxHeartbeats 1000000 in
theorem those_empty35 (d : Nat) (R : Rp) (S : SS) (p : TS → Bool) (w : World) (h : At w d R S) (hb : R.t.m = none) :
    Calls Try.prog 34 #[.pointer (some ⟨d, 0, none⟩), .func (.func 35) #[] #[]] w (Told (S.those p) w) := by
  have hk : S.keys = [] := (tab_none h.t hb).2.1
  have ht : S.those p = [] := by unfold SS.those; rw [hk]; rfl
  have hdl := h.blk.lt
  have c0 := h.c0
  rw [hb] at c0
  rw [ht]
  have hrg := run_range_nilMap (P := Try.prog) (w.alloc (.cells #[] 3)) 52 3 59 Try.underlying52
  have hnx : ∀ ty, (Instr.next (.pointer (some ⟨(w.alloc (.cells #[] 3)).heap.size, 0, none⟩)) false ty).run Try.prog ((w.alloc (.cells #[] 3)).alloc (.mapIter none 0 #[] 0)) = _ := fun ty => run_next_nilMap _ ty 0 0 #[]
  have e1 : (w.alloc (.cells #[] 3)).heap.size = w.heap.size + 1 := by simp
  rw [e1] at hrg hnx
  have hs := sort_none (some ⟨w.heap.size, 0, none⟩) 0 ((w.alloc (.cells #[] 3)).alloc (.mapIter none 0 #[] 0))
  have ho : ((w.alloc (.cells #[] 3)).alloc (.mapIter none 0 #[] 0)).ownsRow w.heap.size 3 1 (.slice (some ⟨w.heap.size, 0, none⟩) 0 0) 0 [] :=
    World.ownsRow.alloc ⟨rfl, .inr ⟨w.heap.size, 0, #[], rfl, Nat.le_refl _, heap_alloc_new w _, Nat.le_refl _, Nat.zero_le _, rfl, rfl⟩⟩ _
  have hf : Fr No w ((w.alloc (.cells #[] 3)).alloc (.mapIter none 0 #[] 0)) := ((Fr.refl No w).alloc _).alloc _
  have HO := Lib.hid ho
  have HF := Lib.hid hf
  clear h hb hk ht ho hf e1
  go_enter Try.func34, Try.ntmps34
  go_wp2
  refine wp_loop_rounds 1 ?_
  rw [rounds_succ]
  go_wp2_with (go_at_call 48; refine hs.mono ?_; rintro e w' ⟨rfl, rfl⟩)
  go_ret
  exact ⟨w.heap.size, 0, rfl, HO.out, HF.out⟩

set_option maxHeartbeats 1000000 in
theorem those_empty45 (d lb : Nat) (R : Rp) (S : SS) (p : TS → Bool) (w : World) (h : At w d R S) (hb : R.t.m = none) :
    Calls Try.prog 34 #[.pointer (some ⟨d, 0, none⟩), .func (.func 45) #[] #[.pointer (some ⟨lb, 0, none⟩)]] w (Told (S.those p) w) := by
  have hk : S.keys = [] := (tab_none h.t hb).2.1
  have ht : S.those p = [] := by unfold SS.those; rw [hk]; rfl
  have hdl := h.blk.lt
  have c0 := h.c0
  rw [hb] at c0
  rw [ht]
  have hrg := run_range_nilMap (P := Try.prog) (w.alloc (.cells #[] 3)) 52 3 59 Try.underlying52
  have hnx : ∀ ty, (Instr.next (.pointer (some ⟨(w.alloc (.cells #[] 3)).heap.size, 0, none⟩)) false ty).run Try.prog ((w.alloc (.cells #[] 3)).alloc (.mapIter none 0 #[] 0)) = _ := fun ty => run_next_nilMap _ ty 0 0 #[]
  have e1 : (w.alloc (.cells #[] 3)).heap.size = w.heap.size + 1 := by simp
  rw [e1] at hrg hnx
  have hs := sort_none (some ⟨w.heap.size, 0, none⟩) 0 ((w.alloc (.cells #[] 3)).alloc (.mapIter none 0 #[] 0))
  have ho : ((w.alloc (.cells #[] 3)).alloc (.mapIter none 0 #[] 0)).ownsRow w.heap.size 3 1 (.slice (some ⟨w.heap.size, 0, none⟩) 0 0) 0 [] :=
    World.ownsRow.alloc ⟨rfl, .inr ⟨w.heap.size, 0, #[], rfl, Nat.le_refl _, heap_alloc_new w _, Nat.le_refl _, Nat.zero_le _, rfl, rfl⟩⟩ _
  have hf : Fr No w ((w.alloc (.cells #[] 3)).alloc (.mapIter none 0 #[] 0)) := ((Fr.refl No w).alloc _).alloc _
  have HO := Lib.hid ho
  have HF := Lib.hid hf
  clear h hb hk ht ho hf e1
  go_enter Try.func34, Try.ntmps34
  go_wp2
  refine wp_loop_rounds 1 ?_
  rw [rounds_succ]
  go_wp2_with (go_at_call 48; refine hs.mono ?_; rintro e w' ⟨rfl, rfl⟩)
  go_ret
  exact ⟨w.heap.size, 0, rfl, HO.out, HF.out⟩

set_option maxHeartbeats 400000 in
theorem those_nil (f : Value) (w : World) : Calls Try.prog 34 #[.pointer none, f] w fun e w' => e = .returned (.slice none 0 0) ∧ w = w' := by
  go_enter Try.func34, Try.ntmps34
  go_wp2
  go_ret
  exact ⟨rfl, rfl⟩

/-! ### what every scheduler keeps -/
structure WF (S : SS) : Prop where
  rt : Rt S.keys S.task
  sorted : S.keys.Pairwise (· < ·)
  rl : Rt S.locks S.lock
  n64 : S.keys.length ≤ 64
  keys : ∀ n ∈ S.keys, 1 ≤ n ∧ n ≤ S.last
  last : 0 ≤ S.last ∧ S.last ≤ S.used
  used : S.used ≤ 1000000
  lused : S.locks.length ≤ S.used
  picks : ∀ n T, S.task n = some T → 0 ≤ T.picks ∧ T.picks ≤ S.used
  q : ∀ n H, S.lock n = some H → H.queue.Nodup ∧ H.queue.length ≤ S.used ∧ ∀ x ∈ H.queue, ∃ T, S.task x = some T ∧ T.kind = 1 ∧ T.num = n
  lwf : ∀ n ∈ S.locks, 0 ≤ n ∧ n ≤ 9223372036854775807

section
variable {w : World} {d : Nat} {R : Rp} {S : SS}
theorem WF.key (h : WF S) {n : Int} {T : TS} (hT : S.task n = some T) : 1 ≤ n ∧ n ≤ 1000000 := by
  have h1 := h.keys n ((h.rt.2 n).2 (by rw [hT]; rfl))
  have h2 := h.last
  have h3 := h.used
  omega
theorem WF.keyWf (h : WF S) {n : Int} {T : TS} (hT : S.task n = some T) : (Lit.int .i64 n).wf = true := by
  have := h.key hT
  exact wf64 (by omega) (by omega)
theorem WF.lockWf (h : WF S) {n : Int} {H : HS} (hH : S.lock n = some H) : (Lit.int .i64 n).wf = true := by
  have := h.lwf n ((h.rl.2 n).2 (by rw [hH]; rfl))
  exact wf64 (by omega) (by omega)

def rdy (T : TS) : Bool := T.kind == 0
def SS.ready (S : SS) : List Int := S.those rdy
def onLatch (latch : Int) (T : TS) : Bool := T.kind == 2 && T.num == latch

theorem those35 (d : Nat) (R : Rp) (S : SS) (w : World) (h : At w d R S) (hW : WF S) :
    Calls Try.prog 34 #[.pointer (some ⟨d, 0, none⟩), .func (.func 35) #[] #[]] w (Told S.ready w) := by
  cases hb : R.t.m with
  | none => exact those_empty35 d R S rdy w h hb
  | some b => exact those_some35 d b R S rdy w h hb hW.n64 hW.rt hW.sorted fun wr g T _ hg => ready35 g T wr hg
theorem those45 (d lb : Nat) (R : Rp) (S : SS) (latch : Int) (w : World) (h : At w d R S) (hW : WF S) (hl : w.cell? ⟨lb, 0, none⟩ = some (.int .i64 latch)) :
    Calls Try.prog 34 #[.pointer (some ⟨d, 0, none⟩), .func (.func 45) #[] #[.pointer (some ⟨lb, 0, none⟩)]] w (Told (S.those (onLatch latch)) w) := by
  cases hb : R.t.m with
  | none => exact those_empty45 d lb R S (onLatch latch) w h hb
  | some b =>
    refine those_some45 d b R S (onLatch latch) lb w h hb hW.n64 hW.rt hW.sorted fun wr g T hf hg => latch45 g lb latch T wr hg ?_
    have hlt : lb < w.heap.size := by
      rcases Nat.lt_or_ge lb w.heap.size with hlt | hge
      · exact hlt
      · simp [World.cell?, Array.getElem?_eq_none hge] at hl
    rw [World.cell?_of_block (hf.block lb hlt id)]
    exact hl
end

theorem ready_nil (w : World) : Calls Try.prog 12 #[.pointer none] w fun e w' => e = .returned (.slice none 0 0) ∧ w = w' := by
  go_enter Try.func12, Try.ntmps12
  go_wp2_with (go_at_call 34; refine (those_nil _ _).mono ?_; rintro e w' ⟨rfl, rfl⟩)
  go_ret
  exact ⟨rfl, rfl⟩
theorem ready_call (d : Nat) (R : Rp) (S : SS) (w : World) (h : At w d R S) (hW : WF S) : Calls Try.prog 12 #[.pointer (some ⟨d, 0, none⟩)] w (Told S.ready w) := by
  have ht := those35 d R S w h hW
  clear h hW
  go_enter Try.func12, Try.ntmps12
  go_wp2_with (go_at_call 34; refine ht.mono ?_; rintro e w' ⟨g, cap, rfl, ho, hf⟩; have HO := Lib.hid ho; have HF := Lib.hid hf; clear ho hf)
  go_ret
  exact ⟨g, cap, rfl, HO.out, HF.out⟩

theorem lenMap {w : World} {d : Nat} {R : Rp} {S : SS} (h : At w d R S) (ty : TypeId) : (Builtin.len_ #[52] ty #[.map R.t.m]).run Try.prog w = .ok (.int .i64 S.keys.length) w := by
  have hm := h.t.map
  have hs := h.t.sz
  cases hb : R.t.m with
  | none =>
    rw [hb] at hm
    have hD : R.t.D = .map [] := hm
    rw [hD] at hs
    have e0 : S.keys.length = 0 := hs.symm
    rw [e0]
    exact Maps.len_nil (P := Try.prog) Try.underlying52 ty
  | some b =>
    rw [hb] at hm
    have hm' : w.ownsMap Try.prog 3 ptrElem b (Maps.size R.t.D) R.t.D := hm
    rw [hm'.len Try.underlying52 ty, hs]

def SS.stuck (S : SS) : Bool := !S.keys.isEmpty && S.ready.isEmpty
theorem stuck_nil (w : World) : Calls Try.prog 14 #[.pointer none] w fun e w' => e = .returned (.bool false) ∧ w = w' := by
  go_enter Try.func14, Try.ntmps14
  go_wp2
  go_ret
  exact ⟨rfl, rfl⟩
set_option maxHeartbeats 400000 in
theorem stuck_call (d : Nat) (R : Rp) (S : SS) (w : World) (h : At w d R S) (hW : WF S) : Calls Try.prog 14 #[.pointer (some ⟨d, 0, none⟩)] w fun e w' => e = .returned (.bool S.stuck) ∧ Fr No w w' := by
  have c0 := h.c0
  have hl := lenMap h
  have hr := ready_call d R S w h hW
  by_cases hk : 0 < S.keys.length
  · have hk' : (0 : Int) < (S.keys.length : Int) := by omega
    have hk2 : S.keys.isEmpty = false := by cases hq : S.keys with
      | nil => rw [hq] at hk; simp at hk
      | cons => rfl
    have hs : S.stuck = S.ready.isEmpty := by unfold SS.stuck; rw [hk2]; simp
    rw [hs]
    clear h hW hk hk2 hs
    go_enter Try.func14, Try.ntmps14
    go_wp2_with (go_at_call 12; refine hr.mono ?_; rintro e w' ⟨g, cap, rfl, ho, hf⟩; have HF := Lib.hid hf; clear ho hf)
    go_ret
    refine ⟨ret_bool ?_, HF.out⟩
    cases S.ready <;> simp <;> omega
  · have hk' : ¬ (0 : Int) < (S.keys.length : Int) := by omega
    have hk2 : S.keys = [] := List.eq_nil_of_length_eq_zero (by omega)
    have hs : S.stuck = false := by unfold SS.stuck; rw [hk2]; rfl
    rw [hs]
    clear h hW hk hk2 hs hr
    go_enter Try.func14, Try.ntmps14
    go_wp2
    go_ret
    exact ⟨rfl, Fr.refl _ _⟩

end Go.Proofs.Ytnonidoeakhfdaa
