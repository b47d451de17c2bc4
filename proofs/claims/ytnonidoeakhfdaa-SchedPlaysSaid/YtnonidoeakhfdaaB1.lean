/- A lock is taken; a lock is passed on. -/
import Derived.Test.YtnonidoeakhfdaaA9
namespace Go.Proofs.Ytnonidoeakhfdaa
open Go.RowKit Go.Maps Go.Sort
set_option linter.unusedVariables false

/-! ### take -/
def SS.taken (S : SS) (task lock : Int) : SS := { S with locks := S.locks ++ [lock], lock := upd S.lock lock (some ⟨task, []⟩), used := S.used + 1 }

theorem taken_turn {w : World} {d b : Nat} {R : Rp} {S : SS} (h : At w d R S) (hb : R.l.m = some b) {n t : Int} (hn : S.lock n = none) {w4 : World} {j : Nat} {cs : Array Value} (hcs : cs = #[.int .i64 t, .slice none 0 0])
    (ho : w4.ownsMap Try.prog 3 ptrElem b j (R.l.D.put (.int .i64 n) (.lit (.int .i64 (w.heap.size : Nat))))) (ht : (w.alloc (.cells cs 66)).mapTurned w4 b) :
    PR d R S w { R with l := { R.l with D := R.l.D.put (.int .i64 n) (.lit (.int .i64 (w.heap.size : Nat))), c := upd R.l.c n (w.heap.size, .slice none 0 0) } } { S with locks := S.locks ++ [n], lock := upd S.lock n (some ⟨t, []⟩) } w4 := by
  subst hcs
  have hbl : b < w.heap.size := h.l.map.lt b hb
  have hft := mapTurned_one ht
  have hf : Fr (One b) w w4 := ((Fr.refl (One b) w).alloc _).trans hft fun _ _ hj => hj
  have hnew : Blk w4 w.heap.size 66 #[.int .i64 t, .slice none 0 0] := (Blk.new w 66 _).of (hft.block w.heap.size (by simp) (by unfold One; omega))
  exact h.turnL (PTadd (p := (w.heap.size, .slice none 0 0)) h.l hn hb hf (fun k hk => by
    rcases hk with hk | hk
    · exact Nat.le_of_eq hk.symm
    · cases hk) ⟨hnew, RowZ.nil _⟩ ho) rfl

set_option maxRecDepth 100000 in
set_option maxHeartbeats 2000000 in
theorem take_some (d b : Nat) (R : Rp) (S : SS) (t n : Int) (w : World) (h : At w d R S) (hw : (Lit.int .i64 n).wf = true) (hu : S.locks.length ≤ 1000000) (hb : R.l.m = some b) (hn : S.lock n = none) :
    Calls Try.prog 41 #[.pointer (some ⟨d, 0, none⟩), .int .i64 t, .int .i64 n] w fun e w' => e = .returned (.tuple #[]) ∧ Post d R S w (S.taken t n) w' := by
  have c2 : w.cell? ⟨d, 2, none⟩ = some (.map (some b)) := by rw [h.c2, ← hb]
  have hm2 := h.l.map
  rw [hb] at hm2
  have hm3 : (w.alloc (.cells #[.int .i64 t, .slice none 0 0] 66)).ownsMap Try.prog 3 ptrElem b (Maps.size R.l.D) R.l.D := World.ownsMap.alloc (b := b) hm2 _
  have hsz : Maps.size R.l.D < maxLen := by rw [h.l.sz]; unfold maxLen; omega
  obtain ⟨w4, hr, ho, ht⟩ := hm3.store law3 Try.underlying53 hsz (key := .int .i64 n) (key3 _ hw) (ptrElem_mk w.heap.size)
  have hP2 := taken_turn h hb (n := n) (t := t) hn rfl ho ht
  have HP : Hid (Post d R S w (S.taken t n) w4) := Lib.hid ((hP2.more (u' := S.used + 1) (Nat.le_succ _)).post)
  have q53 : ∀ (w : World) (r : Option Nat), (binOp .eql 53 (.map r) (.map none)).run Try.prog w = .ok (.bool r.isNone) w := fun w r => run_eql_map_nil w _ _ _ r Try.underlying53
  clear h hb hn hm2 hm3 hsz ho ht hP2 hw hu
  go_enter Try.func41, Try.ntmps41
  go_wp2
  go_end0
  exact ⟨rfl, HP.out⟩

set_option maxRecDepth 100000 in
set_option maxHeartbeats 2000000 in
theorem take_first (d : Nat) (R : Rp) (S : SS) (t n : Int) (w : World) (h : At w d R S) (hw : (Lit.int .i64 n).wf = true) (hu : S.locks.length ≤ 1000000) (hb : R.l.m = none) (hn : S.lock n = none) :
    Calls Try.prog 41 #[.pointer (some ⟨d, 0, none⟩), .int .i64 t, .int .i64 n] w fun e w' => e = .returned (.tuple #[]) ∧ Post d R S w (S.taken t n) w' := by
  have c2 : w.cell? ⟨d, 2, none⟩ = some (.map none) := by rw [h.c2, ← hb]
  have f2 := h.blk.frozen 2
  have hdl := h.blk.lt
  have hQ := h.madeL hb
  obtain ⟨w1, hw1⟩ : ∃ w1, (w.alloc (.map #[] 0)).setCell ⟨d, 2, none⟩ (.map (some w.heap.size)) = w1 := ⟨_, rfl⟩
  have hw1' : mkMap w d 2 = w1 := hw1
  rw [hw1'] at hQ
  have d2 : w1.cell? ⟨d, 2, none⟩ = some (.map (some w.heap.size)) := hQ.at_.c2
  have hm2 : w1.ownsMap Try.prog 3 ptrElem w.heap.size (Maps.size R.l.D) R.l.D := hQ.at_.l.map
  have hm3 : (w1.alloc (.cells #[.int .i64 t, .slice none 0 0] 66)).ownsMap Try.prog 3 ptrElem w.heap.size (Maps.size R.l.D) R.l.D := World.ownsMap.alloc hm2 _
  have hsz : Maps.size R.l.D < maxLen := by rw [h.l.sz]; unfold maxLen; omega
  obtain ⟨w4, hr, ho, ht⟩ := hm3.store law3 Try.underlying53 hsz (key := .int .i64 n) (key3 _ hw) (ptrElem_mk w1.heap.size)
  have hP2 := taken_turn hQ.at_ (b := w.heap.size) rfl (n := n) (t := t) hn rfl ho ht
  have HP : Hid (Post d R S w (S.taken t n) w4) := Lib.hid (((hQ.trans hP2).more (u' := S.used + 1) (Nat.le_succ _)).post)
  have q53 : ∀ (w : World) (r : Option Nat), (binOp .eql 53 (.map r) (.map none)).run Try.prog w = .ok (.bool r.isNone) w := fun w r => run_eql_map_nil w _ _ _ r Try.underlying53
  have hmk := @run_makeMap Try.prog
  clear h hb hn hm2 hm3 hsz ho ht hP2 hQ hw1' hw hu
  go_enter Try.func41, Try.ntmps41
  go_wp2
  go_end0
  exact ⟨rfl, HP.out⟩

theorem take_any (d : Nat) (R : Rp) (S : SS) (t n : Int) (w : World) (h : At w d R S) (hw : (Lit.int .i64 n).wf = true) (hu : S.locks.length ≤ 1000000) (hn : S.lock n = none) :
    Calls Try.prog 41 #[.pointer (some ⟨d, 0, none⟩), .int .i64 t, .int .i64 n] w fun e w' => e = .returned (.tuple #[]) ∧ Post d R S w (S.taken t n) w' := by
  cases hb : R.l.m with
  | none => exact take_first d R S t n w h hw hu hb hn
  | some b => exact take_some d b R S t n w h hw hu hb hn

/-! ### pass -/
def SS.freed (S : SS) (n : Int) : SS := { S with locks := S.locks.filter (fun k => decide (k ≠ n)), lock := upd S.lock n none }
def SS.given (S : SS) (n x : Int) (q : List Int) (T : TS) : SS := { S with lock := upd S.lock n (some ⟨x, q⟩), task := upd S.task x (some { T with kind := 0, num := 0 }) }

set_option maxRecDepth 100000 in
set_option maxHeartbeats 1000000 in
theorem pass_free (d : Nat) (R : Rp) (S : SS) (n h0 : Int) (w : World) (h : At w d R S) (hr : Rt S.locks S.lock) (hw : (Lit.int .i64 n).wf = true) (hH : S.lock n = some ⟨h0, []⟩) :
    Calls Try.prog 42 #[.pointer (some ⟨d, 0, none⟩), .int .i64 n] w fun e w' => e = .returned (.tuple #[]) ∧ Post d R S w (S.freed n) w' := by
  obtain ⟨b, hb⟩ := h.l.mapSome hH
  have c2 : w.cell? ⟨d, 2, none⟩ = some (.map (some b)) := by rw [h.c2, ← hb]
  have hl := (h.llook hw hH).1
  rw [hb] at hl
  obtain ⟨hbk, hrow⟩ := h.lblk hH
  have e1 : w.cell? ⟨(R.l.c n).1, 1, none⟩ = some (R.l.c n).2 := hbk.cell 1
  obtain ⟨A, c, hv⟩ := hrow.len
  rw [hv] at e1
  have hm := h.l.map
  rw [hb] at hm
  have hm1 : w.ownsMap Try.prog 3 ptrElem b (Maps.size R.l.D) R.l.D := hm
  have hkey := key3 n hw
  have HD := Lib.hid (fun w1 j (ho : w1.ownsMap Try.prog 3 ptrElem b j (R.l.D.del (.int .i64 n))) (ht : w.mapTurned w1 b) => (h.turnL (PTdel h.l hr hH hb (mapTurned_one ht) ho) rfl).post)
  clear h hr hw hH hm hb hbk hrow hv
  go_enter Try.func42, Try.ntmps42
  go_wp2_with (first
    | (at_delete; refine wpList_delete_own _ rfl _ _ 53 3 rfl 63 law3 Try.underlying53 _ b _ R.l.D rfl hm1 _ _ rfl hkey ?_; intro w1 hown1 hturn1; have HO := Lib.hid (HD.out _ _ hown1 hturn1); clear hturn1 hown1 hm1 hkey))
  exact bodyPost_ret (results_none rfl _ _ _) rfl ⟨rfl, HO.out⟩

/-- A row's first, and what is left. -/
def tailV (g off cap n : Nat) : Value := .slice (if cap = 1 then some ⟨g, off, none⟩ else some ⟨g, off + 1, none⟩) n (cap - 1)
theorem tailV_own (g off cap n : Nat) : (tailV g off cap n).ownBlock = some g := by unfold tailV; split <;> rfl
theorem RowZ.parts {w : World} {v : Value} {x : Int} {l : List Int} (h : RowZ w v (x :: l)) :
    ∃ g off cap, v = .slice (some ⟨g, off, none⟩) (l.length + 1) cap ∧ w.cell? ⟨g, off, none⟩ = some (.int .i64 x) ∧ 0 < cap ∧ RowZ w (tailV g off cap l.length) l := by
  obtain ⟨g, off, cap, hv, hx, hc⟩ := h.head
  refine ⟨g, off, cap, hv, hx, hc, ?_⟩
  rcases h with ⟨_, h⟩ | ⟨g', off', cap', cur, e, hg, hnc, hcm, hcs, htk⟩
  · cases h
  · rw [hv] at e
    injection e with e1 e2 e3
    injection e1 with e1
    injection e1 with e1 e4
    subst e1; subst e4; subst e3
    have htk' : (cur.toList.drop (off + 1)).take l.length = l.map encZ := by
      have : ((cur.toList.drop off).take (x :: l).length).drop 1 = ((x :: l).map encZ).drop 1 := by rw [htk]
      rw [List.drop_take, List.drop_drop] at this
      simpa using this
    have hl1 : (x :: l).length = l.length + 1 := rfl
    unfold tailV
    by_cases e : cap = 1
    · subst e
      have : l = [] := List.eq_nil_of_length_eq_zero (by omega)
      subst this
      exact .inr ⟨g, off, 0, cur, by simp, hg, by simp, by omega, by omega, by simp⟩
    · rw [if_neg e]
      exact .inr ⟨g, off + 1, cap - 1, cur, rfl, hg, by omega, by omega, by omega, htk'⟩

/-- A lock has another holder, and fewer that wait. -/
theorem held_turn {w : World} {d : Nat} {R : Rp} {S : SS} (h : At w d R S) {n h0 x : Int} {q : List Int} (hH : S.lock n = some ⟨h0, x :: q⟩) {g off cap : Nat} (hv : (R.l.c n).2 = .slice (some ⟨g, off, none⟩) (q.length + 1) cap)
    (hr : RowZ w (tailV g off cap q.length) q) :
    ∃ R1, R1.t = R.t ∧ R1.l.m = R.l.m ∧ (∀ k, (R1.l.c k).1 = (R.l.c k).1) ∧ PR d R S w R1 { S with lock := upd S.lock n (some ⟨x, q⟩) } ((w.setCell ⟨(R.l.c n).1, 0, none⟩ (.int .i64 x)).setCell ⟨(R.l.c n).1, 1, none⟩ (tailV g off cap q.length)) := by
  obtain ⟨hbk, hrow⟩ := h.lblk hH
  have hf : Fr (One (R.l.c n).1) w ((w.setCell ⟨(R.l.c n).1, 0, none⟩ (.int .i64 x)).setCell ⟨(R.l.c n).1, 1, none⟩ (tailV g off cap q.length)) :=
    ((Fr.refl (One (R.l.c n).1) w).setCell (p := ⟨(R.l.c n).1, 0, none⟩) (fun _ => rfl) _).setCell (p := ⟨(R.l.c n).1, 1, none⟩) (fun _ => rfl) _
  have hb2 := (hbk.set_ 0 (.int .i64 x)).set_ 1 (tailV g off cap q.length)
  have hgne : g ≠ (R.l.c n).1 := by
    obtain ⟨cur, hc⟩ := hr.block (tailV_own g off cap q.length)
    exact Blk.ne_ (w := w) (t := 3) hc hbk (by decide)
  refine ⟨{ R with l := { R.l with c := upd R.l.c n ((R.l.c n).1, tailV g off cap q.length) } }, rfl, rfl, fun k => ?_, h.turnL (PTset (x' := ⟨x, q⟩) (v' := tailV g off cap q.length) h.l hH (hf.mono fun k _ hk => .inl hk) ⟨hb2, ?_⟩ fun k hk => .inl (.inr ?_)) rfl⟩
  · show (upd R.l.c n _ k).1 = _
    unfold upd
    split
    · rename_i e; subst e; rfl
    · rfl
  · exact hr.of fun k hk => hf.block k (hr.lt hk) fun e => hgne (by rw [tailV_own] at hk; have e' : k = (R.l.c n).1 := e; injection hk with hk; rw [hk]; exact e')
  · rw [tailV_own] at hk
    rw [hv]; exact hk

structure PassAt (d : Nat) (tm : Option Nat) (gl tb : Nat) (x : Int) (T : TS) (P : World → Prop) (w1 : World) : Prop where
  c0 : w1.cell? ⟨d, 0, none⟩ = some (.map tm)
  g0 : w1.cell? ⟨gl, 0, none⟩ = some (.int .i64 x)
  look : (Instr.lookup 52 (.map tm) (.int .i64 x) false).run Try.prog w1.drew = .ok (.pointer (some ⟨tb, 0, none⟩)) w1.drew
  t1 : w1.cell? ⟨tb, 1, none⟩ = some (.int .i64 T.kind)
  t2 : w1.cell? ⟨tb, 2, none⟩ = some (.int .i64 T.num)
  f1 : w1.frozen? ⟨tb, 1, none⟩ = false
  f2 : w1.frozen? ⟨tb, 2, none⟩ = false
  fin : P (((w1.setCell ⟨tb, 1, none⟩ (.int .i64 0)).setCell ⟨tb, 2, none⟩ (.int .i64 0)).drew)

set_option maxRecDepth 100000 in
set_option maxHeartbeats 2000000 in
theorem pass_run (d gl tb g off cap m : Nat) (tm lm : Option Nat) (n h0 x : Int) (T : TS) (P : World → Prop) (w : World) (c0 : w.cell? ⟨d, 0, none⟩ = some (.map tm)) (c2 : w.cell? ⟨d, 2, none⟩ = some (.map lm))
    (hl : (Instr.lookup 53 (.map lm) (.int .i64 n) false).run Try.prog w = .ok (.pointer (some ⟨gl, 0, none⟩)) w) (e0 : w.cell? ⟨gl, 0, none⟩ = some (.int .i64 h0)) (e1 : w.cell? ⟨gl, 1, none⟩ = some (.slice (some ⟨g, off, none⟩) (m + 1) cap))
    (f0 : w.frozen? ⟨gl, 0, none⟩ = false) (f1 : w.frozen? ⟨gl, 1, none⟩ = false) (hx : w.cell? ⟨g, off, none⟩ = some (.int .i64 x)) (hcap : 0 < cap) (hne : gl ≠ d)
    (hE : ∀ w1, w1 = ((w.setCell ⟨gl, 0, none⟩ (.int .i64 x)).setCell ⟨gl, 1, none⟩ (tailV g off cap m)).drew → PassAt d tm gl tb x T P w1) :
    Calls Try.prog 42 #[.pointer (some ⟨d, 0, none⟩), .int .i64 n] w fun e w' => e = .returned (.tuple #[]) ∧ P w' := by
  have hq0 : (1 : Int) ≤ (m : Int) + 1 := by omega
  by_cases hc : cap = 1
  · subst hc
    have hv : tailV g off 1 m = .slice (some ⟨g, off, none⟩) m 0 := rfl
    obtain ⟨w1, hw1⟩ : ∃ w1, ((w.setCell ⟨gl, 0, none⟩ (.int .i64 x)).setCell ⟨gl, 1, none⟩ (.slice (some ⟨g, off, none⟩) m 0)).drew = w1 := ⟨_, rfl⟩
    obtain ⟨a1, a2, a3, a4, a5, a6, a7, a8⟩ := hE w1 (by rw [← hw1, hv])
    have A8 := Lib.hid a8
    have HW := Lib.hid hw1
    clear hE a8 hw1 hv
    go_enter Try.func42, Try.ntmps42
    go_wp2
    go_region
    rw [HW.out]
    clear c0 c2 hl e0 e1 f0 f1 hx
    go_wp2
    go_region
    go_end0
    exact ⟨rfl, A8.out⟩
  · have hv : tailV g off cap m = .slice (some ⟨g, off + 1, none⟩) m (cap - 1) := by unfold tailV; rw [if_neg hc]
    obtain ⟨w1, hw1⟩ : ∃ w1, ((w.setCell ⟨gl, 0, none⟩ (.int .i64 x)).setCell ⟨gl, 1, none⟩ (.slice (some ⟨g, off + 1, none⟩) m (cap - 1))).drew = w1 := ⟨_, rfl⟩
    obtain ⟨a1, a2, a3, a4, a5, a6, a7, a8⟩ := hE w1 (by rw [← hw1, hv])
    have A8 := Lib.hid a8
    have HW := Lib.hid hw1
    clear hE a8 hw1 hv
    go_enter Try.func42, Try.ntmps42
    go_wp2
    go_region
    rw [HW.out]
    clear c0 c2 hl e0 e1 f0 f1 hx
    go_wp2
    go_region
    go_end0
    exact ⟨rfl, A8.out⟩

theorem pass_next (d : Nat) (R : Rp) (S : SS) (n h0 x : Int) (q : List Int) (T : TS) (w : World) (h : At w d R S) (hw : (Lit.int .i64 n).wf = true) (hH : S.lock n = some ⟨h0, x :: q⟩) (hT : S.task x = some T) (hxw : (Lit.int .i64 x).wf = true) :
    Calls Try.prog 42 #[.pointer (some ⟨d, 0, none⟩), .int .i64 n] w fun e w' => e = .returned (.tuple #[]) ∧ Post d R S w (S.given n x q T) w' := by
  have hl := (h.llook hw hH).1
  obtain ⟨hbk, hrow⟩ := h.lblk hH
  have e1 : w.cell? ⟨(R.l.c n).1, 1, none⟩ = some (R.l.c n).2 := hbk.cell 1
  have e0 : w.cell? ⟨(R.l.c n).1, 0, none⟩ = some (.int .i64 h0) := hbk.cell 0
  obtain ⟨g, off, cap, hv, hx, hcap, hrow'⟩ := hrow.parts
  obtain ⟨R1, hR1, hR2, hR3, hP1⟩ := held_turn h hH hv hrow'
  rw [hv] at e1
  have hne : (R.l.c n).1 ≠ d := (h.apl _ (.inr ⟨n, _, hH, .inl rfl⟩)).1
  refine pass_run d (R.l.c n).1 (R.t.c x).1 g off cap q.length R.t.m R.l.m n h0 x T _ w h.c0 h.c2 hl e0 e1 (hbk.frozen 0) (hbk.frozen 1) hx hcap hne fun w1 hw1 => ?_
  have hP : PR d R S w R1 { S with lock := upd S.lock n (some ⟨x, q⟩) } w1 := by
    rw [hw1]
    exact hP1.trans (PR.same hP1.at_ ((Fr.refl _ _).drew))
  have hA := hP.at_
  have hT' : ({ S with lock := upd S.lock n (some ⟨x, q⟩) } : SS).task x = some T := hT
  have hH' : ({ S with lock := upd S.lock n (some ⟨x, q⟩) } : SS).lock n = some ⟨x, q⟩ := upd_same _ _ _
  have ht := hA.tblk hT'
  have htl := ((hA.drewN 1).tlook hxw hT').1
  have hlb := (hA.lblk hH').1
  have k0 : w1.cell? ⟨(R1.l.c n).1, 0, none⟩ = some (.int .i64 x) := hlb.cell 0
  have c0 := hA.c0
  rw [hR1] at ht htl c0
  rw [hR3] at k0
  refine ⟨c0, k0, htl, ht.cell 1, ht.cell 2, ht.frozen 1, ht.frozen 2, ?_⟩
  have hf : Fr (One (R.t.c x).1) w1 (((w1.setCell ⟨(R.t.c x).1, 1, none⟩ (.int .i64 0)).setCell ⟨(R.t.c x).1, 2, none⟩ (.int .i64 0)).drew) :=
    (((Fr.refl (One (R.t.c x).1) w1).setCell (p := ⟨(R.t.c x).1, 1, none⟩) (fun _ => rfl) _).setCell (p := ⟨(R.t.c x).1, 2, none⟩) (fun _ => rfl) _).drew
  have hb : Blk (((w1.setCell ⟨(R.t.c x).1, 1, none⟩ (.int .i64 0)).setCell ⟨(R.t.c x).1, 2, none⟩ (.int .i64 0)).drew) (R.t.c x).1 79 (TS.cells { T with kind := 0, num := 0 }) := (ht.set_ 1 _).set_ 2 _
  rw [← hR1] at hf hb ⊢
  obtain ⟨R2, hP2⟩ := hA.setT hT' hf hb
  exact ⟨R2, hP.trans hP2⟩

end Go.Proofs.Ytnonidoeakhfdaa
