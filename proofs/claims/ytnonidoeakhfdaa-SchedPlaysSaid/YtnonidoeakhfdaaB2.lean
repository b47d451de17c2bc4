/- Lock, Unlock, Await. -/
import Derived.Test.YtnonidoeakhfdaaB1
namespace Go.Proofs.Ytnonidoeakhfdaa
open Go.RowKit Go.Maps Go.Sort
set_option linter.unusedVariables false

section
variable {ops : Array Oper} {rest : List Oper} {o : Oper} {a : Act} {Q : Exit → Act → World → Prop} {w : World}
theorem wpList_add (hgd : o.guard = none) (sl x : Operand) (ho : o.op = .call { callee := .builtin .append, args := #[sl, x], argTypes := #[29, 29] })
    (v v' xv : Value) (w1 : World) (hs : a.eval sl = v) (hx : a.eval x = xv) (hr : (Builtin.append_ #[29, 29] o.type #[v, xv]).run Try.prog w = .ok v' w1)
    (h : wpList Try.prog ops Q rest (a.put o.dst v') w1) : wpList Try.prog ops Q (o :: rest) a w := by
  refine wpList_plain hgd fun K hK => ?_
  unfold Oper.wp execOp
  simp only [ho, resolve, invoke, builtin, Sem.run_bind, Sem.run_pure, Result.andThen_ok, List.map_toArray, List.map_cons, List.map_nil, hs, hx, hr]
  exact hK _ _ h
end

/-- One more waits for a lock. -/
theorem queue_turn {w w1 : World} {d : Nat} {R : Rp} {S : SS} (h : At w d R S) {n t : Int} {H : HS} (hH : S.lock n = some H) {v' : Value} (hr : RowZ w1 v' (H.queue ++ [t])) (hg : (w.alloc (.cells #[.int .i64 t] 3)).grownBy w1 (R.l.c n).2.ownBlock)
    (hv : ∀ k, v'.ownBlock = some k → (R.l.c n).2.ownBlock = some k ∨ k = (w.alloc (.cells #[.int .i64 t] 3)).heap.size) :
    ∃ R1, R1.t = R.t ∧ R1.l.m = R.l.m ∧ (∀ k, (R1.l.c k).1 = (R.l.c k).1) ∧ PR d R S w R1 { S with lock := upd S.lock n (some ⟨H.holder, H.queue ++ [t]⟩) } (w1.setCell ⟨(R.l.c n).1, 1, none⟩ v') ∧
      w1.cell? ⟨(R.l.c n).1, 1, none⟩ = some (R.l.c n).2 ∧ w1.frozen? ⟨(R.l.c n).1, 1, none⟩ = false := by
  obtain ⟨hbk, hrow⟩ := h.lblk hH
  have hgne : ∀ k, (R.l.c n).2.ownBlock = some k → k ≠ (R.l.c n).1 := fun k hk => by
    obtain ⟨cur, hc⟩ := hrow.block hk
    exact Blk.ne_ (w := w) (t := 3) hc hbk (by decide)
  have hsz : (w.alloc (.cells #[.int .i64 t] 3)).heap.size = w.heap.size + 1 := by simp
  have hf1 : Fr (fun k => (R.l.c n).2.ownBlock = some k) w w1 := ((Fr.refl _ w).alloc _).grown hg fun k hk _ => hk
  have hb1 : Blk w1 (R.l.c n).1 66 #[.int .i64 H.holder, (R.l.c n).2] := hbk.of (hf1.block _ hbk.lt fun e => hgne _ e rfl)
  have hf : Fr (ef (R.l.c n)) w (w1.setCell ⟨(R.l.c n).1, 1, none⟩ v') := (hf1.mono fun k _ hk => (Or.inr hk : ef (R.l.c n) k)).setCell (p := ⟨(R.l.c n).1, 1, none⟩) (fun _ => Or.inl rfl) _
  have hb2 : Blk (w1.setCell ⟨(R.l.c n).1, 1, none⟩ v') (R.l.c n).1 66 #[.int .i64 H.holder, v'] := hb1.set_ 1 v'
  have hvne : ∀ k, v'.ownBlock = some k → k ≠ (R.l.c n).1 := fun k hk e => by
    rcases hv k hk with h1 | h1
    · exact hgne k h1 e
    · have := hbk.lt; omega
  refine ⟨{ R with l := { R.l with c := upd R.l.c n ((R.l.c n).1, v') } }, rfl, rfl, fun k => ?_, h.turnL (PTset (x' := ⟨H.holder, H.queue ++ [t]⟩) (v' := v') h.l hH hf ⟨hb2, ?_⟩ fun k hk => ?_) rfl, hb1.cell 1, hb1.frozen 1⟩
  · show (upd R.l.c n _ k).1 = _
    unfold upd
    split
    · rename_i e; subst e; rfl
    · rfl
  · have hf3 : Fr (One (R.l.c n).1) w1 (w1.setCell ⟨(R.l.c n).1, 1, none⟩ v') := (Fr.refl (One (R.l.c n).1) w1).setCell (p := ⟨(R.l.c n).1, 1, none⟩) (fun _ => rfl) _
    exact hr.of fun k hk => hf3.block k (hr.lt hk) (hvne k hk)
  · rcases hv k hk with h1 | h1
    · exact .inl (.inr h1)
    · exact .inr (by omega)

/-! ### Lock -/
def SS.waits (S : SS) (t n : Int) (H : HS) (T : TS) : SS :=
  { S with lock := upd S.lock n (some ⟨H.holder, H.queue ++ [t]⟩), task := upd S.task t (some { T with kind := 1, num := n }), used := S.used + 1 }
def SS.lockC (S : SS) (t n : Int) : (Bool × Int) × SS :=
  if n < 0 then ((false, 1), S) else
  match S.task t with
  | none => ((false, 18), S)
  | some T => if T.kind ≠ 0 then ((false, 51), S) else
    match S.lock n with
    | none => ((true, 0), S.taken t n)
    | some H => if H.holder = t then ((true, 0), S) else ((false, 0), S.waits t n H T)

theorem lock_neg (p : Option Addr) (t n : Int) (w : World) (hn : n < 0) : Calls Try.prog 21 #[.pointer p, .int .i64 t, .int .i64 n] w fun e w' => e = .returned (.tuple #[.bool false, .int .i64 1]) ∧ w = w' := by
  go_enter Try.func21, Try.ntmps21
  go_wp2
  go_ret2
  exact ⟨rfl, rfl⟩
set_option maxHeartbeats 400000 in
theorem lock_err (p : Option Addr) (t n E : Int) (w : World) (hn : 0 ≤ n) (hE : E ≠ 0) (ha : Calls Try.prog 40 #[.pointer p, .int .i64 t] w fun e w' => e = .returned (.tuple #[.pointer none, .int .i64 E]) ∧ w = w') :
    Calls Try.prog 21 #[.pointer p, .int .i64 t, .int .i64 n] w fun e w' => e = .returned (.tuple #[.bool false, .int .i64 E]) ∧ w = w' := by
  have hb : (E != 0) = true := by simpa using hE
  have hn' : ¬ n < 0 := by omega
  clear hE hn
  go_enter Try.func21, Try.ntmps21
  go_wp2_with (go_at_call 40; refine ha.mono ?_; rintro e w' ⟨rfl, rfl⟩)
  go_ret2
  exact ⟨rfl, rfl⟩

set_option maxHeartbeats 1000000 in
theorem lock_free (d tb : Nat) (lm : Option Nat) (t n : Int) (P : World → Prop) (w : World) (hn : 0 ≤ n) (c2 : w.cell? ⟨d, 2, none⟩ = some (.map lm)) (ha : Calls Try.prog 40 #[.pointer (some ⟨d, 0, none⟩), .int .i64 t] w fun e w' => e = .returned (.tuple #[.pointer (some ⟨tb, 0, none⟩), .int .i64 0]) ∧ w = w')
    (hl : (Instr.lookup 53 (.map lm) (.int .i64 n) true).run Try.prog w = .ok (.tuple #[.pointer none, .bool false]) w) (ht : Calls Try.prog 41 #[.pointer (some ⟨d, 0, none⟩), .int .i64 t, .int .i64 n] w fun e w' => e = .returned (.tuple #[]) ∧ P w') :
    Calls Try.prog 21 #[.pointer (some ⟨d, 0, none⟩), .int .i64 t, .int .i64 n] w fun e w' => e = .returned (.tuple #[.bool true, .int .i64 0]) ∧ P w' := by
  have hn' : ¬ n < 0 := by omega
  clear hn
  go_enter Try.func21, Try.ntmps21
  go_wp2_with (first | (go_at_call 40; refine ha.mono ?_; rintro e w' ⟨rfl, rfl⟩) | (go_at_call 41; refine ht.mono ?_; rintro e w' ⟨rfl, hp⟩; have HP := Lib.hid hp; clear hp ht hl))
  go_ret2
  exact ⟨rfl, HP.out⟩

set_option maxHeartbeats 1000000 in
theorem lock_mine (d tb gl : Nat) (lm : Option Nat) (t n : Int) (w : World) (hn : 0 ≤ n) (c2 : w.cell? ⟨d, 2, none⟩ = some (.map lm)) (ha : Calls Try.prog 40 #[.pointer (some ⟨d, 0, none⟩), .int .i64 t] w fun e w' => e = .returned (.tuple #[.pointer (some ⟨tb, 0, none⟩), .int .i64 0]) ∧ w = w')
    (hl : (Instr.lookup 53 (.map lm) (.int .i64 n) true).run Try.prog w = .ok (.tuple #[.pointer (some ⟨gl, 0, none⟩), .bool true]) w) (g0 : w.cell? ⟨gl, 0, none⟩ = some (.int .i64 t)) :
    Calls Try.prog 21 #[.pointer (some ⟨d, 0, none⟩), .int .i64 t, .int .i64 n] w fun e w' => e = .returned (.tuple #[.bool true, .int .i64 0]) ∧ w = w' := by
  have hn' : ¬ n < 0 := by omega
  clear hn
  go_enter Try.func21, Try.ntmps21
  go_wp2_with (go_at_call 40; refine ha.mono ?_; rintro e w' ⟨rfl, rfl⟩)
  go_ret2
  exact ⟨rfl, rfl⟩

structure WaitAt (gl tb : Nat) (v v' : Value) (n : Int) (T : TS) (P : World → Prop) (w1 : World) : Prop where
  g1 : w1.cell? ⟨gl, 1, none⟩ = some v
  f1 : w1.frozen? ⟨gl, 1, none⟩ = false
  t1 : (w1.setCell ⟨gl, 1, none⟩ v').cell? ⟨tb, 1, none⟩ = some (.int .i64 T.kind)
  t2 : (w1.setCell ⟨gl, 1, none⟩ v').cell? ⟨tb, 2, none⟩ = some (.int .i64 T.num)
  h1 : (w1.setCell ⟨gl, 1, none⟩ v').frozen? ⟨tb, 1, none⟩ = false
  h2 : (w1.setCell ⟨gl, 1, none⟩ v').frozen? ⟨tb, 2, none⟩ = false
  fin : P (((w1.setCell ⟨gl, 1, none⟩ v').setCell ⟨tb, 1, none⟩ (.int .i64 1)).setCell ⟨tb, 2, none⟩ (.int .i64 n))

set_option maxRecDepth 100000 in
set_option maxHeartbeats 1000000 in
theorem lock_wait (d tb gl : Nat) (lm : Option Nat) (t n h0 : Int) (T : TS) (A A' : Option Addr) (m m' c c' : Nat) (P : World → Prop) (w w1 : World) (hn : 0 ≤ n) (c2 : w.cell? ⟨d, 2, none⟩ = some (.map lm))
    (ha : Calls Try.prog 40 #[.pointer (some ⟨d, 0, none⟩), .int .i64 t] w fun e w' => e = .returned (.tuple #[.pointer (some ⟨tb, 0, none⟩), .int .i64 0]) ∧ w = w')
    (hl : (Instr.lookup 53 (.map lm) (.int .i64 n) true).run Try.prog w = .ok (.tuple #[.pointer (some ⟨gl, 0, none⟩), .bool true]) w) (g0 : w.cell? ⟨gl, 0, none⟩ = some (.int .i64 h0)) (g1 : w.cell? ⟨gl, 1, none⟩ = some (.slice A m c)) (hne : h0 ≠ t)
    (hr : ∀ ty, (Builtin.append_ #[29, 29] ty #[.slice A m c, .slice (some ⟨w.heap.size, 0, none⟩) 1 1]).run Try.prog (w.alloc (.cells #[.int .i64 t] 3)) = .ok (.slice A' m' c') w1)
    (hE : WaitAt gl tb (.slice A m c) (.slice A' m' c') n T P w1) :
    Calls Try.prog 21 #[.pointer (some ⟨d, 0, none⟩), .int .i64 t, .int .i64 n] w fun e w' => e = .returned (.tuple #[.bool false, .int .i64 0]) ∧ P w' := by
  have hn' : ¬ n < 0 := by omega
  have hb : (h0 == t) = false := by simpa using hne
  obtain ⟨k1, k2, k3, k4, k5, k6, k7⟩ := hE
  have K7 := Lib.hid k7
  have HR := Lib.hid hr
  have K1 := Lib.hid k1
  obtain ⟨w2, hw2⟩ : ∃ w2, w1.setCell ⟨gl, 1, none⟩ (.slice A' m' c') = w2 := ⟨_, rfl⟩
  rw [hw2] at k3 k4 k5 k6 K7
  clear hn hne k7 hr k1
  go_enter Try.func21, Try.ntmps21
  go_wp2_with (first
    | (go_at_call 40; refine ha.mono ?_; rintro e w' ⟨rfl, rfl⟩)
    | (at_builtin; refine wpList_add rfl _ _ rfl _ _ _ _ rfl rfl (HR.out _) ?_; have k1 := K1.out; clear g0 g1 c2 hl))
  go_ret2
  exact ⟨rfl, K7.out⟩

end Go.Proofs.Ytnonidoeakhfdaa
