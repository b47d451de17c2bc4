/- Lock, Unlock, Await, by contract. -/
import Derived.Test.YtnonidoeakhfdaaB2
namespace Go.Proofs.Ytnonidoeakhfdaa
open Go.RowKit Go.Maps Go.Sort
set_option linter.unusedVariables false

theorem fr_two (w : World) (g i j : Nat) (u v : Value) : Fr (One g) w ((w.setCell ⟨g, i, none⟩ u).setCell ⟨g, j, none⟩ v) :=
  ((Fr.refl (One g) w).setCell (p := ⟨g, i, none⟩) (fun _ => rfl) _).setCell (p := ⟨g, j, none⟩) (fun _ => rfl) _

theorem lock_call (d : Nat) (R : Rp) (S : SS) (t n : Int) (w : World) (h : At w d R S) (hW : WF S) (htw : (Lit.int .i64 t).wf = true) (hnw : (Lit.int .i64 n).wf = true) :
    Calls Try.prog 21 #[.pointer (some ⟨d, 0, none⟩), .int .i64 t, .int .i64 n] w fun e w' => e = .returned (.tuple #[.bool (S.lockC t n).1.1, .int .i64 (S.lockC t n).1.2]) ∧ Post d R S w (S.lockC t n).2 w' := by
  by_cases hn : n < 0
  · have e : S.lockC t n = ((false, 1), S) := by unfold SS.lockC; rw [if_pos hn]
    rw [e]
    exact (lock_neg _ t n w hn).mono fun e w' ⟨h1, h2⟩ => ⟨h1, h2 ▸ Post.refl h⟩
  have hn' : 0 ≤ n := by omega
  cases hT : S.task t with
  | none =>
    have e : S.lockC t n = ((false, 18), S) := by unfold SS.lockC; rw [if_neg hn, hT]
    rw [e]
    exact (lock_err _ t n 18 w hn' (by omega) (awake_none d R S t w h htw hT)).mono fun e w' ⟨h1, h2⟩ => ⟨h1, h2 ▸ Post.refl h⟩
  | some T =>
    by_cases hk : T.kind = 0
    · have ha := awake_some d R S t T w h htw hT hk
      cases hH : S.lock n with
      | none =>
        have e : S.lockC t n = ((true, 0), S.taken t n) := by unfold SS.lockC; rw [if_neg hn, hT]; simp only [hk, hH]; rfl
        rw [e]
        have hu : S.locks.length ≤ 1000000 := Nat.le_trans hW.lused hW.used
        exact lock_free d _ _ t n _ w hn' h.c2 ha (h.llook0 hnw hH) (take_any d R S t n w h hnw hu hH)
      | some H =>
        obtain ⟨hbk, hrow⟩ := h.lblk hH
        have g0 : w.cell? ⟨(R.l.c n).1, 0, none⟩ = some (.int .i64 H.holder) := hbk.cell 0
        have g1 : w.cell? ⟨(R.l.c n).1, 1, none⟩ = some (R.l.c n).2 := hbk.cell 1
        by_cases ht : H.holder = t
        · have e : S.lockC t n = ((true, 0), S) := by unfold SS.lockC; rw [if_neg hn, hT]; simp only [hk, hH, ht]; simp
          rw [e]
          rw [ht] at g0
          exact (lock_mine d _ _ _ t n w hn' h.c2 ha (h.llook hnw hH).2 g0).mono fun e w' ⟨h1, h2⟩ => ⟨h1, h2 ▸ Post.refl h⟩
        · have e : S.lockC t n = ((false, 0), S.waits t n H T) := by unfold SS.lockC; rw [if_neg hn, hT]; simp only [hk, hH, ht]; simp
          rw [e]
          have hq := (hW.q n H hH).2.1
          have hus := hW.used
          have hrow1 : RowZ (w.alloc (.cells #[.int .i64 t] 3)) (R.l.c n).2 H.queue := hrow.of fun k hk => Below.heap_alloc w _ k (hrow.lt hk)
          have hcx : (w.alloc (.cells #[.int .i64 t] 3)).cell? ⟨w.heap.size, 0, none⟩ = some (.int .i64 t) := (Blk.new w 3 #[.int .i64 t]).cell 0
          obtain ⟨A, c, hv⟩ := hrow.len
          obtain ⟨v', w1, hr0, hrow', hg, hv'⟩ := hrow1.run_add t 0 ⟨w.heap.size, 0, none⟩ 1 hcx (by omega)
          have hr : ∀ ty, (Builtin.append_ #[29, 29] ty #[(R.l.c n).2, .slice (some ⟨w.heap.size, 0, none⟩) 1 1]).run Try.prog (w.alloc (.cells #[.int .i64 t] 3)) = .ok v' w1 := fun ty => hr0
          obtain ⟨A', c', hv2⟩ := hrow'.len
          obtain ⟨R1, hR1, hR2, hR3, hP, k1, k2⟩ := queue_turn h hH hrow' hg hv'
          rw [hv] at g1 hr k1
          subst hv2
          refine lock_wait d (R.t.c t).1 (R.l.c n).1 R.l.m t n H.holder T A A' _ _ c c' _ w w1 hn' h.c2 ha (h.llook hnw hH).2 g0 g1 ht hr ?_
          have hA := hP.at_
          have hT' : ({ S with lock := upd S.lock n (some ⟨H.holder, H.queue ++ [t]⟩) } : SS).task t = some T := hT
          have htb := hA.tblk hT'
          rw [hR1] at htb
          refine ⟨k1, k2, htb.cell 1, htb.cell 2, htb.frozen 1, htb.frozen 2, ?_⟩
          have hf := fr_two (w1.setCell ⟨(R.l.c n).1, 1, none⟩ (.slice A' (H.queue ++ [t]).length c')) (R.t.c t).1 1 2 (.int .i64 1) (.int .i64 n)
          have hb : Blk _ (R.t.c t).1 79 (TS.cells { T with kind := 1, num := n }) := (htb.set_ 1 (.int .i64 1)).set_ 2 (.int .i64 n)
          rw [← hR1] at hf hb ⊢
          obtain ⟨R2, hP2⟩ := hA.setT hT' hf hb
          exact ⟨R2, (hP.trans hP2).more (Nat.le_succ _)⟩
    · have e : S.lockC t n = ((false, 51), S) := by unfold SS.lockC; rw [if_neg hn, hT]; simp only [ne_eq, hk]; rfl
      rw [e]
      exact (lock_err _ t n 51 w hn' (by omega) (awake_waits d R S t T w h htw hT hk)).mono fun e w' ⟨h1, h2⟩ => ⟨h1, h2 ▸ Post.refl h⟩

theorem lock_nil (t n : Int) (w : World) : Calls Try.prog 21 #[.pointer none, .int .i64 t, .int .i64 n] w fun e w' => e = .returned (.tuple #[.bool false, .int .i64 1]) ∧ w = w' := by
  by_cases hn : n < 0
  · exact lock_neg none t n w hn
  · exact lock_err none t n 1 w (by omega) (by omega) (awake_nil t w)

/-! ### Unlock -/
def SS.pass (S : SS) (n : Int) : SS :=
  match S.lock n with
  | none => S
  | some ⟨_, []⟩ => S.freed n
  | some ⟨_, x :: q⟩ =>
    match S.task x with
    | none => S
    | some T => S.given n x q T
/-- Whoever waits for the lock is there. -/
def SS.fit (S : SS) (n : Int) : Prop := ∃ H, S.lock n = some H ∧ ∀ x ∈ H.queue, ∃ T, S.task x = some T ∧ (Lit.int .i64 x).wf = true
theorem pass_any (d : Nat) (R : Rp) (S : SS) (n : Int) (w : World) (h : At w d R S) (hr : Rt S.locks S.lock) (hw : (Lit.int .i64 n).wf = true) (hf : S.fit n) :
    Calls Try.prog 42 #[.pointer (some ⟨d, 0, none⟩), .int .i64 n] w fun e w' => e = .returned (.tuple #[]) ∧ Post d R S w (S.pass n) w' := by
  obtain ⟨⟨h0, q⟩, hH, hq⟩ := hf
  cases q with
  | nil =>
    have e : S.pass n = S.freed n := by unfold SS.pass; rw [hH]
    rw [e]
    exact pass_free d R S n h0 w h hr hw hH
  | cons x q =>
    obtain ⟨T, hT, hxw⟩ := hq x (by simp)
    have e : S.pass n = S.given n x q T := by unfold SS.pass; rw [hH]; simp only [hT]
    rw [e]
    exact pass_next d R S n h0 x q T w h hw hH hT hxw

def SS.unlockC (S : SS) (t n : Int) : Int × SS :=
  if n < 0 then (1, S) else
  match S.task t with
  | none => (18, S)
  | some _ => if S.holderC n ≠ t then (19, S) else (0, S.pass n)

theorem unlock_neg (p : Option Addr) (t n : Int) (w : World) (hn : n < 0) : Calls Try.prog 22 #[.pointer p, .int .i64 t, .int .i64 n] w fun e w' => e = .returned (.int .i64 1) ∧ w = w' := by
  go_enter Try.func22, Try.ntmps22
  go_wp2
  go_ret
  exact ⟨rfl, rfl⟩
set_option maxHeartbeats 400000 in
theorem unlock_err (p : Option Addr) (t n E : Int) (w : World) (hn : 0 ≤ n) (hE : E ≠ 0) (ha : Calls Try.prog 37 #[.pointer p, .int .i64 t] w fun e w' => e = .returned (.tuple #[.pointer none, .int .i64 E]) ∧ w = w') :
    Calls Try.prog 22 #[.pointer p, .int .i64 t, .int .i64 n] w fun e w' => e = .returned (.int .i64 E) ∧ w = w' := by
  have hb : (E != 0) = true := by simpa using hE
  have hn' : ¬ n < 0 := by omega
  clear hE hn
  go_enter Try.func22, Try.ntmps22
  go_wp2_with (go_at_call 37; refine ha.mono ?_; rintro e w' ⟨rfl, rfl⟩)
  go_ret
  exact ⟨rfl, rfl⟩
set_option maxHeartbeats 400000 in
theorem unlock_not (d tb : Nat) (t n hd : Int) (w : World) (hn : 0 ≤ n) (hne : hd ≠ t) (ha : Calls Try.prog 37 #[.pointer (some ⟨d, 0, none⟩), .int .i64 t] w fun e w' => e = .returned (.tuple #[.pointer (some ⟨tb, 0, none⟩), .int .i64 0]) ∧ w = w')
    (hh : Calls Try.prog 16 #[.pointer (some ⟨d, 0, none⟩), .int .i64 n] w fun e w' => e = .returned (.int .i64 hd) ∧ w = w') :
    Calls Try.prog 22 #[.pointer (some ⟨d, 0, none⟩), .int .i64 t, .int .i64 n] w fun e w' => e = .returned (.int .i64 19) ∧ w = w' := by
  have hb : (hd != t) = true := by simpa using hne
  have hn' : ¬ n < 0 := by omega
  clear hne hn
  go_enter Try.func22, Try.ntmps22
  go_wp2_with (first | (go_at_call 37; refine ha.mono ?_; rintro e w' ⟨rfl, rfl⟩) | (go_at_call 16; refine hh.mono ?_; rintro e w' ⟨rfl, rfl⟩))
  go_ret
  exact ⟨rfl, rfl⟩
set_option maxHeartbeats 400000 in
theorem unlock_ok (d tb : Nat) (t n : Int) (P : World → Prop) (w : World) (hn : 0 ≤ n) (ha : Calls Try.prog 37 #[.pointer (some ⟨d, 0, none⟩), .int .i64 t] w fun e w' => e = .returned (.tuple #[.pointer (some ⟨tb, 0, none⟩), .int .i64 0]) ∧ w = w')
    (hh : Calls Try.prog 16 #[.pointer (some ⟨d, 0, none⟩), .int .i64 n] w fun e w' => e = .returned (.int .i64 t) ∧ w = w') (hp : Calls Try.prog 42 #[.pointer (some ⟨d, 0, none⟩), .int .i64 n] w fun e w' => e = .returned (.tuple #[]) ∧ P w') :
    Calls Try.prog 22 #[.pointer (some ⟨d, 0, none⟩), .int .i64 t, .int .i64 n] w fun e w' => e = .returned (.int .i64 0) ∧ P w' := by
  have hn' : ¬ n < 0 := by omega
  clear hn
  go_enter Try.func22, Try.ntmps22
  go_wp2_with (first | (go_at_call 37; refine ha.mono ?_; rintro e w' ⟨rfl, rfl⟩) | (go_at_call 16; refine hh.mono ?_; rintro e w' ⟨rfl, rfl⟩) | (go_at_call 42; refine hp.mono ?_; rintro e w' ⟨rfl, hq⟩; have HQ := Lib.hid hq; clear hq hp))
  go_ret
  exact ⟨rfl, HQ.out⟩

theorem WF.fit {S : SS} (hW : WF S) {n : Int} {H : HS} (hH : S.lock n = some H) : S.fit n :=
  ⟨H, hH, fun x hx => by obtain ⟨T, hT, _⟩ := (hW.q n H hH).2.2 x hx; exact ⟨T, hT, hW.keyWf hT⟩⟩

theorem unlock_call (d : Nat) (R : Rp) (S : SS) (t n : Int) (w : World) (h : At w d R S) (hW : WF S) (htw : (Lit.int .i64 t).wf = true) (hnw : (Lit.int .i64 n).wf = true) :
    Calls Try.prog 22 #[.pointer (some ⟨d, 0, none⟩), .int .i64 t, .int .i64 n] w fun e w' => e = .returned (.int .i64 (S.unlockC t n).1) ∧ Post d R S w (S.unlockC t n).2 w' := by
  by_cases hn : n < 0
  · have e : S.unlockC t n = (1, S) := by unfold SS.unlockC; rw [if_pos hn]
    rw [e]
    exact (unlock_neg _ t n w hn).mono fun e w' ⟨h1, h2⟩ => ⟨h1, h2 ▸ Post.refl h⟩
  have hn' : 0 ≤ n := by omega
  cases hT : S.task t with
  | none =>
    have e : S.unlockC t n = (18, S) := by unfold SS.unlockC; rw [if_neg hn, hT]
    rw [e]
    exact (unlock_err _ t n 18 w hn' (by omega) (find_none d R S t w h htw hT)).mono fun e w' ⟨h1, h2⟩ => ⟨h1, h2 ▸ Post.refl h⟩
  | some T =>
    have ha := find_some d R S t T w h htw hT
    have hh := holder_any d R S n w h hnw
    by_cases ht : S.holderC n = t
    · have e : S.unlockC t n = (0, S.pass n) := by unfold SS.unlockC; rw [if_neg hn, hT]; simp only [ne_eq, ht, not_true_eq_false, if_false]
      rw [e]
      rw [ht] at hh
      have hk := hW.key hT
      cases hH : S.lock n with
      | none => unfold SS.holderC at ht; rw [hH] at ht; simp only at ht; omega
      | some H => exact unlock_ok d _ t n _ w hn' ha hh (pass_any d R S n w h hW.rl hnw (hW.fit hH))
    · have e : S.unlockC t n = (19, S) := by unfold SS.unlockC; rw [if_neg hn, hT]; simp only [ne_eq, ht, not_false_eq_true, if_true]
      rw [e]
      exact (unlock_not d _ t n _ w hn' ht ha hh).mono fun e w' ⟨h1, h2⟩ => ⟨h1, h2 ▸ Post.refl h⟩

theorem unlock_nil (t n : Int) (w : World) : Calls Try.prog 22 #[.pointer none, .int .i64 t, .int .i64 n] w fun e w' => e = .returned (.int .i64 1) ∧ w = w' := by
  by_cases hn : n < 0
  · exact unlock_neg none t n w hn
  · exact unlock_err none t n 1 w (by omega) (by omega) (find_nil t w)

/-! ### Await -/
def SS.awaitC (S : SS) (t n : Int) : (Bool × Int) × SS :=
  if n < 0 then ((false, 1), S) else
  match S.task t with
  | none => ((false, 18), S)
  | some T => if T.kind ≠ 0 then ((false, 51), S) else
    if S.opens n then ((true, 0), S) else ((false, 0), S.setT t { T with kind := 2, num := n })

theorem await_neg (p : Option Addr) (t n : Int) (w : World) (hn : n < 0) : Calls Try.prog 25 #[.pointer p, .int .i64 t, .int .i64 n] w fun e w' => e = .returned (.tuple #[.bool false, .int .i64 1]) ∧ w = w' := by
  go_enter Try.func25, Try.ntmps25
  go_wp2
  go_ret2
  exact ⟨rfl, rfl⟩
set_option maxHeartbeats 400000 in
theorem await_err (p : Option Addr) (t n E : Int) (w : World) (hn : 0 ≤ n) (hE : E ≠ 0) (ha : Calls Try.prog 40 #[.pointer p, .int .i64 t] w fun e w' => e = .returned (.tuple #[.pointer none, .int .i64 E]) ∧ w = w') :
    Calls Try.prog 25 #[.pointer p, .int .i64 t, .int .i64 n] w fun e w' => e = .returned (.tuple #[.bool false, .int .i64 E]) ∧ w = w' := by
  have hb : (E != 0) = true := by simpa using hE
  have hn' : ¬ n < 0 := by omega
  clear hE hn
  go_enter Try.func25, Try.ntmps25
  go_wp2_with (go_at_call 40; refine ha.mono ?_; rintro e w' ⟨rfl, rfl⟩)
  go_ret2
  exact ⟨rfl, rfl⟩
set_option maxHeartbeats 1000000 in
theorem await_open (d tb : Nat) (om : Option Nat) (t n : Int) (w : World) (hn : 0 ≤ n) (c3 : w.cell? ⟨d, 3, none⟩ = some (.map om)) (ha : Calls Try.prog 40 #[.pointer (some ⟨d, 0, none⟩), .int .i64 t] w fun e w' => e = .returned (.tuple #[.pointer (some ⟨tb, 0, none⟩), .int .i64 0]) ∧ w = w')
    (hl : (Instr.lookup 54 (.map om) (.int .i64 n) true).run Try.prog w = .ok (.tuple #[.agg #[], .bool true]) w) :
    Calls Try.prog 25 #[.pointer (some ⟨d, 0, none⟩), .int .i64 t, .int .i64 n] w fun e w' => e = .returned (.tuple #[.bool true, .int .i64 0]) ∧ Fr No w w' := by
  have hn' : ¬ n < 0 := by omega
  clear hn
  go_enter Try.func25, Try.ntmps25
  go_wp2_with (go_at_call 40; refine ha.mono ?_; rintro e w' ⟨rfl, rfl⟩)
  go_ret2
  exact ⟨rfl, (Fr.refl No w).alloc _⟩
set_option maxHeartbeats 1000000 in
theorem await_wait (d tb : Nat) (om : Option Nat) (t n : Int) (T : TS) (w : World) (hn : 0 ≤ n) (c3 : w.cell? ⟨d, 3, none⟩ = some (.map om)) (ha : Calls Try.prog 40 #[.pointer (some ⟨d, 0, none⟩), .int .i64 t] w fun e w' => e = .returned (.tuple #[.pointer (some ⟨tb, 0, none⟩), .int .i64 0]) ∧ w = w')
    (hl : (Instr.lookup 54 (.map om) (.int .i64 n) true).run Try.prog w = .ok (.tuple #[.agg #[], .bool false]) w) (hb : Blk w tb 79 T.cells) :
    Calls Try.prog 25 #[.pointer (some ⟨d, 0, none⟩), .int .i64 t, .int .i64 n] w fun e w' => e = .returned (.tuple #[.bool false, .int .i64 0]) ∧ Fr (One tb) w w' ∧ Blk w' tb 79 (TS.cells { T with kind := 2, num := n }) := by
  have hn' : ¬ n < 0 := by omega
  have hlt := hb.lt
  have t1 : w.cell? ⟨tb, 1, none⟩ = some (.int .i64 T.kind) := hb.cell 1
  have t2 : w.cell? ⟨tb, 2, none⟩ = some (.int .i64 T.num) := hb.cell 2
  have f1 := hb.frozen 1
  have f2 := hb.frozen 2
  have HB := Lib.hid hb
  clear hn hb
  go_enter Try.func25, Try.ntmps25
  go_wp2_with (go_at_call 40; refine ha.mono ?_; rintro e w' ⟨rfl, rfl⟩)
  go_ret2
  have h2 : Blk ((w.setCell ⟨tb, 1, none⟩ (.int .i64 2)).setCell ⟨tb, 2, none⟩ (.int .i64 n)) tb 79 (TS.cells { T with kind := 2, num := n }) := (HB.out.set_ 1 _).set_ 2 _
  exact ⟨rfl, (fr_two w tb 1 2 _ _).alloc _, h2.of (Below.heap_alloc _ _ tb h2.lt)⟩

theorem await_call (d : Nat) (R : Rp) (S : SS) (t n : Int) (w : World) (h : At w d R S) (hW : WF S) (htw : (Lit.int .i64 t).wf = true) (hnw : (Lit.int .i64 n).wf = true) :
    Calls Try.prog 25 #[.pointer (some ⟨d, 0, none⟩), .int .i64 t, .int .i64 n] w fun e w' => e = .returned (.tuple #[.bool (S.awaitC t n).1.1, .int .i64 (S.awaitC t n).1.2]) ∧ Post d R S w (S.awaitC t n).2 w' := by
  by_cases hn : n < 0
  · have e : S.awaitC t n = ((false, 1), S) := by unfold SS.awaitC; rw [if_pos hn]
    rw [e]
    exact (await_neg _ t n w hn).mono fun e w' ⟨h1, h2⟩ => ⟨h1, h2 ▸ Post.refl h⟩
  have hn' : 0 ≤ n := by omega
  cases hT : S.task t with
  | none =>
    have e : S.awaitC t n = ((false, 18), S) := by unfold SS.awaitC; rw [if_neg hn, hT]
    rw [e]
    exact (await_err _ t n 18 w hn' (by omega) (awake_none d R S t w h htw hT)).mono fun e w' ⟨h1, h2⟩ => ⟨h1, h2 ▸ Post.refl h⟩
  | some T =>
    by_cases hk : T.kind = 0
    · have ha := awake_some d R S t T w h htw hT hk
      have hl := look_unit h.o.map hnw
      rw [h.o.op n] at hl
      cases ho : S.opens n
      · have e : S.awaitC t n = ((false, 0), S.setT t { T with kind := 2, num := n }) := by unfold SS.awaitC; rw [if_neg hn, hT]; simp only [hk, ho]; simp
        rw [e]
        rw [ho] at hl
        refine (await_wait d _ _ t n T w hn' h.c3 ha hl (h.tblk hT)).mono fun e w' ⟨h1, h2, h3⟩ => ⟨h1, h.setT hT h2 h3⟩
      · have e : S.awaitC t n = ((true, 0), S) := by unfold SS.awaitC; rw [if_neg hn, hT]; simp only [hk, ho]; simp
        rw [e]
        rw [ho] at hl
        exact (await_open d _ _ t n w hn' h.c3 ha hl).mono fun e w' ⟨h1, h2⟩ => ⟨h1, Post.same h h2⟩
    · have e : S.awaitC t n = ((false, 51), S) := by unfold SS.awaitC; rw [if_neg hn, hT]; simp only [ne_eq, hk]; rfl
      rw [e]
      exact (await_err _ t n 51 w hn' (by omega) (awake_waits d R S t T w h htw hT hk)).mono fun e w' ⟨h1, h2⟩ => ⟨h1, h2 ▸ Post.refl h⟩
theorem await_nil (t n : Int) (w : World) : Calls Try.prog 25 #[.pointer none, .int .i64 t, .int .i64 n] w fun e w' => e = .returned (.tuple #[.bool false, .int .i64 1]) ∧ w = w' := by
  by_cases hn : n < 0
  · exact await_neg none t n w hn
  · exact await_err none t n 1 w (by omega) (by omega) (awake_nil t w)

end Go.Proofs.Ytnonidoeakhfdaa
