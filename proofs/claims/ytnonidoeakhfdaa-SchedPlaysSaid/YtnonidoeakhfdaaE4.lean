/- SchedRising: what each call does, beside the law's own lists. -/
import Derived.Test.YtnonidoeakhfdaaE3
import Derived.Test.YtnonidoeakhfdaaD7
namespace Go.Proofs.Ytnonidoeakhfdaa
open Go.RowKit Go.Maps Go.Sort
set_option linter.unusedVariables false

theorem pass_used (S : SS) (n : Int) : (S.pass n).used = S.used := by
  unfold SS.pass
  split
  · rfl
  · rfl
  · split <;> rfl
theorem passAll_used (l : List Int) (S : SS) : (S.passAll l).used = S.used := by
  unfold SS.passAll
  induction l generalizing S with
  | nil => rfl
  | cons x l ih => rw [List.foldl_cons, ih, pass_used]
theorem endC_used (S : SS) (t : Int) : (S.endC t).2.used = S.used := by
  unfold SS.endC
  split
  · rfl
  · split
    · rfl
    · exact passAll_used _ _
theorem lockC_used (S : SS) (t n : Int) : (S.lockC t n).2.used ≤ S.used + 1 := by
  unfold SS.lockC
  split
  · exact Nat.le_succ _
  · split
    · exact Nat.le_succ _
    · split
      · exact Nat.le_succ _
      · split
        · exact Nat.le_refl _
        · split
          · exact Nat.le_succ _
          · exact Nat.le_refl _
theorem pick_used (S : SS) (n : Int) : (S.pick n).2.used ≤ S.used + 1 := by
  unfold SS.pick
  split
  · exact Nat.le_succ _
  · unfold SS.picked
    split
    · exact Nat.le_succ _
    · exact Nat.le_refl _

def tdF (tds : List (List Int)) (k : Nat) : List Int := tds.getD k []

section
variable {w wr w' : World} {d : Nat} {P P' : SS → Prop} {vt vl : Value} {vals : List Value} {tds : List (List Int)} {l : List Int}

theorem RB.one (h : RB w d P vt vals tds vl l wr) : ∃ S, P S ∧ WF S ∧ RB w d (fun S' => S' = S) vt vals tds vl l wr := by
  obtain ⟨S, X, h1, h2, h3⟩ := h.ex
  exact ⟨S, h2, h1.wf, ⟨S, X, h1, rfl, h3⟩, h.rt, h.ln, h.ls, h.rl, h.ap, h.fr⟩

theorem RB.start {i : Nat} (h : RB w d (Tz i) vt vals tds vl l wr) (hi : i < 64) :
    Calls Try.prog 20 #[.pointer (some ⟨d, 0, none⟩)] wr fun e w' => e = .returned (.tuple #[.int .i64 ((i : Int) + 1), .int .i64 0]) ∧ RB w d (Tz (i + 1)) vt vals tds vl l w' :=
  h.call fun S X hS hP => by
    obtain ⟨e1, h4⟩ := hP.1.start hi
    have := hP.1.used
    refine (m_start hS (by omega)).mono ?_
    rintro e w' ⟨rfl, h5, h6⟩
    rw [e1]
    exact ⟨rfl, ⟨_, h5, h4.congr (fun m hm => by unfold T0; split <;> rfl) (Nat.le_refl _), fun n => by have := hP.2 n; unfold SS.started; split <;> exact this⟩, h6⟩

/-- A new list of m zeros. -/
theorem RB.make (h : RB w d P vt vals tds vl l wr) (m : Nat) (hm : m ≤ 1000) :
    RB w d P vt vals tds (.slice (some ⟨wr.heap.size, 0, none⟩) m m) (List.replicate m 0) (wr.alloc (.cells (madeCells #[.int .i64 0] m) 3)) := by
  obtain ⟨S, X, h1, h2, h3, h4, h5, h6⟩ := h.ex
  have hs : (wr.alloc (.cells (madeCells #[.int .i64 0] m) 3)).heap.size = wr.heap.size + 1 := by simp
  have hf : Fr No wr (wr.alloc (.cells (madeCells #[.int .i64 0] m) 3)) := (Fr.refl No wr).alloc _
  obtain ⟨a1, a2⟩ := h.of hf (fun k hk => id) fun v hv k hk => id
  have hfs := h.fr.size
  have hb : (wr.alloc (.cells (madeCells #[.int .i64 0] m) 3)).heap[wr.heap.size]? = some (.cells (madeCells #[.int .i64 0] m) 3 (0, 0)) := Go.Deep.blk_alloc_new _ _
  refine ⟨⟨S, fun k => X k ∨ (wr.heap.size ≤ k ∧ k < (wr.alloc (.cells (madeCells #[.int .i64 0] m) 3)).heap.size), h1.grow hf.any, h2, fun k hk => .inl (h3 k hk), fun k hk => .inl (h4 k hk), fun v hv k hk => .inl (h5 v hv k hk), fun k hk => ?_⟩, a1, h.ln, a2, ?_, ?_, h.fr.trans hf fun _ _ hj => hj.elim⟩
  · simp [Value.ownBlock] at hk; subst hk; right; omega
  · unfold Own World.ownsRow
    refine ⟨by simp, .inr ⟨wr.heap.size, m, madeCells #[.int .i64 0] m, by simp, by omega, hb, by simp, by unfold maxLen; omega, by rw [size_madeCells]; simp, ?_⟩⟩
    rw [List.length_replicate, Nat.mul_one, List.map_replicate]
    refine List.ext_getElem? fun i => ?_
    rw [List.getElem?_take]
    by_cases hi : i < m
    · simp [madeCells, hi, Nat.mod_one, encZ]
    · simp [hi]
  · intro v hv k hk hk2
    simp [Value.ownBlock] at hk2; subst hk2
    have := (h.lt.2.1 v hv _ hk).2; omega

end

/-- The main loop: i picks were made; dk: how many locks each task has. -/
structure ML (w : World) (d : Nat) (vt : Value) (vals : List Value) (tds : List (List Int)) (vl : Value) (dl : List Int) (dk : Nat → Nat) (al : Nat → Bool) (pot : Nat → Nat) (u : Nat) (Q : SS → Prop) (wr : World) : Prop where
  rb : RB w d (fun S => MI S tds.length (tdF tds) dk al pot nobody ∧ S.used ≤ u ∧ Q S) vt vals tds vl dl wr
  dd : ∀ k, k < tds.length → dl[k]? = some (dk k : Int)
  dlen : dl.length = tds.length
  m12 : tds.length ≤ 12

def Any (S : SS) : Prop := True
/-- It is there and ready. -/
def Rdy (k : Nat) (S : SS) : Prop := ∃ T, S.task ((k : Int) + 1) = some T ∧ T.kind = 0

section
variable {w wr w' : World} {d : Nat} {vt vl : Value} {vals : List Value} {tds : List (List Int)} {dl : List Int} {dk : Nat → Nat} {al : Nat → Bool} {pot : Nat → Nat} {u : Nat} {Q : SS → Prop}

theorem ML.keep (h : ML w d vt vals tds vl dl dk al pot u Q wr) (hf : Fr No wr w') : ML w d vt vals tds vl dl dk al pot u Q w' := ⟨h.rb.keep hf, h.dd, h.dlen, h.m12⟩

theorem ML.stuck (h : ML w d vt vals tds vl dl dk al pot u Q wr) {k : Nat} (hk : k < tds.length) (ha : al k = true) :
    Calls Try.prog 14 #[.pointer (some ⟨d, 0, none⟩)] wr fun e w' => e = .returned (.bool false) ∧ ML w d vt vals tds vl dl dk al pot u Q w' := by
  refine Calls.mono (h.rb.call (e := fun e => e = .returned (.bool false)) fun S X hS hP => ?_) fun e w' ⟨h1, h2⟩ => ⟨h1, h2, h.dd, h.dlen, h.m12⟩
  refine (m_stuck hS).mono ?_
  rintro e w' ⟨rfl, hf⟩
  rw [hP.1.not_stuck hS.wf hk ha]
  exact ⟨rfl, ⟨S, hS.keep hf, hP⟩, hf.any⟩

theorem ML.pick (h : ML w d vt vals tds vl dl dk al pot u Q wr) {k : Nat} (hk : k < tds.length) (ha : al k = true) (hu : u < 1000000) (n : Int) (hn : -9223372036854775808 ≤ n ∧ n ≤ 9223372036854775807) :
    Calls Try.prog 23 #[.pointer (some ⟨d, 0, none⟩), .int .i64 n] wr fun e w' => ∃ k', k' < tds.length ∧ al k' = true ∧ e = .returned (.tuple #[.int .i64 ((k' : Int) + 1), .bool true]) ∧ ML w d vt vals tds vl dl dk al pot (u + 1) (Rdy k') w' := by
  obtain ⟨S, ⟨h1, h2, _⟩, hw, h3⟩ := h.rb.one
  obtain ⟨k', hk', ha', e1, hT, h4⟩ := h1.pick hw hk ha n
  refine Calls.mono (h3.call (e := fun e => e = .returned (.tuple #[.int .i64 ((k' : Int) + 1), .bool true])) (P' := fun S => MI S tds.length (tdF tds) dk al pot nobody ∧ S.used ≤ u + 1 ∧ Rdy k' S) fun S' X hS hP => ?_) fun e w' ⟨h1, h2⟩ => ⟨k', hk', ha', h1, h2, h.dd, h.dlen, h.m12⟩
  subst hP
  refine (m_pick hS n hn (by omega)).mono ?_
  rintro e w' ⟨rfl, h5, h6⟩
  rw [e1]
  exact ⟨rfl, ⟨_, h5, h4, by have := pick_used S' n; omega, hT⟩, h6⟩

theorem ML.le (h : ML w d vt vals tds vl dl dk al pot u Q wr) {k : Nat} (hk : k < tds.length) (ha : al k = true) : dk k ≤ (tdF tds k).length := by
  obtain ⟨S, ⟨h1, h2, _⟩, hw, h3⟩ := h.rb.one
  obtain ⟨T, _, hd, _⟩ := h1.ta k hk ha
  exact hd

theorem ML.end_ {k : Nat} (h : ML w d vt vals tds vl dl dk al pot u (Rdy k) wr) (hk : k < tds.length) (ha : al k = true) (hd : dk k = (tdF tds k).length) :
    1 ≤ pot k ∧ Calls Try.prog 24 #[.pointer (some ⟨d, 0, none⟩), .int .i64 ((k : Int) + 1)] wr fun e w' => e = .returned (.int .i64 0) ∧ ML w d vt vals tds vl dl dk (upN al k false) (upN pot k 0) u Any w' := by
  obtain ⟨S, ⟨h1, h2, T, hT, h0⟩, hw, h3⟩ := h.rb.one
  obtain ⟨e1, hp, h4⟩ := h1.end_ hw hk ha hT h0 hd
  have hm := h.m12
  refine ⟨hp, Calls.mono (h3.call (e := fun e => e = .returned (.int .i64 0)) (P' := fun S => MI S tds.length (tdF tds) dk (upN al k false) (upN pot k 0) nobody ∧ S.used ≤ u ∧ Any S) fun S' X hS hP => ?_) fun e w' ⟨h1, h2⟩ => ⟨h1, h2, h.dd, h.dlen, h.m12⟩⟩
  subst hP
  refine (m_end hS _ (wf64 (by omega) (by omega))).mono ?_
  rintro e w' ⟨rfl, h5, h6⟩
  rw [e1]
  exact ⟨rfl, ⟨_, h5, h4, by rw [endC_used]; exact h2, trivial⟩, h6⟩

/-- What a task's call for its next lock comes to: got it, or not. -/
structure Lk (w : World) (d : Nat) (vt : Value) (vals : List Value) (tds : List (List Int)) (vl : Value) (dl : List Int) (dk : Nat → Nat) (al : Nat → Bool) (pot : Nat → Nat) (u k : Nat) (b : Bool) (wr : World) : Prop where
  rb : RB w d (fun S => MI S tds.length (tdF tds) (if b then upN dk k (dk k + 1) else dk) al (upN pot k (pot k - 1)) nobody ∧ S.used ≤ u ∧ Any S) vt vals tds vl dl wr
  dd : ∀ k, k < tds.length → dl[k]? = some (dk k : Int)
  dlen : dl.length = tds.length
  m12 : tds.length ≤ 12

theorem ML.lock {k : Nat} (h : ML w d vt vals tds vl dl dk al pot u (Rdy k) wr) (hk : k < tds.length) (ha : al k = true) (hu : u < 1000000) {n : Int} (hn : (tdF tds k)[dk k]? = some n) :
    1 ≤ pot k ∧ Calls Try.prog 21 #[.pointer (some ⟨d, 0, none⟩), .int .i64 ((k : Int) + 1), .int .i64 n] wr fun e w' => ∃ b, e = .returned (.tuple #[.bool b, .int .i64 0]) ∧ Lk w d vt vals tds vl dl dk al pot (u + 1) k b w' := by
  obtain ⟨S, ⟨h1, h2, T, hT, h0⟩, hw, h3⟩ := h.rb.one
  obtain ⟨b, e1, hp, h4⟩ := h1.lock hk ha hT h0 hn
  have hm := h.m12
  have hnb := (h1.td k hk).bd n (List.mem_of_getElem? hn)
  refine ⟨hp, Calls.mono (h3.call (e := fun e => e = .returned (.tuple #[.bool b, .int .i64 0])) (P' := fun S => MI S tds.length (tdF tds) (if b then upN dk k (dk k + 1) else dk) al (upN pot k (pot k - 1)) nobody ∧ S.used ≤ u + 1 ∧ Any S) fun S' X hS hP => ?_) fun e w' ⟨h1, h2⟩ => ⟨b, h1, h2, h.dd, h.dlen, h.m12⟩⟩
  subst hP
  refine (m_lock hS _ n (wf64 (by omega) (by omega)) (wf64 (by omega) (by omega)) (by omega)).mono ?_
  rintro e w' ⟨rfl, h5, h6⟩
  rw [e1]
  exact ⟨rfl, ⟨_, h5, h4, by have := lockC_used S' ((k : Int) + 1) n; omega, trivial⟩, h6⟩

theorem Lk.not {k : Nat} (h : Lk w d vt vals tds vl dl dk al pot u k false wr) : ML w d vt vals tds vl dl dk al (upN pot k (pot k - 1)) u Any wr := ⟨h.rb, h.dd, h.dlen, h.m12⟩
theorem Lk.got {k : Nat} (h : Lk w d vt vals tds vl dl dk al pot u k true wr) (hk : k < tds.length) :
    ∃ g, (∀ W, (Instr.indexAt 29 vl (.int .i64 k)).run Try.prog W = .ok (.pointer (some ⟨g, k, none⟩)) W) ∧ wr.cell? ⟨g, k, none⟩ = some (.int .i64 (dk k : Int)) ∧ wr.frozen? ⟨g, k, none⟩ = false ∧
      ML w d vt vals tds vl (dl.set k ((dk k : Int) + 1)) (upN dk k (dk k + 1)) al (upN pot k (pot k - 1)) u Any (wr.setCell ⟨g, k, none⟩ (.int .i64 ((dk k : Int) + 1))) := by
  have hl := h.dlen
  obtain ⟨g, hix, hc, hf, hr⟩ := h.rb.store (k := k) (by omega) ((dk k : Int) + 1)
  have hd := h.dd k hk
  have hx : dl[k]'(by omega) = (dk k : Int) := by
    obtain ⟨_, hx⟩ := List.getElem?_eq_some_iff.1 hd
    exact hx
  refine ⟨g, hix, by rw [hc, hx], hf, hr, fun j hj => ?_, by rw [List.length_set]; exact hl, h.m12⟩
  by_cases e : j = k
  · subst e; rw [upN_same, List.getElem?_set_self (by omega)]; rfl
  · rw [upN_other _ _ e, List.getElem?_set_ne (Ne.symm e)]; exact h.dd j hj

theorem ML.ready (h : ML w d vt vals tds vl dl dk al pot u Q wr) (h0 : ∀ k, k < tds.length → al k = false) :
    Calls Try.prog 12 #[.pointer (some ⟨d, 0, none⟩)] wr fun e w' => ∃ g c : Nat, e = .returned (.slice (some ⟨g, 0, none⟩) 0 c) ∧ ML w d vt vals tds vl dl dk al pot u Q w' := by
  obtain ⟨S, X, h1, h2, h3⟩ := h.rb.ex
  refine (m_ready h1).mono ?_
  rintro e w' ⟨g, c, rfl, ho, hf⟩
  rw [(h2.1.all_gone h1.wf h0).1]
  exact ⟨g, c, rfl, h.keep hf⟩
theorem ML.stuck0 (h : ML w d vt vals tds vl dl dk al pot u Q wr) (h0 : ∀ k, k < tds.length → al k = false) :
    Calls Try.prog 14 #[.pointer (some ⟨d, 0, none⟩)] wr fun e w' => e = .returned (.bool false) ∧ Fr (Out (Old w.heap.size)) w w' := by
  obtain ⟨S, X, h1, h2, h3⟩ := h.rb.ex
  refine (m_stuck h1).mono ?_
  rintro e w' ⟨rfl, hf⟩
  rw [(h2.1.all_gone h1.wf h0).2]
  exact ⟨rfl, h.rb.fr.trans hf fun _ _ hj => hj.elim⟩
end

end Go.Proofs.Ytnonidoeakhfdaa
