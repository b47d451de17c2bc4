/- The calls as a law sees them; the law awake. -/
import Derived.Test.YtnonidoeakhfdaaB7
namespace Go.Proofs.Ytnonidoeakhfdaa
open Go.RowKit Go.Maps Go.Sort
set_option linter.unusedVariables false

/-! ### a scheduler beside what a law has of its own -/
/-- The scheduler lies outside X, all of which is there. -/
structure Sc (w : World) (X : Nat → Prop) (d : Nat) (S : SS) : Prop where
  ex : ∃ R, At w d R S ∧ ∀ k, foot d R S k → ¬ X k
  wf : WF S
  there : ∀ k, X k → k < w.heap.size
def Out (X : Nat → Prop) (k : Nat) : Prop := ¬ X k

section
variable {w w' : World} {X : Nat → Prop} {d : Nat} {S S' : SS}
theorem Sc.turn (hX : ∀ k, X k → k < w.heap.size) {R : Rp} (hR : ∀ k, foot d R S k → ¬ X k) (hw : WF S') (hp : Post d R S w S' w') : Sc w' X d S' ∧ Fr (Out X) w w' := by
  obtain ⟨R', h1, h2, h3⟩ := hp
  refine ⟨⟨⟨R', h1, fun k hk hx => ?_⟩, hw, fun k hk => Nat.lt_of_lt_of_le (hX k hk) h2.size⟩, h2.mono fun k _ hk => hR k hk⟩
  rcases h3 k hk with hk | hk
  · exact hR k hk hx
  · have := hX k hx; omega
theorem Sc.keep (h : Sc w X d S) (hf : Fr No w w') : Sc w' X d S :=
  ⟨by obtain ⟨R, hA, hR⟩ := h.ex; exact ⟨R, hA.keep hf, hR⟩, h.wf, fun k hk => Nat.lt_of_lt_of_le (h.there k hk) hf.size⟩
/-- What is the law's own may turn. -/
theorem Sc.own (h : Sc w X d S) (hf : Fr X w w') : Sc w' X d S :=
  ⟨by obtain ⟨R, hA, hR⟩ := h.ex; exact ⟨R, hA.fr hf fun k hx hk => hR k hk hx, hR⟩, h.wf, fun k hk => Nat.lt_of_lt_of_le (h.there k hk) hf.size⟩
theorem Sc.less (h : Sc w X d S) {Y : Nat → Prop} (hY : ∀ k, Y k → X k) : Sc w Y d S :=
  ⟨by obtain ⟨R, hA, hR⟩ := h.ex; exact ⟨R, hA, fun k hk hy => hR k hk (hY k hy)⟩, h.wf, fun k hk => h.there k (hY k hk)⟩
/-- New blocks are the law's own. -/
theorem Sc.grow (h : Sc w X d S) (hf : Fr X w w') : Sc w' (fun k => X k ∨ (w.heap.size ≤ k ∧ k < w'.heap.size)) d S := by
  refine ⟨?_, h.wf, fun k hk => ?_⟩
  · obtain ⟨R, hA, hR⟩ := h.ex
    refine ⟨R, hA.fr hf fun k hx hk => hR k hk hx, fun k hk hx => ?_⟩
    rcases hx with hx | hx
    · exact hR k hk hx
    · have := hA.lt k hk; omega
  · rcases hk with hk | hk
    · exact Nat.lt_of_lt_of_le (h.there k hk) hf.size
    · exact hk.2

theorem m_start (h : Sc w X d S) (hu : S.used < 1000000) :
    Calls Try.prog 20 #[.pointer (some ⟨d, 0, none⟩)] w fun e w' => e = .returned (.tuple #[.int .i64 S.started.1.1, .int .i64 S.started.1.2]) ∧ Sc w' X d S.started.2 ∧ Fr (Out X) w w' := by
  obtain ⟨R, hA, hR⟩ := h.ex
  exact (start_call d R S w hA h.wf).mono fun e w' ⟨h1, h2⟩ => ⟨h1, Sc.turn h.there hR (h.wf.started hu) h2⟩
theorem m_end (h : Sc w X d S) (t : Int) (ht : (Lit.int .i64 t).wf = true) :
    Calls Try.prog 24 #[.pointer (some ⟨d, 0, none⟩), .int .i64 t] w fun e w' => e = .returned (.int .i64 (S.endC t).1) ∧ Sc w' X d (S.endC t).2 ∧ Fr (Out X) w w' := by
  obtain ⟨R, hA, hR⟩ := h.ex
  exact (end_call d R S t w hA h.wf ht).mono fun e w' ⟨h1, h2⟩ => ⟨h1, Sc.turn h.there hR (h.wf.endC t) h2⟩
theorem m_pick (h : Sc w X d S) (n : Int) (hn : -9223372036854775808 ≤ n ∧ n ≤ 9223372036854775807) (hu : S.used < 1000000) :
    Calls Try.prog 23 #[.pointer (some ⟨d, 0, none⟩), .int .i64 n] w fun e w' => e = .returned (.tuple #[.int .i64 (S.pick n).1.1, .bool (S.pick n).1.2]) ∧ Sc w' X d (S.pick n).2 ∧ Fr (Out X) w w' := by
  obtain ⟨R, hA, hR⟩ := h.ex
  exact (pick_call d R S n w hA h.wf hn).mono fun e w' ⟨h1, h2⟩ => ⟨h1, Sc.turn h.there hR (h.wf.pick hu n) h2⟩
theorem wf_up {n : Int} (h : (Lit.int .i64 n).wf = true) : -9223372036854775808 ≤ n ∧ n ≤ 9223372036854775807 := by
  simp only [Lit.wf, Bool.and_eq_true, decide_eq_true_eq] at h
  simp [IntKind.min, IntKind.max, IntKind.signed, IntKind.bits] at h
  omega
theorem m_lock (h : Sc w X d S) (t n : Int) (ht : (Lit.int .i64 t).wf = true) (hn : (Lit.int .i64 n).wf = true) (hu : S.used < 1000000) :
    Calls Try.prog 21 #[.pointer (some ⟨d, 0, none⟩), .int .i64 t, .int .i64 n] w fun e w' => e = .returned (.tuple #[.bool (S.lockC t n).1.1, .int .i64 (S.lockC t n).1.2]) ∧ Sc w' X d (S.lockC t n).2 ∧ Fr (Out X) w w' := by
  obtain ⟨R, hA, hR⟩ := h.ex
  exact (lock_call d R S t n w hA h.wf ht hn).mono fun e w' ⟨h1, h2⟩ => ⟨h1, Sc.turn h.there hR (h.wf.lockC hu t n (wf_up hn).2) h2⟩
theorem m_unlock (h : Sc w X d S) (t n : Int) (ht : (Lit.int .i64 t).wf = true) (hn : (Lit.int .i64 n).wf = true) :
    Calls Try.prog 22 #[.pointer (some ⟨d, 0, none⟩), .int .i64 t, .int .i64 n] w fun e w' => e = .returned (.int .i64 (S.unlockC t n).1) ∧ Sc w' X d (S.unlockC t n).2 ∧ Fr (Out X) w w' := by
  obtain ⟨R, hA, hR⟩ := h.ex
  exact (unlock_call d R S t n w hA h.wf ht hn).mono fun e w' ⟨h1, h2⟩ => ⟨h1, Sc.turn h.there hR (h.wf.unlockC t n) h2⟩
theorem m_await (h : Sc w X d S) (t n : Int) (ht : (Lit.int .i64 t).wf = true) (hn : (Lit.int .i64 n).wf = true) :
    Calls Try.prog 25 #[.pointer (some ⟨d, 0, none⟩), .int .i64 t, .int .i64 n] w fun e w' => e = .returned (.tuple #[.bool (S.awaitC t n).1.1, .int .i64 (S.awaitC t n).1.2]) ∧ Sc w' X d (S.awaitC t n).2 ∧ Fr (Out X) w w' := by
  obtain ⟨R, hA, hR⟩ := h.ex
  exact (await_call d R S t n w hA h.wf ht hn).mono fun e w' ⟨h1, h2⟩ => ⟨h1, Sc.turn h.there hR (h.wf.awaitC t n) h2⟩
theorem m_open (h : Sc w X d S) (n : Int) (hn : (Lit.int .i64 n).wf = true) (hu : S.used < 1000000) :
    Calls Try.prog 26 #[.pointer (some ⟨d, 0, none⟩), .int .i64 n] w fun e w' => e = .returned (.int .i64 (S.openC n).1) ∧ Sc w' X d (S.openC n).2 ∧ Fr (Out X) w w' := by
  obtain ⟨R, hA, hR⟩ := h.ex
  exact (open_call d R S n w hA h.wf hu hn).mono fun e w' ⟨h1, h2⟩ => ⟨h1, Sc.turn h.there hR (h.wf.openC hu n) h2⟩
theorem m_ready (h : Sc w X d S) : Calls Try.prog 12 #[.pointer (some ⟨d, 0, none⟩)] w (Told S.ready w) := by
  obtain ⟨R, hA, hR⟩ := h.ex
  exact ready_call d R S w hA h.wf
theorem m_stuck (h : Sc w X d S) : Calls Try.prog 14 #[.pointer (some ⟨d, 0, none⟩)] w fun e w' => e = .returned (.bool S.stuck) ∧ Fr No w w' := by
  obtain ⟨R, hA, hR⟩ := h.ex
  exact stuck_call d R S w hA h.wf
theorem m_holder (h : Sc w X d S) (n : Int) (hn : (Lit.int .i64 n).wf = true) : Calls Try.prog 16 #[.pointer (some ⟨d, 0, none⟩), .int .i64 n] w fun e w' => e = .returned (.int .i64 (S.holderC n)) ∧ w = w' := by
  obtain ⟨R, hA, hR⟩ := h.ex
  exact holder_any d R S n w hA hn
theorem m_picks (h : Sc w X d S) (n : Int) (hn : (Lit.int .i64 n).wf = true) : Calls Try.prog 18 #[.pointer (some ⟨d, 0, none⟩), .int .i64 n] w fun e w' => e = .returned (.int .i64 (S.picksC n)) ∧ w = w' := by
  obtain ⟨R, hA, hR⟩ := h.ex
  exact picks_any d R S n w hA hn
theorem m_new (X : Nat → Prop) (hX : ∀ k, X k → k < w.heap.size) :
    Calls Try.prog 10 #[] w fun e w' => ∃ d, e = .returned (.pointer (some ⟨d, 0, none⟩)) ∧ Sc w' X d SS.zero ∧ Fr No w w' := by
  refine (new_any w).mono fun e w' ⟨h1, h2⟩ => ⟨_, h1, ?_⟩
  subst h2
  refine ⟨⟨⟨Rp.zero, zero_at (Blk.new w 56 _), fun k hk hx => ?_⟩, zero_wf, fun k hk => ?_⟩, (Fr.refl _ w).alloc _⟩
  · have := hX k hx
    have := zero_foot hk
    omega
  · have := hX k hk; simp; omega
end

/-- The law's own: what was there ahead of it. -/
def Old (B : Nat) (k : Nat) : Prop := k < B
theorem frO {X : Nat → Prop} {a b c : World} (h : Fr (Out X) a b) (k : Fr (Out X) b c) : Fr (Out X) a c := h.trans k fun _ _ hj => hj
theorem bel_of {B : Nat} {w w' : World} (h : Fr (Out (Old B)) w w') (hB : B ≤ w.heap.size) : Below B w w' := h.below_of hB fun k hk => by unfold Out Old at hk; omega
theorem frO_bel {B : Nat} {w w' : World} (h : Below B w w') : Fr (Out (Old B)) w w' := ⟨h.os, h.tape, h.output, h.size, fun k _ hk => h.block k (by unfold Out Old at hk; omega)⟩

def A1 : SS := SS.zero.started.2
def A2 : SS := A1.started.2
def A3 : SS := (A2.pick 3).2
def A4 : SS := (A3.lockC 1 7).2
def A5 : SS := (A4.lockC 2 7).2
def A6 : SS := (A5.unlockC 1 7).2
theorem aw1 : SS.zero.started.1 = (1, 0) := by kernel_rfl
theorem aw2 : A1.started.1 = (2, 0) := by kernel_rfl
theorem aw3 : (A2.pick 3).1 = (2, true) := by kernel_rfl
theorem aw4 : (A3.lockC 1 7).1 = (true, 0) := by kernel_rfl
theorem aw5 : (A4.lockC 2 7).1 = (false, 0) := by kernel_rfl
theorem aw6 : A5.ready = [1] := by kernel_rfl
theorem aw7 : (A5.unlockC 1 7).1 = 0 := by kernel_rfl
theorem aw8 : A6.holderC 7 = 2 := by kernel_rfl
theorem aw9 : A6.picksC 2 = 1 := by kernel_rfl
theorem aw10 : A6.stuck = false := by kernel_rfl
theorem aw11 : (A6.endC 9).1 = 18 := by kernel_rfl

set_option maxRecDepth 100000 in
set_option maxHeartbeats 4000000 in
theorem awake_any (w : World) : Calls Try.prog 9 #[] w fun e w' => e = .returned (.bool true) ∧ Below w.heap.size w w' := by
  go_enter Try.func9, Try.ntmps9
  go_wp2_with fail
  refine (m_new (Old w.heap.size) fun k hk => hk).mono ?_
  rintro e w1 ⟨d, rfl, h0, f0⟩
  have H0 := Lib.hid h0
  have F0 := Lib.hid (show Fr (Out (Old w.heap.size)) w w1 from f0.any)
  clear h0 f0
  go_wp2_with fail
  refine (m_start H0.out (by decide)).mono ?_
  rintro e w2 ⟨rfl, h1, f1⟩
  rw [aw1]
  have H1 := Lib.hid (show Sc w2 (Old w.heap.size) d A1 from h1)
  have F1 := Lib.hid (frO F0.out f1)
  clear H0 F0 h1 f1
  go_wp2_with fail
  refine (m_start H1.out (by decide)).mono ?_
  rintro e w3 ⟨rfl, h1, f1⟩
  rw [aw2]
  have H2 := Lib.hid (show Sc w3 (Old w.heap.size) d A2 from h1)
  have F2 := Lib.hid (frO F1.out f1)
  clear H1 F1 h1 f1
  go_wp2_with fail
  refine (m_pick H2.out 3 (by omega) (by decide)).mono ?_
  rintro e w4 ⟨rfl, h1, f1⟩
  rw [aw3]
  have H3 := Lib.hid (show Sc w4 (Old w.heap.size) d A3 from h1)
  have F3 := Lib.hid (frO F2.out f1)
  clear H2 F2 h1 f1
  go_wp2_with fail
  refine (m_lock H3.out 1 7 (by decide) (by decide) (by decide)).mono ?_
  rintro e w5 ⟨rfl, h1, f1⟩
  rw [aw4]
  have H4 := Lib.hid (show Sc w5 (Old w.heap.size) d A4 from h1)
  have F4 := Lib.hid (frO F3.out f1)
  clear H3 F3 h1 f1
  go_wp2_with fail
  refine (m_lock H4.out 2 7 (by decide) (by decide) (by decide)).mono ?_
  rintro e w6 ⟨rfl, h1, f1⟩
  rw [aw5]
  have H5 := Lib.hid (show Sc w6 (Old w.heap.size) d A5 from h1)
  have F5 := Lib.hid (frO F4.out f1)
  clear H4 F4 h1 f1
  go_wp2_with fail
  refine (m_ready H5.out).mono ?_
  rintro e w7 ⟨g, cap, rfl, ho, hf⟩
  rw [aw6]
  have H6 := Lib.hid (H5.out.keep hf)
  have F6 := Lib.hid (frO F5.out hf.any)
  clear H5 F5 ho hf
  go_wp2_with fail
  refine (m_unlock H6.out 1 7 (by decide) (by decide)).mono ?_
  rintro e w8 ⟨rfl, h1, f1⟩
  rw [aw7]
  have H7 := Lib.hid (show Sc w8 (Old w.heap.size) d A6 from h1)
  have F7 := Lib.hid (frO F6.out f1)
  clear H6 F6 h1 f1
  go_wp2_with fail
  refine (m_holder H7.out 7 (by decide)).mono ?_
  rintro e w9 ⟨rfl, rfl⟩
  rw [aw8]
  go_wp2_with fail
  refine (m_picks H7.out 2 (by decide)).mono ?_
  rintro e w9 ⟨rfl, rfl⟩
  rw [aw9]
  go_wp2_with fail
  refine (m_stuck H7.out).mono ?_
  rintro e w9 ⟨rfl, f1⟩
  rw [aw10]
  have H8 := Lib.hid (H7.out.keep f1)
  have F8 := Lib.hid (frO F7.out f1.any)
  clear H7 F7 f1
  go_wp2_with fail
  refine (m_end H8.out 9 (by decide)).mono ?_
  rintro e w10 ⟨rfl, h1, f1⟩
  rw [aw11]
  have HB := Lib.hid (bel_of (frO F8.out f1) (Nat.le_refl _))
  clear H8 F8 h1 f1
  go_wp2
  go_ret
  exact ⟨rfl, HB.out⟩

end Go.Proofs.Ytnonidoeakhfdaa
