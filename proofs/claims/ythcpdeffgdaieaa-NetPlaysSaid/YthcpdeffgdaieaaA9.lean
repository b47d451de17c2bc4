/- The calls of a net, by contract: Shut, Waits, Cut, New; of no net. -/
import Derived.Test.YthcpdeffgdaieaaA8
namespace Go.Proofs.Ythcpdeffgdaieaa
open Go.RowKit Go.Maps
set_option linter.unusedVariables false

/-! ### Shut -/
def LK.shutS (K : LK) (s : Bool) : LK := K.setW (!s) { K.way (!s) with shut := true }
def NS.shut (S : NS) (conn side : Int) : Int × NS :=
  match S.find conn side with
  | none => (14, S)
  | some (s, K) => if K.cut then (17, S.tell conn K s) else if (K.way (!s)).shut then (16, S) else (0, (S.setL conn (K.shutS s)).release conn (K.shutS s))

set_option maxHeartbeats 400000 in
theorem shut_err (p : Option Addr) (conn side : Int) (E : Int) (P : World → Prop) (w : World) (hE : E ≠ 0)
    (hr : Calls Try.prog 27 #[.pointer p, .int .i64 conn, .int .i64 side] w fun e w' => e = .returned (.tuple #[.pointer none, .int .i64 E]) ∧ P w') :
    Calls Try.prog 15 #[.pointer p, .int .i64 conn, .int .i64 side] w fun e w' => e = .returned (.int .i64 E) ∧ P w' := by
  have hb : (E != 0) = true := by simpa using hE
  clear hE
  go_enter Try.func15, Try.ntmps15
  go_wp2_with fail
  refine hr.mono ?_
  rintro e w' ⟨rfl, hP⟩
  have HP := Lib.hid hP; clear hP hr
  go_wp2
  go_ret
  exact ⟨rfl, HP.out⟩

set_option maxHeartbeats 400000 in
theorem shut_twice (p : Option Addr) (g : Nat) (conn : Int) (s : Bool) (w : World)
    (hr : Calls Try.prog 27 #[.pointer p, .int .i64 conn, .int .i64 (sd s)] w fun e w' => e = .returned (.tuple #[.pointer (some ⟨g, 0, none⟩), .int .i64 0]) ∧ w = w')
    (hc : w.cell? ⟨g, po (!s) + 2, none⟩ = some (.bool true)) :
    Calls Try.prog 15 #[.pointer p, .int .i64 conn, .int .i64 (sd s)] w fun e w' => e = .returned (.int .i64 16) ∧ w = w' := by
  have hf := from_any g s w
  go_enter Try.func15, Try.ntmps15
  go_wp2_with (first | (go_at_call 27; refine hr.mono ?_; rintro e w' ⟨rfl, rfl⟩) | (go_at_call 28; refine hf.mono ?_; rintro e w' ⟨rfl, rfl⟩))
  go_ret
  exact ⟨rfl, rfl⟩

theorem Turned.cell {g : Nat} {vv : Bool → Value} {w w1 : World} {K' : LK} (hl : LAt w1 g vv K' ∧ Fr (One g) w w1) : Turned g vv w K' w1 :=
  ⟨vv, hl.1, hl.2.mono fun k _ hk => (.inl hk : blkL g vv k), fun t k hk => .inl (.inr ⟨t, hk⟩)⟩

set_option maxRecDepth 100000 in
set_option maxHeartbeats 1000000 in
theorem shut_ok (d : Nat) (R : Rp) (S : NS) (conn : Int) (s : Bool) (K : LK) (w : World) (h : At w d R S) (hr : S.Right) (hw : (Lit.int .i64 conn).wf = true) (hK : S.link conn = some K) (hc : K.cut = false) (hs : (K.way (!s)).shut = false) :
    Calls Try.prog 15 #[.pointer (some ⟨d, 0, none⟩), .int .i64 conn, .int .i64 (sd s)] w fun e w' => e = .returned (.int .i64 0) ∧ Post d R S w ((S.setL conn (K.shutS s)).release conn (K.shutS s)) w' := by
  have hre := reach_ok d R S conn s K w h hw hK hc
  have hla := (h.lat hK).2
  have hwa := hla.wat (!s)
  have hf := from_any (R.rc conn).1 s w
  have c2 := hwa.c2
  rw [hs] at c2
  have f2 := hla.frozen (po (!s) + 2)
  have hL := hla.cell (po (!s) + 2) (.bool true) (cells_setS K _ (!s) true) fun t => setW_bytes_other K (!s) t _ rfl
  have HR := Lib.hid (release_turned d R S conn K (K.shutS s) w _ h hr hw hK (Turned.cell hL))
  clear h hr hw hK hc hs hla hwa hL
  go_enter Try.func15, Try.ntmps15
  go_wp2_with (first | (go_at_call 27; refine hre.mono ?_; rintro e w' ⟨rfl, rfl⟩) | (go_at_call 28; refine hf.mono ?_; rintro e w' ⟨rfl, rfl⟩))
  refine HR.out.mono ?_
  rintro e w3 ⟨rfl, hP⟩
  have HP := Lib.hid hP; clear hP HR
  go_wp2
  go_ret
  exact ⟨rfl, HP.out⟩

theorem shut_call (d : Nat) (R : Rp) (S : NS) (conn side : Int) (w : World) (h : At w d R S) (hW : WF S) (hw : (Lit.int .i64 conn).wf = true) :
    Calls Try.prog 15 #[.pointer (some ⟨d, 0, none⟩), .int .i64 conn, .int .i64 side] w fun e w' => e = .returned (.int .i64 (S.shut conn side).1) ∧ Post d R S w (S.shut conn side).2 w' := by
  rcases case_of S conn side with hn | ⟨s, K, rfl, hK, hc⟩ | ⟨s, K, rfl, hK, hc⟩
  · have e : S.shut conn side = (14, S) := by unfold NS.shut; rw [find_eq_none hn]
    rw [e]
    exact shut_err _ conn side 14 _ w (by omega) ((reach_no d R S conn side w h hw hn).mono fun e w' ⟨h1, h2⟩ => ⟨h1, h2 ▸ Post.refl h⟩)
  · have e : S.shut conn (sd s) = (17, S.tell conn K s) := by unfold NS.shut; rw [find_eq_some rfl hK]; simp only [hc, if_true]
    rw [e]
    exact shut_err _ conn (sd s) 17 _ w (by omega) (reach_cut d R S conn s K w h hW.right hw hK hc)
  · have hre := reach_ok d R S conn s K w h hw hK hc
    have hla := (h.lat hK).2
    cases hs : (K.way (!s)).shut
    · have e : S.shut conn (sd s) = (0, (S.setL conn (K.shutS s)).release conn (K.shutS s)) := by unfold NS.shut; rw [find_eq_some rfl hK]; simp [hc, hs]
      rw [e]
      exact shut_ok d R S conn s K w h hW.right hw hK hc hs
    · have e : S.shut conn (sd s) = (16, S) := by unfold NS.shut; rw [find_eq_some rfl hK]; simp [hc, hs]
      rw [e]
      refine (shut_twice _ _ conn s w hre ?_).mono fun e w' ⟨h1, h2⟩ => ⟨h1, h2 ▸ Post.refl h⟩
      rw [(hla.wat (!s)).c2, hs]

/-! ### Waits -/
def NS.waits (S : NS) (conn side : Int) : Int × Int :=
  match S.find conn side with
  | none => (0, 0)
  | some (s, K) => ((K.way s).mov, (K.way s).arr)

set_option maxHeartbeats 400000 in
theorem waits_none (p : Option Addr) (conn side : Int) (w : World)
    (hf : Calls Try.prog 37 #[.pointer p, .int .i64 conn, .int .i64 side] w fun e w' => e = .returned (.pointer none) ∧ w = w') :
    Calls Try.prog 16 #[.pointer p, .int .i64 conn, .int .i64 side] w fun e w' => e = .returned (.tuple #[.int .i64 0, .int .i64 0]) ∧ Fr No w w' := by
  go_enter Try.func16, Try.ntmps16
  go_wp2_with (go_at_call 37; refine hf.mono ?_; rintro e w' ⟨rfl, rfl⟩)
  go_ret2
  exact ⟨rfl, Fr.refl _ _⟩

set_option maxHeartbeats 1000000 in
theorem waits_some (p : Option Addr) (g : Nat) (v : Value) (W : WS) (conn : Int) (s : Bool) (w : World) (h : WAt w g (po s) v W) (hl : W.bytes.length ≤ 65536) (ha : W.arr ≤ W.bytes.length)
    (hf : Calls Try.prog 37 #[.pointer p, .int .i64 conn, .int .i64 (sd s)] w fun e w' => e = .returned (.pointer (some ⟨g, 0, none⟩)) ∧ w = w') :
    Calls Try.prog 16 #[.pointer p, .int .i64 conn, .int .i64 (sd s)] w fun e w' => e = .returned (.tuple #[.int .i64 W.mov, .int .i64 W.arr]) ∧ Fr No w w' := by
  have ht := to_any g s w
  have c1 := h.c1
  have hm : ∀ n, Calls Try.prog 33 #[.pointer (some ⟨g, po s, none⟩)] (w.drewN n) fun e w' => e = .returned (.int .i64 W.mov) ∧ ∃ m, w' = (w.drewN n).drewN m := fun n =>
    moving_any g (po s) v W (w.drewN n) ⟨h.c0, h.c1, h.c2, h.row.of fun _ _ => rfl⟩ hl ha
  have HM := fun n => Lib.hid (Calls.quiet_of (hm n))
  clear h hm hl ha
  go_enter Try.func16, Try.ntmps16
  go_wp2_with (first | (go_at_call 37; refine hf.mono ?_; rintro e w' ⟨rfl, rfl⟩) | (go_at_call 31; refine ht.mono ?_; rintro e w' ⟨rfl, rfl⟩))
  go_quiet ((go_at_call 33; exact (HM _).out))
  go_wp2
  go_ret2
  exact ⟨rfl, (Fr.refl _ _).drewN _⟩

theorem waits_call (d : Nat) (R : Rp) (S : NS) (conn side : Int) (w : World) (h : At w d R S) (hW : WF S) (hw : (Lit.int .i64 conn).wf = true) :
    Calls Try.prog 16 #[.pointer (some ⟨d, 0, none⟩), .int .i64 conn, .int .i64 side] w fun e w' => e = .returned (.tuple #[.int .i64 (S.waits conn side).1, .int .i64 (S.waits conn side).2]) ∧ Fr No w w' := by
  by_cases hn : ∀ s, side = sd s → S.link conn = none
  · have e : S.waits conn side = (0, 0) := by unfold NS.waits; rw [find_eq_none hn]
    rw [e]
    refine waits_none _ conn side w ?_
    by_cases h0 : side = 0
    · have := find_no d R S conn false w h hw (hn false h0); rw [h0]; exact this
    · by_cases h1 : side = 1
      · have := find_no d R S conn true w h hw (hn true h1); rw [h1]; exact this
      · exact find_bad d conn side w h0 h1
  · obtain ⟨s, rfl, K, hK⟩ : ∃ s, side = sd s ∧ ∃ K, S.link conn = some K := by
      simp only [Classical.not_forall] at hn
      obtain ⟨s, hs, hl⟩ := hn
      refine ⟨s, hs, ?_⟩
      cases hK : S.link conn with
      | none => exact absurd hK hl
      | some K => exact ⟨K, rfl⟩
    have e : S.waits conn (sd s) = ((K.way s).mov, ((K.way s).arr : Int)) := by unfold NS.waits; rw [find_eq_some rfl hK]
    rw [e]
    have hwy := hW.way conn K s hK
    exact waits_some _ _ _ _ conn s w ((h.lat hK).2.wat s) hwy.2 hwy.1 (find_yes d R S conn s K w h hw hK)

/-! ### New -/
def NS.zero : NS := ⟨0, [], fun _ => none⟩
def Rp.zero : Rp := ⟨none, fun _ => (0, fun _ => .slice none 0 0), .map []⟩
theorem zero_at {w : World} {d : Nat} (h : Blk w d 53 #[.map none, .int .i64 0]) : At w d Rp.zero NS.zero where
  blk := h
  map := rfl
  fd n := rfl
  ap := fun n m K Q _ hK => by cases hK
  sz := rfl
theorem zero_wf : WF NS.zero where
  right := ⟨List.Pairwise.nil, fun n => by simp [NS.zero]⟩
  keys := fun n hn => by cases hn
  last := by decide
  way := fun n K s hK => by cases hK
theorem zero_foot {d k : Nat} (h : foot d Rp.zero NS.zero k) : k = d := by
  rcases h with h | h | ⟨n, K, hK, _⟩
  · exact h
  · cases h
  · cases hK

set_option maxHeartbeats 400000 in
theorem new_any (w : World) : Calls Try.prog 8 #[] w fun e w' => e = .returned (.pointer (some ⟨w.heap.size, 0, none⟩)) ∧ w' = w.alloc (.cells #[.map none, .int .i64 0] 53) := by
  go_enter Try.func8, Try.ntmps8
  go_wp2
  go_ret
  exact ⟨rfl, rfl⟩

/-! ### of no net -/
theorem move_nil (conn side many : Int) (w : World) : Calls Try.prog 13 #[.pointer none, .int .i64 conn, .int .i64 side, .int .i64 many] w fun e w' => e = .returned (.tuple #[.int .i64 0, .int .i64 1]) ∧ w = w' :=
  move_err none conn side many 1 (fun w' => w = w') w (by omega) (reach_nil conn side w)
theorem take_nil (conn side many : Int) (w : World) : Calls Try.prog 14 #[.pointer none, .int .i64 conn, .int .i64 side, .int .i64 many] w fun e w' => e = .returned (.tuple #[.string ⟨([] : List UInt8).toArray⟩, .int .i64 1]) ∧ w = w' :=
  take_err none conn side many 1 (fun w' => w = w') w (by omega) (reach_nil conn side w)
theorem shut_nil (conn side : Int) (w : World) : Calls Try.prog 15 #[.pointer none, .int .i64 conn, .int .i64 side] w fun e w' => e = .returned (.int .i64 1) ∧ w = w' :=
  shut_err none conn side 1 (fun w' => w = w') w (by omega) (reach_nil conn side w)
theorem waits_nil (conn side : Int) (w : World) : Calls Try.prog 16 #[.pointer none, .int .i64 conn, .int .i64 side] w fun e w' => e = .returned (.tuple #[.int .i64 0, .int .i64 0]) ∧ Fr No w w' :=
  waits_none none conn side w (find_nil conn side w)
set_option maxHeartbeats 400000 in
theorem cut_nil (conn : Int) (w : World) : Calls Try.prog 17 #[.pointer none, .int .i64 conn] w fun e w' => e = .returned (.int .i64 1) ∧ w = w' := by
  go_enter Try.func17, Try.ntmps17
  go_wp2
  go_ret
  exact ⟨rfl, rfl⟩
set_option maxHeartbeats 400000 in
theorem open_nil (w : World) : Calls Try.prog 11 #[.pointer none] w fun e w' => e = .returned (.tuple #[.int .i64 0, .int .i64 1]) ∧ w = w' := by
  go_enter Try.func11, Try.ntmps11
  go_wp2
  go_ret2
  exact ⟨rfl, rfl⟩
set_option maxHeartbeats 400000 in
theorem conns_nil (w : World) : Calls Try.prog 10 #[.pointer none] w fun e w' => e = .returned (.slice none 0 0) ∧ w = w' := by
  go_enter Try.func10, Try.ntmps10
  go_wp2
  go_ret
  exact ⟨rfl, rfl⟩

end Go.Proofs.Ythcpdeffgdaieaa
