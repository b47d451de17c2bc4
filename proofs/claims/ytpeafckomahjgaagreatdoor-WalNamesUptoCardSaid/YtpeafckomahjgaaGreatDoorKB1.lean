/- A writer in memory, nil too: stopped, fail, lay, Done. -/
import Derived.Test.YtpeafckomahjgaaGreatDoorKA9
namespace Go.Proofs.YtpeafckomahjgaaGreatDoor
open Go.RowKit Go.Maps
set_option linter.unusedVariables false

/-- A writer: what was laid down, what was first wrong. -/
structure WS where
  data : List UInt8
  fault : Int
def WS.zero : WS := ⟨[], 0⟩
/-- as of a nil one nothing comes -/
def WS.none : WS := ⟨[], 1⟩
def WS.fail (S : WS) (e : Int) : WS := if S.fault = 0 then ⟨[], e⟩ else S
def WS.lay (S : WS) (m : List UInt8) : WS := if S.fault = 0 then (if m.length + S.data.length > 65536 then ⟨[], 23⟩ else ⟨S.data ++ m, 0⟩) else S

/-- a writer's pointer -/
def wpt (p : Option Nat) : Value := .pointer (p.map fun g => ⟨g, 0, Option.none⟩)
theorem wpt_some (g : Nat) : wpt (some g) = .pointer (some ⟨g, 0, Option.none⟩) := rfl
/-- How it lies: v is its row. -/
structure WAt (w : World) (p : Option Nat) (v : Value) (S : WS) : Prop where
  blk : ∀ g, p = some g → Blk w g 115 #[v, .int .i64 S.fault]
  row : RowB w v S.data
  nil : p = none → S = WS.none ∧ v = .slice none 0 0
  len : S.data.length ≤ 65536
/-- the blocks that are its own -/
def WFt (p : Option Nat) (v : Value) (k : Nat) : Prop := p = some k ∨ v.ownBlock = some k
/-- What a call may do beside it: nothing. -/
structure WL (p : Option Nat) (v : Value) (w : World) (v' : Value) (w' : World) : Prop where
  fr : Fr (WFt p v) w w'
  own : ∀ k, v'.ownBlock = some k → v.ownBlock = some k ∨ w.heap.size ≤ k

theorem WL.refl (p : Option Nat) (v : Value) (w : World) : WL p v w v w := ⟨Fr.refl _ _, fun _ h => .inl h⟩
theorem WL.trans {p : Option Nat} {v v1 v2 : Value} {w w1 w2 : World} (h : WL p v w v1 w1) (k : WL p v1 w1 v2 w2) : WL p v w v2 w2 :=
  ⟨h.fr.trans k.fr fun j hj hf => by
      rcases hf with e | e
      · exact .inl e
      · rcases h.own j e with e' | e'
        · exact .inr e'
        · omega,
   fun j hj => by
      rcases k.own j hj with e | e
      · exact h.own j e
      · exact .inr (Nat.le_trans h.fr.size e)⟩
theorem WL.below {p : Option Nat} {v : Value} {w w' : World} (h : Below w.heap.size w w') : WL p v w v w' := ⟨(Fr.of_below h).any, fun _ h => .inl h⟩
theorem WL.alloc {p : Option Nat} {v v' : Value} {w w' : World} (h : WL p v w v' w') (o : Obj) : WL p v w v' (w'.alloc o) := ⟨h.fr.alloc o, h.own⟩
theorem WL.alloc0 (p : Option Nat) (v : Value) (w : World) (o : Obj) : WL p v w v (w.alloc o) := (WL.refl p v w).alloc o
theorem WL.drewN {p : Option Nat} {v v' : Value} {w w' : World} (h : WL p v w v' w') (n : Nat) : WL p v w v' (w'.drewN n) := ⟨h.fr.drewN n, h.own⟩

theorem WAt.of {w w' : World} {p : Option Nat} {v : Value} {S : WS} (h : WAt w p v S) (hk : ∀ k, WFt p v k → w'.heap[k]? = w.heap[k]?) : WAt w' p v S :=
  ⟨fun g e => (h.blk g e).of (hk g (.inl e)), h.row.of fun k e => hk k (.inr e), h.nil, h.len⟩
theorem WAt.lt {w : World} {p : Option Nat} {v : Value} {S : WS} (h : WAt w p v S) : ∀ k, WFt p v k → k < w.heap.size := by
  rintro k (e | e)
  · exact (h.blk k e).lt
  · exact h.row.lt e
theorem WAt.below {w w' : World} {p : Option Nat} {v : Value} {S : WS} (h : WAt w p v S) (hb : Below w.heap.size w w') : WAt w' p v S := h.of fun k hk => hb.block k (h.lt k hk)
theorem WAt.keep {w w' : World} {p : Option Nat} {v : Value} {S : WS} (h : WAt w p v S) (hb : Fr No w w') : WAt w' p v S := h.of fun k hk => hb.block k (h.lt k hk) id
theorem WAt.alloc {w : World} {p : Option Nat} {v : Value} {S : WS} (h : WAt w p v S) (o : Obj) : WAt (w.alloc o) p v S := h.keep ((Fr.refl _ w).alloc o)
theorem WAt.new (w : World) : WAt (w.alloc (.cells #[.slice none 0 0, .int .i64 0] 115)) (some w.heap.size) (.slice none 0 0) WS.zero :=
  ⟨fun g e => by injection e with e; subst e; exact Blk.new w 115 _, RowB.nil _, fun e => (by cases e), by simp [WS.zero]⟩
theorem WAt.nilw (w : World) : WAt w none (.slice none 0 0) WS.none := ⟨fun g e => (by cases e), RowB.nil _, fun _ => ⟨rfl, rfl⟩, by simp [WS.none]⟩

/-- A call of a writer. -/
def WP (p : Option Nat) (v : Value) (w : World) (S' : WS) (e : Ending) (w' : World) : Prop := e = .returned (.tuple #[]) ∧ ∃ v', WAt w' p v' S' ∧ WL p v w v' w'

/-! ### stopped -/
theorem wstop_any (p : Option Nat) (v : Value) (S : WS) (w : World) (h : WAt w p v S) :
    Calls Tryz.prog 137 #[wpt p] w fun e w' => e = .returned (.bool (S.fault != 0)) ∧ w = w' := by
  cases p with
  | none =>
    obtain ⟨rfl, _⟩ := h.nil rfl
    unfold wpt
    go_enter Tryz.func137, Tryz.ntmps137
    go_wp2
    go_ret
    exact ⟨rfl, rfl⟩
  | some g =>
    have c1 : w.cell? ⟨g, 1, none⟩ = some (.int .i64 S.fault) := (h.blk g rfl).cell 1
    clear h
    rw [wpt_some]
    go_enter Tryz.func137, Tryz.ntmps137
    go_wp2
    go_ret
    exact ⟨rfl, rfl⟩
theorem wstop_no (p : Option Nat) (v : Value) (S : WS) (w : World) (h : WAt w p v S) (h0 : S.fault = 0) : Calls Tryz.prog 137 #[wpt p] w fun e w' => e = .returned (.bool false) ∧ w = w' := by
  have := wstop_any p v S w h
  rwa [h0] at this
theorem wstop_yes (p : Option Nat) (v : Value) (S : WS) (w : World) (h : WAt w p v S) (h0 : S.fault ≠ 0) : Calls Tryz.prog 137 #[wpt p] w fun e w' => e = .returned (.bool true) ∧ w = w' := by
  have := wstop_any p v S w h
  rwa [show (S.fault != 0) = true by simpa using h0] at this

/-! ### fail -/
theorem wfail_any (p : Option Nat) (v : Value) (S : WS) (n : Int) (w : World) (h : WAt w p v S) : Calls Tryz.prog 138 #[wpt p, .int .i64 n] w (WP p v w (S.fail n)) := by
  have hnot : ∀ (x : Bool) (w : World), (Op.unary .not (.bool x)).run Tryz.prog w = .ok (.bool (!x)) w := fun _ _ => rfl
  by_cases h0 : S.fault = 0
  · have HS := Lib.hid (wstop_no p v S w h h0)
    have HV : Hid (S.fail n = ⟨[], n⟩) := Lib.hid (by unfold WS.fail; rw [if_pos h0])
    obtain ⟨g, rfl⟩ : ∃ g, p = some g := by
      cases p with
      | none => obtain ⟨rfl, _⟩ := h.nil rfl; cases h0
      | some g => exact ⟨g, rfl⟩
    have hb := h.blk g rfl
    have c0 : w.cell? ⟨g, 0, none⟩ = some v := hb.cell 0
    have c1 : w.cell? ⟨g, 1, none⟩ = some (.int .i64 S.fault) := hb.cell 1
    have f0 := hb.frozen 0
    have f1 := hb.frozen 1
    have HB := Lib.hid hb
    clear h hb h0
    rw [wpt_some] at HS ⊢
    go_enter Tryz.func138, Tryz.ntmps138
    go_wp2_with (go_at_call 137; refine HS.out.mono ?_; rintro e w' ⟨rfl, rfl⟩)
    go_end0
    refine ⟨rfl, .slice none 0 0, ?_, ?_⟩
    · rw [HV.out]
      exact ⟨fun k e => by injection e with e; subst e; exact (HB.out.set_ 0 _).set_ 1 _, RowB.nil _, fun e => by (cases e), by simp⟩
    · exact ⟨((Fr.refl _ w).setCell (p := ⟨g, 0, none⟩) (fun _ => .inl rfl) _).setCell (p := ⟨g, 1, none⟩) (fun _ => .inl rfl) _, fun k e => by simp [Value.ownBlock] at e⟩
  · have HS := Lib.hid (wstop_yes p v S w h h0)
    have HV : Hid (S.fail n = S) := Lib.hid (by unfold WS.fail; rw [if_neg h0])
    have H := Lib.hid h
    clear h h0
    generalize wpt p = P at *
    go_enter Tryz.func138, Tryz.ntmps138
    go_wp2_with (go_at_call 137; refine HS.out.mono ?_; rintro e w' ⟨rfl, rfl⟩)
    go_end0
    exact ⟨rfl, v, by rw [HV.out]; exact H.out, WL.refl _ _ _⟩

/-! ### lay -/
theorem lay_no (p : Option Nat) (v : Value) (S : WS) (m : List UInt8) (w : World) (h : WAt w p v S) (h0 : S.fault ≠ 0) : Calls Tryz.prog 106 #[wpt p, sv m] w (WP p v w (S.lay m)) := by
  have HS := Lib.hid (wstop_yes p v S w h h0)
  have HV : Hid (S.lay m = S) := Lib.hid (by unfold WS.lay; rw [if_neg h0])
  have H := Lib.hid h
  clear h h0
  generalize wpt p = P at *
  go_enter Tryz.func106, Tryz.ntmps106
  go_wp2_with (go_at_call 137; refine HS.out.mono ?_; rintro e w' ⟨rfl, rfl⟩)
  go_end0
  exact ⟨rfl, v, by rw [HV.out]; exact H.out, WL.refl _ _ _⟩

set_option maxHeartbeats 400000 in
theorem lay_full (g : Nat) (v : Value) (S : WS) (m : List UInt8) (w : World) (h : WAt w (some g) v S) (h0 : S.fault = 0) (hm : m.length ≤ maxLen) (hf : 65536 < m.length + S.data.length) : Calls Tryz.prog 106 #[wpt (some g), sv m] w (WP (some g) v w (S.lay m)) := by
  have HS := Lib.hid (wstop_no _ v S w h h0)
  have HV : Hid (S.lay m = S.fail 23) := Lib.hid (by unfold WS.lay WS.fail; rw [if_pos h0, if_pos h0, if_pos (by omega)])
  have HF := Lib.hid (wfail_any _ v S 23 w h)
  have hl := h.len
  obtain ⟨A, c, rfl⟩ := h.row.len
  have c0 : w.cell? ⟨g, 0, none⟩ = some (.slice A S.data.length c) := (h.blk g rfl).cell 0
  clear h h0
  unfold maxLen at hm
  rw [wpt_some] at HS HF ⊢
  generalize S.data.length = n at *
  go_enter Tryz.func106, Tryz.ntmps106
  go_wp2_with (first | (go_at_call 137; refine HS.out.mono ?_; rintro e w' ⟨rfl, rfl⟩) | (go_at_call 138; refine HF.out.mono ?_; rintro e w' ⟨rfl, v', h1, h2⟩))
  go_end0
  exact ⟨rfl, v', by rw [HV.out]; exact h1, h2⟩
set_option maxHeartbeats 400000 in
theorem lay_ok (g : Nat) (v : Value) (S : WS) (m : List UInt8) (w : World) (h : WAt w (some g) v S) (h0 : S.fault = 0) (hf : m.length + S.data.length ≤ 65536) : Calls Tryz.prog 106 #[wpt (some g), sv m] w (WP (some g) v w (S.lay m)) := by
  have HS := Lib.hid (wstop_no _ v S w h h0)
  have HV : Hid (S.lay m = ⟨S.data ++ m, 0⟩) := Lib.hid (by unfold WS.lay; rw [if_pos h0, if_neg (by omega)])
  obtain ⟨v', w', hr, hrow, hgr, hown⟩ := h.row.run_put m 0 (by omega)
  obtain ⟨A', c', rfl⟩ := hrow.len
  have hb := h.blk g rfl
  have hne : ∀ k, v.ownBlock = some k → k ≠ g := by
    rintro k hk rfl
    obtain ⟨cur, hc⟩ := h.row.block hk
    exact Blk.ne_ (w := w) (t := 5) hc hb (by decide) rfl
  have hb' : Blk w' g 115 #[v, .int .i64 S.fault] := hb.of (hgr.block g hb.lt fun e => hne g e.symm rfl)
  have hfr : Fr (WFt (some g) v) w w' := (Fr.refl _ w).grown hgr fun k hk _ => .inr hk
  have hrow' : RowB (w'.setCell ⟨g, 0, none⟩ (.slice A' (S.data ++ m).length c')) (.slice A' (S.data ++ m).length c') (S.data ++ m) := hrow.of fun k hk => Below.heap_setCell w' ⟨g, 0, none⟩ (.slice A' (S.data ++ m).length c') k (by
    rcases hown k hk with e | e
    · exact hne k e
    · intro e2
      have e3 : k = g := e2
      have := hb.lt; omega)
  have hb0 : Blk (w'.setCell ⟨g, 0, none⟩ (.slice A' (S.data ++ m).length c')) g 115 #[.slice A' (S.data ++ m).length c', .int .i64 0] := by have := hb'.set_ 0 (.slice A' (S.data ++ m).length c'); rw [h0] at this; exact this
  have hle : (S.data ++ m).length ≤ 65536 := by rw [List.length_append]; omega
  obtain ⟨w2, hw2⟩ : ∃ w2, w'.setCell ⟨g, 0, none⟩ (.slice A' (S.data ++ m).length c') = w2 := ⟨_, rfl⟩
  have hfr2 : Fr (WFt (some g) v) w w2 := by rw [← hw2]; exact hfr.setCell (p := ⟨g, 0, none⟩) (fun _ => .inl rfl) _
  rw [hw2] at hrow' hb0
  have hwat : WAt w2 (some g) (.slice A' (S.data ++ m).length c') ⟨S.data ++ m, 0⟩ := by
    refine ⟨?_, ?_, ?_, ?_⟩
    · intro k e
      obtain rfl : g = k := Option.some.inj e
      exact hb0
    · exact hrow'
    · intro e; cases e
    · exact hle
  have H1 := Lib.hid hwat
  have H2 : Hid (WL (some g) v w (.slice A' (S.data ++ m).length c') w2) := Lib.hid ⟨hfr2, hown⟩
  have HW := Lib.hid hw2
  have hl := h.len
  obtain ⟨A, c, rfl⟩ := h.row.len
  have HR : Hid (∀ ty, (Builtin.append_ #[63, 9] ty #[.slice A S.data.length c, .string ⟨m.toArray⟩]).run Tryz.prog w = .ok (.slice A' (S.data ++ m).length c') w') := Lib.hid fun ty => hr
  have c0 : w.cell? ⟨g, 0, none⟩ = some (.slice A S.data.length c) := hb.cell 0
  have d0 : w'.cell? ⟨g, 0, none⟩ = some (.slice A S.data.length c) := hb'.cell 0
  have z0 := hb'.frozen 0
  clear h h0 hr hrow hgr hown hb hne hb' hfr hrow' hb0 hle hfr2 hw2 hwat
  rw [wpt_some] at HS ⊢
  generalize S.data.length = n at *
  generalize (S.data ++ m).length = n' at *
  go_enter Tryz.func106, Tryz.ntmps106
  go_wp2_with (first | (go_at_call 137; refine HS.out.mono ?_; rintro e w' ⟨rfl, rfl⟩) | (at_builtin; refine wpList_add rfl _ _ _ _ rfl _ _ _ _ rfl rfl (HR.out _) ?_; clear c0))
  go_end0
  exact ⟨rfl, _, by rw [HV.out, HW.out]; exact H1.out, by rw [HW.out]; exact H2.out⟩
theorem wlay_any (p : Option Nat) (v : Value) (S : WS) (m : List UInt8) (w : World) (h : WAt w p v S) (hm : m.length ≤ maxLen) : Calls Tryz.prog 106 #[wpt p, sv m] w (WP p v w (S.lay m)) := by
  by_cases h0 : S.fault = 0
  · obtain ⟨g, rfl⟩ : ∃ g, p = some g := by
      cases p with
      | none => obtain ⟨rfl, _⟩ := h.nil rfl; cases h0
      | some g => exact ⟨g, rfl⟩
    by_cases hf : m.length + S.data.length ≤ 65536
    · exact lay_ok g v S m w h h0 hf
    · exact lay_full g v S m w h h0 hm (by omega)
  · exact lay_no p v S m w h h0

/-! ### Done -/
def WDone (S : WS) (w : World) (e : Ending) (w' : World) : Prop := e = .returned (.tuple #[sv S.data, .int .i64 S.fault]) ∧ Fr No w w'
set_option maxHeartbeats 400000 in
theorem wdone_any (p : Option Nat) (v : Value) (S : WS) (w : World) (h : WAt w p v S) : Calls Tryz.prog 71 #[wpt p] w (WDone S w) := by
  cases p with
  | none =>
    obtain ⟨rfl, _⟩ := h.nil rfl
    unfold wpt
    go_enter Tryz.func71, Tryz.ntmps71
    go_wp2
    go_ret2
    exact ⟨rfl, Fr.refl _ _⟩
  | some g =>
    have hb := h.blk g rfl
    have c0 : w.cell? ⟨g, 0, none⟩ = some v := hb.cell 0
    have c1 : w.cell? ⟨g, 1, none⟩ = some (.int .i64 S.fault) := hb.cell 1
    have hcv : ∀ n, (convert 63 9 v).run Tryz.prog (w.drewN n) = .ok (sv S.data) (w.drewN n) := fun n => (h.row.of (w' := w.drewN n) fun _ _ => rfl).run_conv
    clear h hb
    rw [wpt_some]
    go_enter Tryz.func71, Tryz.ntmps71
    go_wp2
    go_quiet (fail)
    go_wp2
    go_ret2
    exact ⟨rfl, (Fr.refl _ w).drewN nq⟩
end Go.Proofs.YtpeafckomahjgaaGreatDoor
