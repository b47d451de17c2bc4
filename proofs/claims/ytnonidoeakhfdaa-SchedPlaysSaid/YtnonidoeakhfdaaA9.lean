/- Pick. -/
import Derived.Test.YtnonidoeakhfdaaA8
namespace Go.Proofs.Ytnonidoeakhfdaa
open Go.RowKit Go.Maps Go.Sort
set_option linter.unusedVariables false

def SS.setT (S : SS) (n : Int) (T : TS) : SS := { S with task := upd S.task n (some T) }
theorem At.setT {w w' : World} {d : Nat} {R : Rp} {S : SS} (h : At w d R S) {n : Int} {T T' : TS} (hT : S.task n = some T) (hf : Fr (One (R.t.c n).1) w w') (hb : Blk w' (R.t.c n).1 79 T'.cells) : Post d R S w (S.setT n T') w' := by
  have h2 := (h.t.get hT).2.2
  exact (h.turnT (PTset (x' := T') (v' := (R.t.c n).2) h.t hT (hf.mono fun k _ hk => .inl hk) ⟨hb, h2⟩ fun k hk => by rw [h2] at hk; cases hk) rfl).post

def SS.picked (S : SS) (n : Int) : SS :=
  match S.task n with
  | none => S
  | some T => { S.setT n { T with picks := T.picks + 1 } with used := S.used + 1 }
def pk (n : Int) : Int := if n < 0 then -(n + 1) else n
def SS.pickT (S : SS) (n : Int) : Int := S.ready.getD (pk n % (S.ready.length : Int)).toNat 0
def SS.pick (S : SS) (n : Int) : (Int × Bool) × SS := if S.ready.isEmpty then ((0, false), S) else ((S.pickT n, true), S.picked (S.pickT n))

theorem ready_mem {S : SS} (hr : Rt S.keys S.task) {t : Int} (h : t ∈ S.ready) : ∃ T, S.task t = some T ∧ T.kind = 0 := by
  unfold SS.ready SS.those at h
  rw [List.mem_filter] at h
  cases hT : S.task t with
  | none => rw [hT] at h; simp at h
  | some T => rw [hT] at h; exact ⟨T, rfl, by simpa [rdy] using h.2⟩

theorem pick_nil (n : Int) (w : World) : Calls Try.prog 23 #[.pointer none, .int .i64 n] w fun e w' => e = .returned (.tuple #[.int .i64 0, .bool false]) ∧ w = w' := by
  go_enter Try.func23, Try.ntmps23
  go_wp2_with (go_at_call 12; refine (ready_nil _).mono ?_; rintro e w' ⟨rfl, rfl⟩)
  go_ret2
  exact ⟨rfl, rfl⟩

set_option maxHeartbeats 400000 in
theorem pick_none (d : Nat) (R : Rp) (S : SS) (n : Int) (w : World) (h : At w d R S) (hW : WF S) (he : S.ready.isEmpty = true) :
    Calls Try.prog 23 #[.pointer (some ⟨d, 0, none⟩), .int .i64 n] w fun e w' => e = .returned (.tuple #[.int .i64 0, .bool false]) ∧ Fr No w w' := by
  have hr := ready_call d R S w h hW
  have h0 : S.ready = [] := List.isEmpty_iff.1 he
  rw [h0] at hr
  clear h hW he h0
  go_enter Try.func23, Try.ntmps23
  go_wp2_with (go_at_call 12; refine hr.mono ?_; rintro e w' ⟨g, cap, rfl, ho, hf⟩; have HF := Lib.hid hf; clear ho hf)
  go_ret2
  exact ⟨rfl, HF.out⟩

/-- What Pick does once it knows the tasks that are ready. -/
structure PickAt (d : Nat) (m : Option Nat) (tb : Nat) (t pc : Int) (P : World → Prop) (w1 : World) : Prop where
  c0 : w1.cell? ⟨d, 0, none⟩ = some (.map m)
  look : (Instr.lookup 52 (.map m) (.int .i64 t) false).run Try.prog w1 = .ok (.pointer (some ⟨tb, 0, none⟩)) w1
  add : Calls Try.prog 43 #[.pointer (some ⟨tb, 0, none⟩), .int .i64 1] w1 (fun e w' => e = .returned (.int .i64 pc) ∧ P w')

set_option maxRecDepth 100000 in
set_option maxHeartbeats 1000000 in
theorem pick_run (d : Nat) (om : Option Nat) (tb : Nat) (pc : Int) (P : World → Prop) (n m t : Int) (L : List Int) (w : World) (hr : Calls Try.prog 12 #[.pointer (some ⟨d, 0, none⟩)] w (Told L w))
    (hm : pk n = m) (hn : -9223372036854775808 ≤ n ∧ n ≤ 9223372036854775807) (h0 : 0 < L.length) (h1 : L.length ≤ 64) (hget : L[(m % (L.length : Int)).toNat]? = some t) (hE : ∀ w1, Fr No w w1 → PickAt d om tb t pc P w1) :
    Calls Try.prog 23 #[.pointer (some ⟨d, 0, none⟩), .int .i64 n] w fun e w' => e = .returned (.tuple #[.int .i64 t, .bool true]) ∧ P w' := by
  have hm0 : 0 ≤ m := by rw [← hm]; unfold pk; split <;> omega
  have hp0 : (0 : Int) < (L.length : Int) := by omega
  have hp1 : (L.length : Int) ≤ 64 := by omega
  have hx0 : 0 ≤ m % (L.length : Int) := Int.emod_nonneg _ (by omega)
  have hx1 : m % (L.length : Int) < (L.length : Int) := Int.emod_lt_of_pos _ (by omega)
  have HG := Lib.hid hget
  have HE := Lib.hid hE
  clear hget hE h0 h1
  by_cases hneg : n < 0
  · have e1 : -(n + 1) = m := by rw [← hm]; unfold pk; rw [if_pos hneg]
    clear hm
    go_enter Try.func23, Try.ntmps23
    go_wp2_with (first
      | (go_at_call 12; refine hr.mono ?_; rintro e w' ⟨g, cap, rfl, ho, hf⟩; obtain ⟨q1, q2, q3⟩ := HE.out w' hf; have Q3 := Lib.hid q3; have hcell := World.ownsRow.cells ho (g := g) rfl _ _ (by rw [List.getElem?_map, HG.out]; rfl); rw [Addr.add_lit, Nat.zero_add] at hcell; clear ho hf hr q3)
      | (go_at_call 43; refine Q3.out.mono ?_; rintro e w' ⟨rfl, hp⟩; have HP := Lib.hid hp; clear hp))
    go_ret2
    exact ⟨rfl, HP.out⟩
  · have e1 : n = m := by rw [← hm]; unfold pk; rw [if_neg hneg]
    subst e1
    clear hm
    go_enter Try.func23, Try.ntmps23
    go_wp2_with (first
      | (go_at_call 12; refine hr.mono ?_; rintro e w' ⟨g, cap, rfl, ho, hf⟩; obtain ⟨q1, q2, q3⟩ := HE.out w' hf; have Q3 := Lib.hid q3; have hcell := World.ownsRow.cells ho (g := g) rfl _ _ (by rw [List.getElem?_map, HG.out]; rfl); rw [Addr.add_lit, Nat.zero_add] at hcell; clear ho hf hr q3)
      | (go_at_call 43; refine Q3.out.mono ?_; rintro e w' ⟨rfl, hp⟩; have HP := Lib.hid hp; clear hp))
    go_ret2
    exact ⟨rfl, HP.out⟩

theorem pickT_get {S : SS} (hpos : 0 < S.ready.length) (n : Int) : S.ready[(pk n % (S.ready.length : Int)).toNat]? = some (S.pickT n) := by
  have hm0 : 0 ≤ pk n % (S.ready.length : Int) := Int.emod_nonneg _ (by omega)
  have hm1 : pk n % (S.ready.length : Int) < (S.ready.length : Int) := Int.emod_lt_of_pos _ (by omega)
  have hlt : (pk n % (S.ready.length : Int)).toNat < S.ready.length := by omega
  unfold SS.pickT
  rw [List.getD_eq_getElem?_getD, List.getElem?_eq_getElem hlt]; rfl

theorem pick_some (d : Nat) (R : Rp) (S : SS) (n : Int) (w : World) (h : At w d R S) (hW : WF S) (hn : -9223372036854775808 ≤ n ∧ n ≤ 9223372036854775807) (he : S.ready.isEmpty = false) :
    Calls Try.prog 23 #[.pointer (some ⟨d, 0, none⟩), .int .i64 n] w fun e w' => e = .returned (.tuple #[.int .i64 (S.pickT n), .bool true]) ∧ Post d R S w (S.picked (S.pickT n)) w' := by
  have hpos : 0 < S.ready.length := by cases hq : S.ready with
    | nil => rw [hq] at he; cases he
    | cons => simp
  have hle : S.ready.length ≤ 64 := Nat.le_trans (those_len S rdy) hW.n64
  have hget := pickT_get hpos n
  obtain ⟨T, hT, hk⟩ := ready_mem hW.rt (List.mem_of_getElem? hget)
  have hpk := hW.picks _ T hT
  have hus := hW.used
  have hkw := hW.keyWf hT
  have hpi : S.picked (S.pickT n) = { S.setT (S.pickT n) { T with picks := T.picks + 1 } with used := S.used + 1 } := by unfold SS.picked; rw [hT]
  rw [hpi]
  refine pick_run d R.t.m (R.t.c (S.pickT n)).1 (T.picks + 1) _ n _ _ S.ready w (ready_call d R S w h hW) rfl hn hpos hle hget fun w1 hf => ?_
  have hA := h.keep hf
  have hb := hA.tblk hT
  refine ⟨hA.c0, (hA.tlook hkw hT).1, (add_any _ 0 T.picks w1 (hb.cell 0) (hb.frozen 0) hpk.1 (by omega)).mono ?_⟩
  rintro e w' ⟨rfl, rfl⟩
  have h1 : Fr (One (R.t.c (S.pickT n)).1) w1 (w1.setCell ⟨(R.t.c (S.pickT n)).1, 0, none⟩ (.int .i64 (T.picks + 1))) := (Fr.refl (One (R.t.c (S.pickT n)).1) w1).setCell (p := ⟨(R.t.c (S.pickT n)).1, 0, none⟩) (fun _ => rfl) _
  have h2 : Blk (w1.setCell ⟨(R.t.c (S.pickT n)).1, 0, none⟩ (.int .i64 (T.picks + 1))) (R.t.c (S.pickT n)).1 79 (TS.cells { T with picks := T.picks + 1 }) := hb.set_ 0 _
  obtain ⟨R', hp⟩ := hA.setT hT h1 h2
  exact ⟨rfl, ⟨R', ((PR.same h hf).trans hp).more (Nat.le_succ _)⟩⟩

theorem pick_call (d : Nat) (R : Rp) (S : SS) (n : Int) (w : World) (h : At w d R S) (hW : WF S) (hn : -9223372036854775808 ≤ n ∧ n ≤ 9223372036854775807) :
    Calls Try.prog 23 #[.pointer (some ⟨d, 0, none⟩), .int .i64 n] w fun e w' => e = .returned (.tuple #[.int .i64 (S.pick n).1.1, .bool (S.pick n).1.2]) ∧ Post d R S w (S.pick n).2 w' := by
  cases he : S.ready.isEmpty
  · have e : S.pick n = ((S.pickT n, true), S.picked (S.pickT n)) := by unfold SS.pick; rw [he]; rfl
    rw [e]
    exact pick_some d R S n w h hW hn he
  · have e : S.pick n = ((0, false), S) := by unfold SS.pick; rw [he]; rfl
    rw [e]
    exact (pick_none d R S n w h hW he).mono fun e w' ⟨h1, h2⟩ => ⟨h1, Post.same h h2⟩

end Go.Proofs.Ytnonidoeakhfdaa
