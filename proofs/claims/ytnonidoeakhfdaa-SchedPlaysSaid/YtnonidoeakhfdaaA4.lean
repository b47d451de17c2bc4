/- What a scheduler is: the state as the document has it, and how it lies in memory; what is kept when a part of it turns. -/
import Derived.Test.YtnonidoeakhfdaaA3
namespace Go.Proofs.Ytnonidoeakhfdaa
open Go.RowKit Go.Maps
set_option linter.unusedVariables false

/-- A task. -/
structure TS where
  picks : Int
  kind : Int
  num : Int
/-- A lock that is held. -/
structure HS where
  holder : Int
  queue : List Int
/-- A scheduler; used: no less than all that was ever laid into it. -/
structure SS where
  last : Int
  keys : List Int
  task : Int → Option TS
  locks : List Int
  lock : Int → Option HS
  opens : Int → Bool
  used : Nat

def TS.cells (T : TS) : Array Value := #[.int .i64 T.picks, .int .i64 T.kind, .int .i64 T.num]

def TK : Knd TS where
  el w p T := Blk w p.1 79 T.cells ∧ p.2 = .slice none 0 0
  of h hk := ⟨h.1.of (hk _ (.inl rfl)), h.2⟩
  cells h hk := by
    rcases hk with rfl | hk
    · exact ⟨_, _, h.1⟩
    · rw [h.2] at hk; cases hk
def HK : Knd HS where
  el w p H := Blk w p.1 66 #[.int .i64 H.holder, p.2] ∧ RowZ w p.2 H.queue
  of h hk := ⟨h.1.of (hk _ (.inl rfl)), h.2.of fun k hb => hk k (.inr hb)⟩
  cells h hk := by
    rcases hk with rfl | hk
    · exact ⟨_, _, h.1⟩
    · obtain ⟨cur, hc⟩ := h.2.block hk
      exact ⟨_, _, hc⟩

/-- Where the latches that are open lie. -/
structure RO where
  m : Option Nat
  D : DU
structure OpAt (w : World) (R : RO) (opens : Int → Bool) (used : Nat) : Prop where
  map : MapAt w Try.prog 3 (unitElem (H := Unit)) R.m R.D
  op : ∀ n, has R.D (.int .i64 n) = opens n
  sz : Maps.size R.D ≤ used

/-- Where it lies. -/
structure Rp where
  t : RT
  l : RT
  o : RO

structure At (w : World) (d : Nat) (R : Rp) (S : SS) : Prop where
  blk : Blk w d 56 #[.map R.t.m, .int .i64 S.last, .map R.l.m, .map R.o.m]
  t : TabAt TK w R.t S.keys S.task
  l : TabAt HK w R.l S.locks S.lock
  o : OpAt w R.o S.opens S.used
  apt : ∀ k, tf R.t S.task k → k ≠ d ∧ ¬ tf R.l S.lock k ∧ R.o.m ≠ some k
  apl : ∀ k, tf R.l S.lock k → k ≠ d ∧ R.o.m ≠ some k
  apo : R.o.m ≠ some d

def foot (d : Nat) (R : Rp) (S : SS) (k : Nat) : Prop := k = d ∨ tf R.t S.task k ∨ tf R.l S.lock k ∨ R.o.m = some k

section
variable {w w' : World} {d : Nat} {R : Rp} {S : SS}

theorem OpAt.of {Ro : RO} {op : Int → Bool} {u : Nat} (h : OpAt w Ro op u) (hk : ∀ k, Ro.m = some k → w'.heap[k]? = w.heap[k]?) : OpAt w' Ro op u :=
  ⟨h.map.of fun b hb => hk b hb, h.op, h.sz⟩

theorem At.of (h : At w d R S) (hk : ∀ k, foot d R S k → w'.heap[k]? = w.heap[k]?) : At w' d R S where
  blk := h.blk.of (hk _ (.inl rfl))
  t := h.t.of fun k hf => hk k (.inr (.inl hf))
  l := h.l.of fun k hf => hk k (.inr (.inr (.inl hf)))
  o := h.o.of fun k hf => hk k (.inr (.inr (.inr hf)))
  apt := h.apt
  apl := h.apl
  apo := h.apo

theorem At.lt (h : At w d R S) : ∀ k, foot d R S k → k < w.heap.size := by
  rintro k (rfl | hk | hk | hk)
  · exact h.blk.lt
  · exact h.t.lt k hk
  · exact h.l.lt k hk
  · exact h.o.map.lt k hk

theorem At.fr (h : At w d R S) {F : Nat → Prop} (hf : Fr F w w') (hd : ∀ k, F k → ¬ foot d R S k) : At w' d R S :=
  h.of fun k hk => hf.block k (h.lt k hk) fun hF => hd k hF hk
theorem At.keep (h : At w d R S) (hf : Fr No w w') : At w' d R S := h.fr hf fun _ hF => hF.elim
theorem At.drewN (h : At w d R S) (n : Nat) : At (w.drewN n) d R S := h.keep ((Fr.refl _ _).drewN n)
theorem At.alloc (h : At w d R S) (o : Obj) : At (w.alloc o) d R S := h.keep ((Fr.refl _ w).alloc o)
end

/-- What a call leaves of a scheduler. -/
structure PR (d : Nat) (R : Rp) (S : SS) (w : World) (R' : Rp) (S' : SS) (w' : World) : Prop where
  at_ : At w' d R' S'
  fr : Fr (foot d R S) w w'
  foot : ∀ k, foot d R' S' k → foot d R S k ∨ w.heap.size ≤ k
def Post (d : Nat) (R : Rp) (S : SS) (w : World) (S' : SS) (w' : World) : Prop := ∃ R', PR d R S w R' S' w'
section
variable {w w' w1 w2 : World} {d : Nat} {R R' R1 R2 : Rp} {S S' S1 S2 : SS}
theorem PR.post (h : PR d R S w R' S' w') : Post d R S w S' w' := ⟨R', h⟩
theorem PR.refl (h : At w d R S) : PR d R S w R S w := ⟨h, Fr.refl _ _, fun k hk => .inl hk⟩
theorem PR.same (h : At w d R S) (hf : Fr No w w') : PR d R S w R S w' := ⟨h.keep hf, hf.any, fun k hk => .inl hk⟩
theorem Post.refl (h : At w d R S) : Post d R S w S w := (PR.refl h).post
theorem Post.same (h : At w d R S) (hf : Fr No w w') : Post d R S w S w' := (PR.same h hf).post
theorem PR.trans (h : PR d R S w R1 S1 w1) (k : PR d R1 S1 w1 R2 S2 w2) : PR d R S w R2 S2 w2 := by
  obtain ⟨h1, f1, g1⟩ := h
  obtain ⟨h2, f2, g2⟩ := k
  refine ⟨h2, f1.trans f2 (fun j hj hf => (g1 j hf).resolve_right (by omega)), fun j hj => ?_⟩
  rcases g2 j hj with hj | hj
  · exact g1 j hj
  · exact .inr (by have := f1.size; omega)
theorem Post.trans (h : Post d R S w S1 w1) (k : ∀ R1, At w1 d R1 S1 → Post d R1 S1 w1 S2 w2) : Post d R S w S2 w2 := by
  obtain ⟨R1, h1⟩ := h
  obtain ⟨R2, h2⟩ := k R1 h1.at_
  exact ⟨R2, h1.trans h2⟩

/-! ### a part turns -/
theorem At.turnT (h : At w d R S) {t' : RT} {keys' : List Int} {task' : Int → Option TS} (hp : PT TK R.t S.task w t' keys' task' w') (hm : t'.m = R.t.m) :
    PR d R S w { R with t := t' } { S with keys := keys', task := task' } w' := by
  have ap : ∀ k, tf t' task' k → k ≠ d ∧ ¬ tf R.l S.lock k ∧ R.o.m ≠ some k := fun k hk => by
    rcases hp.foot k hk with hk | hk
    · exact h.apt k hk
    · exact ⟨fun e => by have := h.blk.lt; omega, fun e => by have := h.l.lt k e; omega, fun e => by have := h.o.map.lt k e; omega⟩
  have same : ∀ k, foot d R S k → ¬ tf R.t S.task k → w'.heap[k]? = w.heap[k]? := fun k hk hn => hp.fr.block k (h.lt k hk) hn
  refine ⟨⟨?_, hp.at_, ?_, ?_, ap, h.apl, h.apo⟩, hp.fr.mono fun k _ hk => .inr (.inl hk), fun k hk => ?_⟩
  · show Blk w' d 56 #[.map t'.m, _, _, _]
    rw [hm]
    exact h.blk.of (same _ (.inl rfl) fun e => (h.apt _ e).1 rfl)
  · exact h.l.of fun k hk => same k (.inr (.inr (.inl hk))) fun e => (h.apt _ e).2.1 hk
  · exact h.o.of fun k hk => same k (.inr (.inr (.inr hk))) fun e => (h.apt _ e).2.2 hk
  · rcases hk with hk | hk | hk | hk
    · exact .inl (.inl hk)
    · exact (hp.foot k hk).imp (fun h => .inr (.inl h)) id
    · exact .inl (.inr (.inr (.inl hk)))
    · exact .inl (.inr (.inr (.inr hk)))

theorem At.turnL (h : At w d R S) {l' : RT} {locks' : List Int} {lock' : Int → Option HS} (hp : PT HK R.l S.lock w l' locks' lock' w') (hm : l'.m = R.l.m) :
    PR d R S w { R with l := l' } { S with locks := locks', lock := lock' } w' := by
  have ap : ∀ k, tf l' lock' k → k ≠ d ∧ ¬ tf R.t S.task k ∧ R.o.m ≠ some k := fun k hk => by
    rcases hp.foot k hk with hk | hk
    · exact ⟨(h.apl k hk).1, fun e => (h.apt k e).2.1 hk, (h.apl k hk).2⟩
    · exact ⟨fun e => by have := h.blk.lt; omega, fun e => by have := h.t.lt k e; omega, fun e => by have := h.o.map.lt k e; omega⟩
  have same : ∀ k, foot d R S k → ¬ tf R.l S.lock k → w'.heap[k]? = w.heap[k]? := fun k hk hn => hp.fr.block k (h.lt k hk) hn
  refine ⟨⟨?_, ?_, hp.at_, ?_, fun k hk => ⟨(h.apt k hk).1, fun e => (ap k e).2.1 hk, (h.apt k hk).2.2⟩, fun k hk => ⟨(ap k hk).1, (ap k hk).2.2⟩, h.apo⟩, hp.fr.mono fun k _ hk => .inr (.inr (.inl hk)), fun k hk => ?_⟩
  · show Blk w' d 56 #[_, _, .map l'.m, _]
    rw [hm]
    exact h.blk.of (same _ (.inl rfl) fun e => (h.apl _ e).1 rfl)
  · exact h.t.of fun k hk => same k (.inr (.inl hk)) fun e => (h.apt _ hk).2.1 e
  · exact h.o.of fun k hk => same k (.inr (.inr (.inr hk))) fun e => (h.apl _ e).2 hk
  · rcases hk with hk | hk | hk | hk
    · exact .inl (.inl hk)
    · exact .inl (.inr (.inl hk))
    · exact (hp.foot k hk).imp (fun h => .inr (.inr (.inl h))) id
    · exact .inl (.inr (.inr (.inr hk)))

theorem At.turnO (h : At w d R S) {D' : DU} {op' : Int → Bool} {u' : Nat} {b : Nat} (hb : R.o.m = some b) (hf : Fr (One b) w w') (ho : OpAt w' ⟨R.o.m, D'⟩ op' u') :
    PR d R S w { R with o := ⟨R.o.m, D'⟩ } { S with opens := op', used := u' } w' := by
  have same : ∀ k, foot d R S k → k ≠ b → w'.heap[k]? = w.heap[k]? := fun k hk hn => hf.block k (h.lt k hk) hn
  refine ⟨⟨h.blk.of (same _ (.inl rfl) fun e => h.apo (e ▸ hb)), h.t.of fun k hk => same k (.inr (.inl hk)) fun e => (h.apt _ hk).2.2 (e ▸ hb), h.l.of fun k hk => same k (.inr (.inr (.inl hk))) fun e => (h.apl _ hk).2 (e ▸ hb), ho, h.apt, h.apl, h.apo⟩, hf.mono fun k _ hk => .inr (.inr (.inr (by cases hk; exact hb))), fun k hk => .inl hk⟩

/-- More may have been used. -/
theorem At.more (h : At w d R S) {u' : Nat} (hu : S.used ≤ u') : At w d R { S with used := u' } :=
  ⟨h.blk, h.t, h.l, ⟨h.o.map, h.o.op, Nat.le_trans h.o.sz hu⟩, h.apt, h.apl, h.apo⟩
theorem PR.more (h : PR d R S w R' S' w') {u' : Nat} (hu : S'.used ≤ u') : PR d R S w R' { S' with used := u' } w' := ⟨h.at_.more hu, h.fr, h.foot⟩

/-- The last number turns. -/
theorem At.turnLast (h : At w d R S) (x : Int) : PR d R S w R { S with last := x } (w.setCell ⟨d, 1, none⟩ (.int .i64 x)) := by
  have hf : Fr (One d) w (w.setCell ⟨d, 1, none⟩ (.int .i64 x)) := (Fr.refl (One d) w).setCell (p := ⟨d, 1, none⟩) (fun _ => rfl) _
  have same : ∀ k, foot d R S k → k ≠ d → _ := fun k hk hn => hf.block k (h.lt k hk) hn
  exact ⟨⟨h.blk.set_ 1 _, h.t.of fun k hk => same k (.inr (.inl hk)) (h.apt k hk).1, h.l.of fun k hk => same k (.inr (.inr (.inl hk))) (h.apl k hk).1, h.o.of fun k hk => same k (.inr (.inr (.inr hk))) fun e => h.apo (e ▸ hk), h.apt, h.apl, h.apo⟩, hf.mono fun k _ hk => .inl hk, fun k hk => .inl hk⟩

/-- A map is made, and laid into the scheduler's cell i. -/
def mkMap (w : World) (d i : Nat) : World := (w.alloc (.map #[] 0)).setCell ⟨d, i, none⟩ (.map (some w.heap.size))
theorem mkMap_fr (w : World) (d i : Nat) : Fr (One d) w (mkMap w d i) := ((Fr.refl (One d) w).alloc _).setCell (p := ⟨d, i, none⟩) (fun _ => rfl) _
theorem mkMap_blk {t : TypeId} {cs : Array Value} (h : Blk w d t cs) (i : Nat) : Blk (mkMap w d i) d t (cs.setIfInBounds i (.map (some w.heap.size))) := by
  have h1 : Blk (w.alloc (.map #[] 0)) d t cs := h.of (Below.heap_alloc w _ d h.lt)
  exact h1.set_ i _
theorem mkMap_owns {t : TypeId} {cs : Array Value} (h : Blk w d t cs) (i : Nat) (Rd : Value → Option (DU × List MemPlace)) : (mkMap w d i).ownsMap Try.prog 3 Rd w.heap.size (Maps.size (.map [] : DU)) (.map []) := by
  have h1 := World.ownsMap_made (H := Unit) w Try.prog 3 Rd
  refine owns_of h1 ?_
  exact Below.heap_setCell _ ⟨d, i, none⟩ _ _ (by have := h.lt; show w.heap.size ≠ d; omega)

theorem tab_none {α : Type} {K : Knd α} {Rt : RT} {keys : List Int} {f : Int → Option α} (h : TabAt K w Rt keys f) (hm : Rt.m = none) : Rt.D = .map [] ∧ keys = [] ∧ ∀ n, f n = none := by
  have hD : Rt.D = .map [] := by have := h.map; rw [hm] at this; exact this
  refine ⟨hD, List.eq_nil_of_length_eq_zero (by rw [← h.sz, hD]; rfl), fun n => ?_⟩
  cases hK : f n with
  | none => rfl
  | some x => obtain ⟨b, hb⟩ := h.mapSome hK; rw [hm] at hb; cases hb

theorem tab_made {α : Type} {K : Knd α} {Rt : RT} {keys : List Int} {f : Int → Option α} (h : TabAt K w Rt keys f) (hm : Rt.m = none) {t : TypeId} {cs : Array Value} (hb : Blk w d t cs) (i : Nat) : TabAt K (mkMap w d i) { Rt with m := some w.heap.size } keys f := by
  obtain ⟨hD, hk, hn⟩ := tab_none h hm
  refine ⟨?_, fun n => ?_, h.ap, h.sz⟩
  · show World.ownsMap _ Try.prog 3 ptrElem w.heap.size (Maps.size Rt.D) Rt.D
    rw [hD]; exact mkMap_owns hb i _
  · have := h.el n
    rw [hn n] at this ⊢
    exact this
theorem tf_made {α : Type} {K : Knd α} {Rt : RT} {keys : List Int} {f : Int → Option α} (h : TabAt K w Rt keys f) (hm : Rt.m = none) {k : Nat} (hk : tf { Rt with m := some w.heap.size } f k) : k = w.heap.size := by
  obtain ⟨hD, _, hn⟩ := tab_none h hm
  rcases hk with hk | ⟨n, x, hx, _⟩
  · have : w.heap.size = k := by simpa using hk
    exact this.symm
  · rw [hn n] at hx; cases hx

theorem At.madeT (h : At w d R S) (hm : R.t.m = none) : PR d R S w { R with t := { R.t with m := some w.heap.size } } S (mkMap w d 0) := by
  have hf := mkMap_fr w d 0
  have same : ∀ k, foot d R S k → k ≠ d → _ := fun k hk hn => hf.block k (h.lt k hk) hn
  have ap : ∀ k, tf { R.t with m := some w.heap.size } S.task k → k = w.heap.size := fun k hk => tf_made h.t hm hk
  refine ⟨⟨mkMap_blk h.blk 0, tab_made h.t hm h.blk 0, h.l.of fun k hk => same k (.inr (.inr (.inl hk))) (h.apl k hk).1, h.o.of fun k hk => same k (.inr (.inr (.inr hk))) fun e => h.apo (e ▸ hk), fun k hk => ?_, h.apl, h.apo⟩, hf.mono fun k _ hk => .inl hk, fun k hk => ?_⟩
  · have := ap k hk
    exact ⟨fun e => by have := h.blk.lt; omega, fun e => by have := h.l.lt k e; omega, fun e => by have := h.o.map.lt k e; omega⟩
  · rcases hk with hk | hk | hk | hk
    · exact .inl (.inl hk)
    · exact .inr (by have := ap k hk; omega)
    · exact .inl (.inr (.inr (.inl hk)))
    · exact .inl (.inr (.inr (.inr hk)))

theorem At.madeL (h : At w d R S) (hm : R.l.m = none) : PR d R S w { R with l := { R.l with m := some w.heap.size } } S (mkMap w d 2) := by
  have hf := mkMap_fr w d 2
  have same : ∀ k, foot d R S k → k ≠ d → _ := fun k hk hn => hf.block k (h.lt k hk) hn
  have ap : ∀ k, tf { R.l with m := some w.heap.size } S.lock k → k = w.heap.size := fun k hk => tf_made h.l hm hk
  refine ⟨⟨mkMap_blk h.blk 2, h.t.of fun k hk => same k (.inr (.inl hk)) (h.apt k hk).1, tab_made h.l hm h.blk 2, h.o.of fun k hk => same k (.inr (.inr (.inr hk))) fun e => h.apo (e ▸ hk), fun k hk => ?_, fun k hk => ?_, h.apo⟩, hf.mono fun k _ hk => .inl hk, fun k hk => ?_⟩
  · exact ⟨(h.apt k hk).1, fun e => by have := ap k e; have := h.t.lt k hk; omega, (h.apt k hk).2.2⟩
  · have := ap k hk
    exact ⟨fun e => by have := h.blk.lt; omega, fun e => by have := h.o.map.lt k e; omega⟩
  · rcases hk with hk | hk | hk | hk
    · exact .inl (.inl hk)
    · exact .inl (.inr (.inl hk))
    · exact .inr (by have := ap k hk; omega)
    · exact .inl (.inr (.inr (.inr hk)))

theorem At.madeO (h : At w d R S) (hm : R.o.m = none) : PR d R S w { R with o := { R.o with m := some w.heap.size } } S (mkMap w d 3) := by
  have hf := mkMap_fr w d 3
  have same : ∀ k, foot d R S k → k ≠ d → _ := fun k hk hn => hf.block k (h.lt k hk) hn
  have hD : R.o.D = .map [] := by have := h.o.map; rw [hm] at this; exact this
  refine ⟨⟨mkMap_blk h.blk 3, h.t.of fun k hk => same k (.inr (.inl hk)) (h.apt k hk).1, h.l.of fun k hk => same k (.inr (.inr (.inl hk))) (h.apl k hk).1, ⟨?_, h.o.op, h.o.sz⟩, fun k hk => ?_, fun k hk => ?_, ?_⟩, hf.mono fun k _ hk => .inl hk, fun k hk => ?_⟩
  · show World.ownsMap _ Try.prog 3 _ w.heap.size (Maps.size R.o.D) R.o.D
    rw [hD]; exact mkMap_owns h.blk 3 _
  · exact ⟨(h.apt k hk).1, (h.apt k hk).2.1, fun e => by have e' : w.heap.size = k := by simpa using e
                                                         have := h.t.lt k hk; omega⟩
  · exact ⟨(h.apl k hk).1, fun e => by have e' : w.heap.size = k := by simpa using e
                                       have := h.l.lt k hk; omega⟩
  · intro e
    have e' : w.heap.size = d := by simpa using e
    have := h.blk.lt; omega
  · rcases hk with hk | hk | hk | hk
    · exact .inl (.inl hk)
    · exact .inl (.inr (.inl hk))
    · exact .inl (.inr (.inr (.inl hk)))
    · exact .inr (by have e' : w.heap.size = k := by simpa using hk
                     omega)
end

end Go.Proofs.Ytnonidoeakhfdaa
