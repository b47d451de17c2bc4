/- Lists of lists of a law's own, beside a scheduler. -/
import Derived.Test.YtnonidoeakhfdaaE2
import Derived.Test.YtnonidoeakhfdaaD6
import Derived.Deep.OwnRows
namespace Go.Proofs.Ytnonidoeakhfdaa
open Go.RowKit Go.Maps Go.Sort
set_option linter.unusedVariables false

theorem info29 : (Try.prog.info? 29).map (fun i => (i.zero, i.size, i.bytes)) = some (some (.slice none 0 0), 1, 24) := by kernel_rfl
theorem elem45 : Try.prog.elem 45 = 29 := by kernel_rfl
theorem under45 : Try.prog.underlying 45 = some (.slice (Try.prog.elem 45)) := by kernel_rfl
theorem under45' : Try.prog.underlying 45 = some (.slice 29) := by kernel_rfl
theorem size45 (W : World) : (sizeOf (Try.prog.elem 45)).run Try.prog W = .ok 1 W := by
  obtain ⟨i0, hi, hz0, hz1, hz2⟩ := info_parts info29
  rw [elem45]
  simp [sizeOf, typeInfo, hi, hz1]

structure RB (w : World) (d : Nat) (P : SS → Prop) (vt : Value) (vals : List Value) (tds : List (List Int)) (vl : Value) (l : List Int) (wr : World) : Prop where
  ex : ∃ S X, Sc wr X d S ∧ P S ∧ (∀ k, k < w.heap.size → X k) ∧ (∀ k, vt.ownBlock = some k → X k) ∧ (∀ v ∈ vals, ∀ k, v.ownBlock = some k → X k) ∧ (∀ k, vl.ownBlock = some k → X k)
  rt : wr.ownsRow w.heap.size 29 1 vt vals.length vals
  ln : vals.length = tds.length
  ls : ∀ (i : Nat) v td, vals[i]? = some v → tds[i]? = some td → Own w wr v td
  rl : Own w wr vl l
  ap : ∀ v ∈ vals, ∀ k, v.ownBlock = some k → vl.ownBlock ≠ some k
  fr : Fr (Out (Old w.heap.size)) w wr

section
variable {w wr w' : World} {d : Nat} {P P' : SS → Prop} {vt vl : Value} {vals : List Value} {tds : List (List Int)} {l : List Int}

theorem RB.lsv (h : RB w d P vt vals tds vl l wr) {v : Value} (hv : v ∈ vals) : ∃ td, Own w wr v td := by
  obtain ⟨i, hi⟩ := List.getElem?_of_mem hv
  have hlt := (List.getElem?_eq_some_iff.1 hi).1
  have := h.ln
  exact ⟨_, h.ls i v _ hi (List.getElem?_eq_getElem (by omega))⟩
theorem RB.lt (h : RB w d P vt vals tds vl l wr) : (∀ k, vt.ownBlock = some k → w.heap.size ≤ k ∧ k < wr.heap.size) ∧ (∀ v ∈ vals, ∀ k, v.ownBlock = some k → w.heap.size ≤ k ∧ k < wr.heap.size) ∧ (∀ k, vl.ownBlock = some k → w.heap.size ≤ k ∧ k < wr.heap.size) :=
  ⟨fun k hk => World.ownsRow.lt h.rt k hk, fun v hv k hk => by obtain ⟨td, ho⟩ := h.lsv hv; exact World.ownsRow.lt ho k hk, fun k hk => World.ownsRow.lt h.rl k hk⟩

/-- All is kept that does not turn. -/
theorem RB.of (h : RB w d P vt vals tds vl l wr) {F : Nat → Prop} (hf : Fr F wr w') (h1 : ∀ k, vt.ownBlock = some k → ¬ F k) (h2 : ∀ v ∈ vals, ∀ k, v.ownBlock = some k → ¬ F k) :
    w'.ownsRow w.heap.size 29 1 vt vals.length vals ∧ (∀ (i : Nat) v td, vals[i]? = some v → tds[i]? = some td → Own w w' v td) :=
  ⟨own_of h.rt fun k hk => hf.block k (h.lt.1 k hk).2 (h1 k hk), fun i v td hv ht => own_of (h.ls i v td hv ht) fun k hk => hf.block k (h.lt.2.1 v (List.mem_of_getElem? hv) k hk).2 (h2 v (List.mem_of_getElem? hv) k hk)⟩

theorem RB.call (h : RB w d P vt vals tds vl l wr) {e : Ending → Prop} {f : Nat} {args : Array Value}
    (hc : ∀ S X, Sc wr X d S → P S → Calls Try.prog f args wr fun r w' => e r ∧ (∃ S', Sc w' X d S' ∧ P' S') ∧ Fr (Out X) wr w') :
    Calls Try.prog f args wr fun r w' => e r ∧ RB w d P' vt vals tds vl l w' := by
  obtain ⟨S, X, h1, h2, h3, h4, h5, h6⟩ := h.ex
  refine (hc S X h1 h2).mono ?_
  rintro r w' ⟨hr, ⟨S', hS, hP⟩, hf⟩
  obtain ⟨a1, a2⟩ := h.of hf (fun k hk ho => ho (h4 k hk)) fun v hv k hk ho => ho (h5 v hv k hk)
  exact ⟨hr, ⟨S', X, hS, hP, h3, h4, h5, h6⟩, a1, h.ln, a2, own_of h.rl fun k hk => hf.block k (h.lt.2.2 k hk).2 fun ho => ho (h6 k hk), h.ap, h.fr.trans hf fun k hk ho => fun hx => ho (h3 k hx)⟩
theorem RB.keep (h : RB w d P vt vals tds vl l wr) (hf : Fr No wr w') : RB w d P vt vals tds vl l w' := by
  obtain ⟨S, X, h1, h2, h3⟩ := h.ex
  obtain ⟨a1, a2⟩ := h.of hf (fun k hk => id) fun v hv k hk => id
  exact ⟨⟨S, X, h1.keep hf, h2, h3⟩, a1, h.ln, a2, own_of h.rl fun k hk => hf.block k (h.lt.2.2 k hk).2 id, h.ap, h.fr.trans hf fun _ _ hj => hj.elim⟩
theorem RB.imp (h : RB w d P vt vals tds vl l wr) (hP : ∀ S X, Sc wr X d S → P S → P' S) : RB w d P' vt vals tds vl l wr := by
  obtain ⟨S, X, h1, h2, h3⟩ := h.ex
  exact ⟨⟨S, X, h1, hP S X h1 h2, h3⟩, h.rt, h.ln, h.ls, h.rl, h.ap, h.fr⟩

/-- One more behind the last list. -/
theorem RB.addl (h : RB w d P vt vals tds vl l wr) (x : Int) (hlen : l.length ≤ 1000) :
    ∃ v' w', (∀ ty, (Builtin.append_ #[29, 29] ty #[vl, .slice (some ⟨wr.heap.size, 0, none⟩) 1 1]).run Try.prog (wr.alloc (.cells #[.int .i64 x] 3)) = .ok v' w') ∧ RB w d P vt vals tds v' (l ++ [x]) w' := by
  obtain ⟨S, X, h1, h2, h3, h4, h5, h6⟩ := h.ex
  obtain ⟨i0, hi, hz0, hz1, hz2⟩ := info_parts info3
  have hbase : w.heap.size ≤ (wr.alloc (.cells #[.int .i64 x] 3)).heap.size := by have := h.fr.size; simp; omega
  obtain ⟨v', w', hr, ho, hgr, _, hat⟩ := run_append_own_at (P := Try.prog) (wr.alloc (.cells #[.int .i64 x] 3)) w.heap.size 29 0 3 i0 (.int .i64 0) 1 8 Try.underlying29 hi hz0 hz1 hz2 rfl (by omega) vl l.length (l.map encZ) (World.ownsRow.alloc h.rl _) ⟨wr.heap.size, 0, none⟩ 1 1 [encZ x] rfl (cell_one_new _ _ _) (by simp [Value.oneCell']) (by unfold maxLen; omega) (by omega) hbase
  have hsz : (wr.alloc (.cells #[.int .i64 x] 3)).heap.size = wr.heap.size + 1 := by simp
  have hfx : Fr (fun k => vl.ownBlock = some k) wr w' := ((Fr.refl _ wr).alloc _).grown hgr fun k hk _ => hk
  have hgs := hgr.size
  have hnew : ∀ k, v'.ownBlock = some k → vl.ownBlock = some k ∨ (wr.heap.size ≤ k ∧ k < w'.heap.size) := fun k hk => by
    rcases hat with e | e
    · left; rw [← e]; exact hk
    · right
      rw [hk] at e
      have e' : k = (wr.alloc (.cells #[.int .i64 x] 3)).heap.size := by simpa using e
      have := (World.ownsRow.lt ho k hk).2
      omega
  obtain ⟨a1, a2⟩ := h.of hfx (fun k hk hk2 => own_own_ne h.rt hk h.rl hk2 (by decide) rfl) fun v hv k hk => h.ap v hv k hk
  refine ⟨v', w', fun ty => hr, ⟨S, fun k => X k ∨ (wr.heap.size ≤ k ∧ k < w'.heap.size), h1.grow (hfx.mono fun k _ hk => h6 k hk), h2, fun k hk => .inl (h3 k hk), fun k hk => .inl (h4 k hk), fun v hv k hk => .inl (h5 v hv k hk), fun k hk => ?_⟩, a1, h.ln, a2, ?_, ?_, ?_⟩
  · rcases hnew k hk with h | h
    · exact .inl (h6 k h)
    · exact .inr h
  · have : w'.ownsRow w.heap.size 3 1 v' (l.length + 1) (l.map encZ ++ [encZ x]) := ho
    unfold Own
    rw [List.length_append, List.map_append]; exact this
  · intro v hv k hk hk2
    rcases hnew k hk2 with h' | h'
    · exact h.ap v hv k hk h'
    · have := (h.lt.2.1 v hv k hk).2; omega
  · exact h.fr.trans hfx fun k _ hk ho => by have := (h.lt.2.2 k hk).1; have ho' : k < w.heap.size := ho; omega

/-- The last list is forgotten. -/
theorem RB.nil (h : RB w d P vt vals tds vl l wr) : RB w d P vt vals tds (.slice none 0 0) [] wr := by
  obtain ⟨S, X, h1, h2, h3, h4, h5, h6⟩ := h.ex
  exact ⟨⟨S, X, h1, h2, h3, h4, h5, fun k hk => by simp [Value.ownBlock] at hk⟩, h.rt, h.ln, h.ls, World.ownsRow_nil _ _ 3 1, fun v hv k hk => by simp [Value.ownBlock], h.fr⟩

/-- The last list goes behind the others. -/
theorem RB.push (h : RB w d P vt vals tds vl l wr) (hlen : vals.length ≤ 1000) :
    ∃ v' w', (∀ ty, (Builtin.append_ #[45, 45] ty #[vt, .slice (some ⟨wr.heap.size, 0, none⟩) 1 1]).run Try.prog (wr.alloc (.cells #[vl] 29)) = .ok v' w') ∧ RB w d P v' (vals ++ [vl]) (tds ++ [l]) (.slice none 0 0) [] w' := by
  obtain ⟨S, X, h1, h2, h3, h4, h5, h6⟩ := h.ex
  obtain ⟨i0, hi, hz0, hz1, hz2⟩ := info_parts info29
  obtain ⟨A, c, hvl⟩ := own_form h.rl
  have hbase : w.heap.size ≤ (wr.alloc (.cells #[vl] 29)).heap.size := by have := h.fr.size; simp; omega
  obtain ⟨v', w', hr, ho, hgr, _, hat⟩ := run_append_own_at (P := Try.prog) (wr.alloc (.cells #[vl] 29)) w.heap.size 45 0 29 i0 (.slice none 0 0) 1 24 under45' hi hz0 hz1 hz2 rfl (by omega) vt vals.length vals (World.ownsRow.alloc h.rt _) ⟨wr.heap.size, 0, none⟩ 1 1 [vl] rfl (cell_one_new _ _ _) (by rw [hvl]; simp [Value.oneCell']) (by unfold maxLen; omega) (by omega) hbase
  have hsz : (wr.alloc (.cells #[vl] 29)).heap.size = wr.heap.size + 1 := by simp
  have hfx : Fr (fun k => vt.ownBlock = some k) wr w' := ((Fr.refl _ wr).alloc _).grown hgr fun k hk _ => hk
  have hgs := hgr.size
  have hnew : ∀ k, v'.ownBlock = some k → vt.ownBlock = some k ∨ (wr.heap.size ≤ k ∧ k < w'.heap.size) := fun k hk => by
    rcases hat with e | e
    · left; rw [← e]; exact hk
    · right
      rw [hk] at e
      have e' : k = (wr.alloc (.cells #[vl] 29)).heap.size := by simpa using e
      have := (World.ownsRow.lt ho k hk).2
      omega
  have hls : ∀ (i : Nat) v td, vals[i]? = some v → tds[i]? = some td → Own w w' v td := fun i v td hv ht => by
    have hov := h.ls i v td hv ht
    exact own_of hov fun k hk => hfx.block k (World.ownsRow.lt hov k hk).2 fun hk2 => own_own_ne hov hk h.rt hk2 (by decide) rfl
  have hll : Own w w' vl l := own_of h.rl fun k hk => hfx.block k (h.lt.2.2 k hk).2 fun hk2 => own_own_ne h.rl hk h.rt hk2 (by decide) rfl
  refine ⟨v', w', fun ty => hr, ⟨S, fun k => X k ∨ (wr.heap.size ≤ k ∧ k < w'.heap.size), h1.grow (hfx.mono fun k _ hk => h4 k hk), h2, fun k hk => .inl (h3 k hk), fun k hk => ?_, fun v hv k hk => ?_, fun k hk => by simp [Value.ownBlock] at hk⟩, ?_, ?_, fun i v td hv ht => ?_, World.ownsRow_nil _ _ 3 1, fun v hv k hk => by simp [Value.ownBlock], ?_⟩
  · rcases hnew k hk with h | h
    · exact .inl (h4 k h)
    · exact .inr h
  · rcases List.mem_append.1 hv with hv | hv
    · exact .inl (h5 v hv k hk)
    · rw [List.mem_singleton.1 hv] at hk; exact .inl (h6 k hk)
  · have e : (vals ++ [vl]).length = vals.length + 1 := by simp
    rw [e]; exact ho
  · rw [List.length_append, List.length_append, h.ln]; rfl
  · have hln := h.ln
    by_cases hi : i < vals.length
    · rw [List.getElem?_append_left hi] at hv
      rw [List.getElem?_append_left (by omega)] at ht
      exact hls i v td hv ht
    · rw [List.getElem?_append_right (by omega)] at hv
      rw [List.getElem?_append_right (by omega)] at ht
      have e0 : i - vals.length = 0 := by
        have := (List.getElem?_eq_some_iff.1 hv).1
        simp at this; omega
      rw [e0] at hv
      rw [show i - tds.length = 0 by omega] at ht
      cases hv; cases ht
      exact hll
  · exact h.fr.trans hfx fun k _ hk ho => by have := (h.lt.1 k hk).1; have ho' : k < w.heap.size := ho; omega

/-- What is read of the lists. -/
theorem RB.tlen (h : RB w d P vt vals tds vl l wr) (ty : TypeId) (W : World) : (Builtin.len_ #[45] ty #[vt]).run Try.prog W = .ok (.int .i64 vals.length) W := by
  rcases h.rt.2 with ⟨rfl, h0⟩ | ⟨g, cap, cur, rfl, _⟩
  · rw [h0]; simp [Builtin.len_, run_underlying under45', goInt]
  · simp [Builtin.len_, run_underlying under45', goInt]
theorem RB.at (h : RB w d P vt vals tds vl l wr) {k : Nat} {td : List Int} (hk : tds[k]? = some td) :
    ∃ g v, (∀ W, (Instr.indexAt 45 vt (.int .i64 k)).run Try.prog W = .ok (.pointer (some ⟨g, k, none⟩)) W) ∧ wr.cell? ⟨g, k, none⟩ = some v ∧ Own w wr v td := by
  have hlt := (List.getElem?_eq_some_iff.1 hk).1
  have hln := h.ln
  obtain ⟨v, hv⟩ : ∃ v, vals[k]? = some v := ⟨_, List.getElem?_eq_getElem (by omega)⟩
  obtain ⟨g, cap, rfl, _, _⟩ := World.ownsRow.form h.rt (by omega)
  refine ⟨g, v, fun W => ?_, ?_, h.ls k v td hv hk⟩
  · rw [run_indexAt_slice (w := W) 45 _ _ _ .i64 k under45, size45]
    simp [Result.andThen, Addr.add_lit]
    omega
  · have := World.ownsRow.cells h.rt (g := g) rfl k v hv
    rwa [Addr.add_lit, Nat.zero_add] at this

theorem own_store {v : Value} (h : Own w wr v l) {k : Nat} (hk : k < l.length) (x : Int) : ∃ g, v.ownBlock = some g ∧ (∀ W, (Instr.indexAt 29 v (.int .i64 k)).run Try.prog W = .ok (.pointer (some ⟨g, k, none⟩)) W) ∧ wr.cell? ⟨g, k, none⟩ = some (.int .i64 l[k]) ∧ wr.frozen? ⟨g, k, none⟩ = false ∧ Own w (wr.setCell ⟨g, k, none⟩ (.int .i64 x)) v (l.set k x) := by
  obtain ⟨g, hg, hix, hc⟩ := own_at h (List.getElem?_eq_getElem hk)
  rcases h.2 with ⟨rfl, h0⟩ | ⟨g', cap, cur, rfl, hb, hh, h1, h2, h3, h4⟩
  · simp [Value.ownBlock] at hg
  · simp [Value.ownBlock] at hg; subst hg
    have hbk : Blk wr g' 3 cur := hh
    refine ⟨g', rfl, hix, hc, hbk.frozen k, ⟨by simp, .inr ⟨g', cap, cur.setIfInBounds k (.int .i64 x), by simp, hb, hbk.set_ k _, by simpa using h1, h2, by simpa using h3, ?_⟩⟩⟩
    rw [List.length_set, Nat.mul_one, Array.toList_setIfInBounds, List.take_set]
    rw [Nat.mul_one] at h4
    rw [h4, List.map_set]

/-- A number of the last list turns. -/
theorem RB.store (h : RB w d P vt vals tds vl l wr) {k : Nat} (hk : k < l.length) (x : Int) :
    ∃ g, (∀ W, (Instr.indexAt 29 vl (.int .i64 k)).run Try.prog W = .ok (.pointer (some ⟨g, k, none⟩)) W) ∧ wr.cell? ⟨g, k, none⟩ = some (.int .i64 l[k]) ∧ wr.frozen? ⟨g, k, none⟩ = false ∧ RB w d P vt vals tds vl (l.set k x) (wr.setCell ⟨g, k, none⟩ (.int .i64 x)) := by
  obtain ⟨S, X, h1, h2, h3, h4, h5, h6⟩ := h.ex
  obtain ⟨g, hg, hix, hc, hf, ho⟩ := own_store h.rl hk x
  have hfr : Fr (fun k => vl.ownBlock = some k) wr (wr.setCell ⟨g, k, none⟩ (.int .i64 x)) := (Fr.refl _ wr).setCell (p := ⟨g, k, none⟩) (fun _ => hg) _
  obtain ⟨a1, a2⟩ := h.of hfr (fun k hk hk2 => own_own_ne h.rt hk h.rl hk2 (by decide) rfl) fun v hv k hk => h.ap v hv k hk
  exact ⟨g, hix, hc, hf, ⟨S, X, h1.own (hfr.mono fun k _ hk => h6 k hk), h2, h3, h4, h5, h6⟩, a1, h.ln, a2, ho, h.ap, h.fr.trans hfr fun k _ hk ho => by have := (h.lt.2.2 k hk).1; have ho' : k < w.heap.size := ho; omega⟩

end

end Go.Proofs.Ytnonidoeakhfdaa
