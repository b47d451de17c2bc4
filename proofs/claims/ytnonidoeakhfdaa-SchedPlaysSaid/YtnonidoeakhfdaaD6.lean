/- Two lists of a law's own, beside a scheduler. -/
import Derived.Test.YtnonidoeakhfdaaD5
namespace Go.Proofs.Ytnonidoeakhfdaa
open Go.RowKit Go.Maps Go.Sort
set_option linter.unusedVariables false

/-- A list of the law's own, laid behind w. -/
def Own (w wr : World) (v : Value) (l : List Int) : Prop := wr.ownsRow w.heap.size 3 1 v l.length (l.map encZ)

theorem enc_one (l : List Int) : ∀ u ∈ l.map encZ, u.oneCell' = true := by
  intro u hu
  obtain ⟨x, _, rfl⟩ := List.mem_map.1 hu
  rfl
theorem own_form {w wr : World} {v : Value} {l : List Int} (h : Own w wr v l) : ∃ A c, v = .slice A l.length c := by
  rcases h.2 with ⟨rfl, h0⟩ | ⟨g, cap, cur, rfl, _⟩
  · exact ⟨none, 0, by rw [h0]⟩
  · exact ⟨_, _, rfl⟩
theorem own_len {w wr : World} {v : Value} {l : List Int} (h : Own w wr v l) (ty : TypeId) (W : World) : (Builtin.len_ #[29] ty #[v]).run Try.prog W = .ok (.int .i64 l.length) W := by
  obtain ⟨A, c, rfl⟩ := own_form h
  simp [Builtin.len_, run_underlying Try.underlying29, goInt]
theorem elem29 : Try.prog.elem 29 = 3 := by kernel_rfl
theorem under29 : Try.prog.underlying 29 = some (.slice (Try.prog.elem 29)) := by kernel_rfl
theorem size29 (W : World) : (sizeOf (Try.prog.elem 29)).run Try.prog W = .ok 1 W := by
  obtain ⟨i0, hi, hz0, hz1, hz2⟩ := info_parts info3
  rw [elem29]
  simp [sizeOf, typeInfo, hi, hz1]
theorem own_at {w wr : World} {v : Value} {l : List Int} (h : Own w wr v l) {k : Nat} {x : Int} (hk : l[k]? = some x) :
    ∃ g, v.ownBlock = some g ∧ (∀ W, (Instr.indexAt 29 v (.int .i64 k)).run Try.prog W = .ok (.pointer (some ⟨g, k, none⟩)) W) ∧ wr.cell? ⟨g, k, none⟩ = some (.int .i64 x) := by
  have hlt := (List.getElem?_eq_some_iff.1 hk).1
  obtain ⟨g, cap, rfl, _, _⟩ := World.ownsRow.form h (by omega)
  refine ⟨g, rfl, fun W => ?_, ?_⟩
  · rw [run_indexAt_slice (w := W) 29 _ _ _ .i64 k under29, size29]
    simp [Result.andThen, Addr.add_lit]
    omega
  · have := World.ownsRow.cells h (g := g) rfl k (encZ x) (by rw [List.getElem?_map, hk]; rfl)
    rwa [Addr.add_lit, Nat.zero_add] at this

structure FA (w : World) (d : Nat) (P : SS → Prop) (vl : Value) (l : List Int) (vc : Value) (cm : List Int) (wr : World) : Prop where
  ex : ∃ S X, Sc wr X d S ∧ P S ∧ (∀ k, k < w.heap.size → X k) ∧ (∀ k, vl.ownBlock = some k → X k) ∧ (∀ k, vc.ownBlock = some k → X k)
  rl : Own w wr vl l
  rc : Own w wr vc cm
  ap : ∀ k, vl.ownBlock = some k → vc.ownBlock ≠ some k
  fr : Fr (Out (Old w.heap.size)) w wr

section
variable {w wr w' : World} {d : Nat} {P P' : SS → Prop} {vl vc : Value} {l cm : List Int}

/-- A call of the scheduler leaves the lists alone. -/
theorem FA.call (h : FA w d P vl l vc cm wr) {e : Ending → Prop} {f : Nat} {args : Array Value}
    (hc : ∀ S X, Sc wr X d S → P S → Calls Try.prog f args wr fun r w' => e r ∧ (∃ S', Sc w' X d S' ∧ P' S') ∧ Fr (Out X) wr w') :
    Calls Try.prog f args wr fun r w' => e r ∧ FA w d P' vl l vc cm w' := by
  obtain ⟨⟨S, X, h1, h2, h3, h4, h5⟩, h6, h7, h8, h9⟩ := h
  refine (hc S X h1 h2).mono ?_
  rintro r w' ⟨hr, ⟨S', hS, hP⟩, hf⟩
  refine ⟨hr, ⟨S', X, hS, hP, h3, h4, h5⟩, ?_, ?_, h8, ?_⟩
  · exact own_of h6 fun k hk => hf.block k (World.ownsRow.lt h6 k hk).2 fun ho => ho (h4 k hk)
  · exact own_of h7 fun k hk => hf.block k (World.ownsRow.lt h7 k hk).2 fun ho => ho (h5 k hk)
  · exact h9.trans hf fun k hk ho => fun hx => ho (h3 k hx)

/-- One more behind the first list. -/
theorem FA.addl (h : FA w d P vl l vc cm wr) (x : Int) (hlen : l.length ≤ 1000) :
    ∃ v' w', (∀ ty, (Builtin.append_ #[29, 29] ty #[vl, .slice (some ⟨wr.heap.size, 0, none⟩) 1 1]).run Try.prog (wr.alloc (.cells #[.int .i64 x] 3)) = .ok v' w') ∧ FA w d P v' (l ++ [x]) vc cm w' := by
  obtain ⟨⟨S, X, h1, h2, h3, h4, h5⟩, h6, h7, h8, h9⟩ := h
  obtain ⟨i0, hi, hz0, hz1, hz2⟩ := info_parts info3
  have hbase : w.heap.size ≤ (wr.alloc (.cells #[.int .i64 x] 3)).heap.size := by have := h9.size; simp; omega
  obtain ⟨v', w', hr, ho, hgr, _, hat⟩ := run_append_own_at (P := Try.prog) (wr.alloc (.cells #[.int .i64 x] 3)) w.heap.size 29 0 3 i0 (.int .i64 0) 1 8 Try.underlying29 hi hz0 hz1 hz2 rfl (by omega) vl l.length (l.map encZ) (World.ownsRow.alloc h6 _) ⟨wr.heap.size, 0, none⟩ 1 1 [encZ x] rfl (cell_one_new _ _ _) (by simp [Value.oneCell']) (by unfold maxLen; omega) (by omega) hbase
  have hsz : (wr.alloc (.cells #[.int .i64 x] 3)).heap.size = wr.heap.size + 1 := by simp
  have hfx : Fr X wr w' := ((Fr.refl X wr).alloc _).grown hgr fun k hk _ => h4 k hk
  have hgs := hgr.size
  have hnew : ∀ k, v'.ownBlock = some k → vl.ownBlock = some k ∨ (wr.heap.size ≤ k ∧ k < w'.heap.size) := fun k hk => by
    rcases hat with e | e
    · left; rw [← e]; exact hk
    · right
      rw [hk] at e
      have e' : k = (wr.alloc (.cells #[.int .i64 x] 3)).heap.size := by simpa using e
      have := (World.ownsRow.lt ho k hk).2
      omega
  have hvc : ∀ k, vc.ownBlock = some k → k < wr.heap.size := fun k hk => (World.ownsRow.lt h7 k hk).2
  refine ⟨v', w', fun ty => hr, ⟨S, fun k => X k ∨ (wr.heap.size ≤ k ∧ k < w'.heap.size), h1.grow hfx, h2, fun k hk => .inl (h3 k hk), fun k hk => ?_, fun k hk => .inl (h5 k hk)⟩, ?_, ?_, ?_, ?_⟩
  · rcases hnew k hk with h | h
    · exact .inl (h4 k h)
    · exact .inr h
  · have : w'.ownsRow w.heap.size 3 1 v' (l.length + 1) (l.map encZ ++ [encZ x]) := ho
    unfold Own
    rw [List.length_append, List.map_append]; exact this
  · refine own_of h7 fun k hk => ?_
    rw [hgr.block k (by have := hvc k hk; omega) (fun e => h8 k e.symm hk)]
    exact heap_alloc_old wr _ (hvc k hk)
  · intro k hk hk2
    rcases hnew k hk with h | h
    · exact h8 k h hk2
    · have := hvc k hk2; omega
  · exact (h9.alloc _).grown hgr fun k hk hkl ho => by have := (World.ownsRow.lt h6 k hk).1; have ho' : k < w.heap.size := ho; omega

/-- One more behind the second list. -/
theorem FA.swap (h : FA w d P vl l vc cm wr) : FA w d P vc cm vl l wr := by
  obtain ⟨⟨S, X, h1, h2, h3, h4, h5⟩, h6, h7, h8, h9⟩ := h
  exact ⟨⟨S, X, h1, h2, h3, h5, h4⟩, h7, h6, fun k hk hk2 => h8 k hk2 hk, h9⟩
theorem FA.addc (h : FA w d P vl l vc cm wr) (x : Int) (hlen : cm.length ≤ 1000) :
    ∃ v' w', (∀ ty, (Builtin.append_ #[29, 29] ty #[vc, .slice (some ⟨wr.heap.size, 0, none⟩) 1 1]).run Try.prog (wr.alloc (.cells #[.int .i64 x] 3)) = .ok v' w') ∧ FA w d P vl l v' (cm ++ [x]) w' := by
  obtain ⟨v', w', h1, h2⟩ := h.swap.addl x hlen
  exact ⟨v', w', h1, h2.swap⟩

/-- One is taken out of the first list, by two appends. -/
theorem FA.cut (h : FA w d P vl l vc cm wr) {k : Nat} (hk : k < l.length) (hlen : l.length ≤ 1000) :
    ∃ v1 vr w1 v2 v' w2, (Instr.slice 29 vl none (some (.int .i64 k)) none).run Try.prog wr = .ok v1 wr ∧ (∀ ty, (Builtin.append_ #[29, 29] ty #[.slice none 0 0, v1]).run Try.prog wr = .ok vr w1) ∧
      (Instr.slice 29 vl (some (.int .i64 ((k : Int) + 1))) none none).run Try.prog w1 = .ok v2 w1 ∧ (∀ ty, (Builtin.append_ #[29, 29] ty #[vr, v2]).run Try.prog w1 = .ok v' w2) ∧ FA w d P v' (rest_ l k) vc cm w2 := by
  obtain ⟨⟨S, X, h1, h2, h3, h4, h5⟩, h6, h7, h8, h9⟩ := h
  obtain ⟨i0, hi, hz0, hz1, hz2⟩ := info_parts info3
  obtain ⟨g, cap, rfl, hg1, hg2⟩ := World.ownsRow.form h6 (by omega)
  have hlc : l.length ≤ cap := by
    rcases h6.2 with ⟨e, _⟩ | ⟨g', cap', cur, e, _, _, h, _⟩
    · cases e
    · cases e; exact h
  have hs1 := run_slice_h (P := Try.prog) wr 29 (some ⟨g, 0, none⟩) l.length cap under29 .i64 (k : Nat) (by omega) (by omega)
  rw [size29] at hs1
  have e1 : sliced (some ⟨g, 0, none⟩) 0 (k : Int).toNat cap 1 = .slice (some ⟨g, 0, none⟩) k cap := by
    unfold sliced
    have : cap ≠ 0 := by omega
    simp [this, Addr.add_lit]
  have hs1' : (Instr.slice 29 (.slice (some ⟨g, 0, none⟩) l.length cap) none (some (.int .i64 k)) none).run Try.prog wr = .ok (.slice (some ⟨g, 0, none⟩) k cap) wr := by
    rw [hs1]; show Result.ok _ _ = _; rw [e1]
  have hcell : ∀ j x, l[j]? = some x → wr.cell? ⟨g, j, none⟩ = some (encZ x) := fun j x hj => by
    have := World.ownsRow.cells h6 (g := g) rfl j (encZ x) (by rw [List.getElem?_map, hj]; rfl)
    rwa [Addr.add_lit, Nat.zero_add] at this
  have hbase : w.heap.size ≤ wr.heap.size := h9.size
  obtain ⟨vr, w1, hr1, ho1, hg1', _, hat1⟩ := run_append_own_at (P := Try.prog) wr w.heap.size 29 0 3 i0 (.int .i64 0) 1 8 Try.underlying29 hi hz0 hz1 hz2 rfl (by omega) (.slice none 0 0) 0 [] (World.ownsRow_nil wr _ 3 1) ⟨g, 0, none⟩ k cap ((l.take k).map encZ) (by simp; omega) (fun j u hj => by
    rw [List.getElem?_map] at hj
    cases hx : (l.take k)[j]? with
    | none => rw [hx] at hj; cases hj
    | some x =>
      rw [hx] at hj; cases hj
      rw [Addr.add_lit, Nat.zero_add]
      refine hcell j x ?_
      rw [List.getElem?_take] at hx
      split at hx
      · exact hx
      · cases hx) (enc_one _) (by unfold maxLen; omega) (by omega) hbase
  have hs2 := run_slice_l (P := Try.prog) w1 29 (some ⟨g, 0, none⟩) l.length cap under29 .i64 ((k : Int) + 1) (by omega) (by omega)
  rw [size29] at hs2
  have ek : ((k : Int) + 1).toNat = k + 1 := by omega
  obtain ⟨a2, ha2, ha3⟩ : ∃ a2, sliced (some ⟨g, 0, none⟩) ((k : Int) + 1).toNat l.length cap 1 = .slice (some a2) (l.length - (k + 1)) (cap - (k + 1)) ∧ (cap ≠ k + 1 → a2 = ⟨g, k + 1, none⟩) := by
    unfold sliced
    rw [ek]
    by_cases e : cap = k + 1
    · exact ⟨⟨g, 0, none⟩, by simp [e], fun h => absurd e h⟩
    · exact ⟨⟨g, k + 1, none⟩, by simp [e, Addr.add_lit], fun _ => rfl⟩
  have hsz1 := hg1'.size
  have hcell1 : ∀ j x, l[j]? = some x → w1.cell? ⟨g, j, none⟩ = some (encZ x) := fun j x hj => by
    rw [World.cell?_of_block (hg1'.block g hg2 (by simp [Value.ownBlock]))]; exact hcell j x hj
  obtain ⟨v', w2, hr2, ho2, hg2', _, hat2⟩ := run_append_own_at (P := Try.prog) w1 w.heap.size 29 0 3 i0 (.int .i64 0) 1 8 Try.underlying29 hi hz0 hz1 hz2 rfl (by omega) vr (0 + k) _ ho1 a2 (l.length - (k + 1)) (cap - (k + 1)) ((l.drop (k + 1)).map encZ) (by simp) (fun j u hj => by
    rw [List.getElem?_map, List.getElem?_drop] at hj
    cases hx : l[k + 1 + j]? with
    | none => rw [hx] at hj; cases hj
    | some x =>
      rw [hx] at hj; cases hj
      have hlt := (List.getElem?_eq_some_iff.1 hx).1
      rw [ha3 (by omega), Addr.add_lit]
      exact hcell1 _ x hx) (enc_one _) (by unfold maxLen; omega) (by omega) (by omega)
  have hvr : ∀ k, vr.ownBlock = some k → wr.heap.size ≤ k := fun j hj => by
    rcases hat1 with e | e
    · rw [hj] at e; simp [Value.ownBlock] at e
    · rw [hj] at e; have : j = wr.heap.size := by simpa using e
      omega
  have hf1 : Fr No wr w1 := (Fr.refl No wr).grown hg1' fun j hj => by simp [Value.ownBlock] at hj
  have hf2 : Fr No wr w2 := hf1.grown hg2' fun j hj hlt => by have := hvr j hj; omega
  have hnew : ∀ j, v'.ownBlock = some j → wr.heap.size ≤ j ∧ j < w2.heap.size := fun j hj => by
    refine ⟨?_, (World.ownsRow.lt ho2 j hj).2⟩
    rcases hat2 with e | e
    · exact hvr j (e ▸ hj)
    · rw [hj] at e; have : j = w1.heap.size := by simpa using e
      omega
  have hvc : ∀ k, vc.ownBlock = some k → k < wr.heap.size := fun k hk => (World.ownsRow.lt h7 k hk).2
  refine ⟨_, vr, w1, _, v', w2, hs1', fun ty => hr1, ?_, fun ty => hr2, ⟨S, fun k => X k ∨ (wr.heap.size ≤ k ∧ k < w2.heap.size), h1.grow hf2.any, h2, fun k hk => .inl (h3 k hk), fun k hk => .inr (hnew k hk), fun k hk => .inl (h5 k hk)⟩, ?_, ?_, ?_, ?_⟩
  · rw [hs2]; show Result.ok _ _ = _; rw [ha2]
  · unfold Own rest_
    have : w2.ownsRow w.heap.size 3 1 v' (0 + k + (l.length - (k + 1))) ([] ++ (l.take k).map encZ ++ (l.drop (k + 1)).map encZ) := ho2
    rw [List.nil_append, ← List.map_append] at this
    have e : (l.take k ++ l.drop (k + 1)).length = 0 + k + (l.length - (k + 1)) := by rw [List.length_append, List.length_take, List.length_drop]; omega
    rw [e]; exact this
  · exact own_of h7 fun j hj => hf2.block j (hvc j hj) id
  · intro j hj hj2
    have := hnew j hj
    have := hvc j hj2
    omega
  · exact h9.trans hf2 fun _ _ hj => hj.elim

/-! ### the calls -/
theorem FA.start {i u : Nat} (h : FA w d (fun S => TI S i T0 u ∧ ∀ n, S.lock n = none) vl l vc cm wr) (hi : i < 64) (hu : u < 1000000) :
    Calls Try.prog 20 #[.pointer (some ⟨d, 0, none⟩)] wr fun e w' => e = .returned (.tuple #[.int .i64 ((i : Int) + 1), .int .i64 0]) ∧ FA w d (fun S => TI S (i + 1) T0 (u + 1) ∧ ∀ n, S.lock n = none) vl l vc cm w' :=
  h.call fun S X hS hP => by
    obtain ⟨e1, h4⟩ := hP.1.start hi
    have := hP.1.used
    refine (m_start hS (by omega)).mono ?_
    rintro e w' ⟨rfl, h5, h6⟩
    rw [e1]
    exact ⟨rfl, ⟨_, h5, h4.congr (fun m hm => by unfold T0; split <;> rfl) (Nat.le_refl _), fun n => by have := hP.2 n; unfold SS.started; split <;> exact this⟩, h6⟩
theorem FA.lock {n u : Nat} {lock t : Int} {q : List Int} (h : FA w d (fun S => HI S n lock q u) vl l vc cm wr) (h0 : 0 ≤ lock) (hlw : (Lit.int .i64 lock).wf = true) (ht : t ∈ rng n) (htq : t ∉ q) (hn : n ≤ 64) (hu : u < 1000000) :
    Calls Try.prog 21 #[.pointer (some ⟨d, 0, none⟩), .int .i64 t, .int .i64 lock] wr fun e w' => e = .returned (.tuple #[.bool q.isEmpty, .int .i64 0]) ∧ FA w d (fun S => HI S n lock (q ++ [t]) (u + 1)) vl l vc cm w' :=
  h.call fun S X hS hP => by
    obtain ⟨e1, h4⟩ := hP.lock h0 ht htq
    have := hP.used
    obtain ⟨k, hk, rfl⟩ := rng_mem.1 ht
    refine (m_lock hS _ lock (wf64 (by omega) (by omega)) hlw (by omega)).mono ?_
    rintro e w' ⟨rfl, h5, h6⟩
    rw [e1]
    exact ⟨rfl, ⟨_, h5, h4⟩, h6⟩
theorem FA.unlock {n u : Nat} {lock a : Int} {q : List Int} (h : FA w d (fun S => HI S n lock (a :: q) u) vl l vc cm wr) (h0 : 0 ≤ lock) (hlw : (Lit.int .i64 lock).wf = true) (ha : (Lit.int .i64 a).wf = true) :
    Calls Try.prog 22 #[.pointer (some ⟨d, 0, none⟩), .int .i64 a, .int .i64 lock] wr fun e w' => e = .returned (.int .i64 0) ∧ FA w d (fun S => HI S n lock q u) vl l vc cm w' :=
  h.call fun S X hS hP => by
    obtain ⟨e1, h4⟩ := hP.unlock h0
    refine (m_unlock hS a lock ha hlw).mono ?_
    rintro e w' ⟨rfl, h5, h6⟩
    rw [e1]
    exact ⟨rfl, ⟨_, h5, h4⟩, h6⟩
theorem FA.holder {n u : Nat} {lock : Int} {q : List Int} (h : FA w d (fun S => HI S n lock q u) vl l vc cm wr) (hlw : (Lit.int .i64 lock).wf = true) :
    Calls Try.prog 16 #[.pointer (some ⟨d, 0, none⟩), .int .i64 lock] wr fun e w' => e = .returned (.int .i64 (q.headD 0)) ∧ wr = w' := by
  obtain ⟨⟨S, X, h1, h2, _⟩, _⟩ := h
  refine (m_holder h1 lock hlw).mono ?_
  rintro e w' ⟨rfl, rfl⟩
  rw [h2.holder]
  exact ⟨rfl, rfl⟩
theorem FA.ready {n u : Nat} {lock : Int} {q : List Int} (h : FA w d (fun S => HI S n lock q u) vl l vc cm wr) :
    Calls Try.prog 12 #[.pointer (some ⟨d, 0, none⟩)] wr fun e w' => ∃ g c m : Nat, e = .returned (.slice (some ⟨g, 0, none⟩) m c) ∧ m + q.tail.length = n ∧ FA w d (fun S => HI S n lock q u) vl l vc cm w' ∧ Fr No wr w' := by
  obtain ⟨⟨S, X, h1, h2, h3, h4, h5⟩, h6, h7, h8, h9⟩ := h
  refine (m_ready h1).mono ?_
  rintro e w' ⟨g, c, rfl, ho, hf⟩
  refine ⟨g, c, S.ready.length, rfl, h2.ready, ⟨⟨S, X, h1.keep hf, h2, h3, h4, h5⟩, ?_, ?_, h8, h9.trans hf fun _ _ hj => hj.elim⟩, hf⟩
  · exact own_of h6 fun k hk => hf.block k (World.ownsRow.lt h6 k hk).2 id
  · exact own_of h7 fun k hk => hf.block k (World.ownsRow.lt h7 k hk).2 id
theorem FA.stuck {n u : Nat} {lock : Int} (h : FA w d (fun S => HI S n lock [] u) vl l vc cm wr) :
    Calls Try.prog 14 #[.pointer (some ⟨d, 0, none⟩)] wr fun e w' => e = .returned (.bool false) ∧ Fr (Out (Old w.heap.size)) w w' := by
  obtain ⟨⟨S, X, h1, h2, h3, h4, h5⟩, h6, h7, h8, h9⟩ := h
  refine (m_stuck h1).mono ?_
  rintro e w' ⟨rfl, hf⟩
  rw [h2.stuck]
  exact ⟨rfl, h9.trans hf fun _ _ hj => hj.elim⟩
end

end Go.Proofs.Ytnonidoeakhfdaa
