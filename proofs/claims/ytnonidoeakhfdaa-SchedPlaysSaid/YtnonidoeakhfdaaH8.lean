/- SchedPlays: the two lists of who is ready; the script. -/
import Derived.Test.YtnonidoeakhfdaaH7
import Derived.Lib.QuietBelow
namespace Go.Proofs.Ytnonidoeakhfdaa
open Go.RowKit Go.Maps Go.Sort
set_option linter.unusedVariables false

theorem elem22 : Try.prog.elem 22 = 34 := by kernel_rfl
theorem under22 : Try.prog.underlying 22 = some (.slice (Try.prog.elem 22)) := by kernel_rfl
theorem under22' : Try.prog.underlying 22 = some (.slice 34) := by kernel_rfl
theorem info34 : (Try.prog.info? 34).map (fun i => (i.zero, i.size, i.bytes)) = some (some (.agg #[.int .i64 0, .int .i64 0, .int .i64 0]), 3, 24) := by kernel_rfl
theorem size22 (W : World) : (sizeOf (Try.prog.elem 22)).run Try.prog W = .ok 3 W := by
  obtain ⟨i0, hi, hz0, hz1, hz2⟩ := info_parts info34
  rw [elem22]
  simp [sizeOf, typeInfo, hi, hz1]
theorem mixed : Try.prog.follows .mixedOrders = true := by kernel_rfl

/-- A script that came in. -/
structure OpsAt (w : World) (v : Value) (n : Nat) : Prop where
  len : ∀ ty W, (Builtin.len_ #[22] ty #[v]).run Try.prog W = .ok (.int .i64 n) W
  cap : n ≤ maxLen
  at_ : ∀ k, k < n → ∃ g o op, g < w.heap.size ∧ (∀ W, (Instr.indexAt 22 v (.int .i64 (k : Nat))).run Try.prog W = .ok (.pointer (some ⟨g, o, none⟩)) W) ∧
    w.cell? ⟨g, o, none⟩ = some (.int .i64 op.kind) ∧ w.cell? ⟨g, o + 1, none⟩ = some (.int .i64 op.task) ∧ w.cell? ⟨g, o + 2, none⟩ = some (.int .i64 op.num) ∧ OpV.Ok op

section
variable {w w' wr : World} {X : Nat → Prop} {d r : Nat} {S T : SS}
theorem NN.grow (h : NN w X d r S T) (hf : Fr No w w') : NN w' (fun k => X k ∨ (w.heap.size ≤ k ∧ k < w'.heap.size)) d r S T := by
  obtain ⟨⟨V, Z, h1, h2, h3, h4⟩, hW⟩ := h
  refine ⟨⟨V, Z, h1.keep hf, h2, fun k hk hx => ?_, (h4.grow hf.any).less fun k hk => ?_⟩, hW⟩
  · rcases hx with hx | hx
    · exact h3 k hk hx
    · have := h1.lt k hk; omega
  · rcases hk with (hk | hk) | hk
    · exact .inl (.inl hk)
    · exact .inr hk
    · exact .inl (.inr hk)
theorem NN.own (h : NN w X d r S T) (hf : Fr X w w') : NN w' X d r S T := by
  obtain ⟨⟨V, Z, h1, h2, h3, h4⟩, hW⟩ := h
  exact ⟨⟨V, Z, h1.fr hf fun k hx hk => h3 k hk hx, h2, h3, h4.own (hf.mono fun k _ hk => .inl hk)⟩, hW⟩
theorem NN.lready (h : NN w X d r S T) : Calls Try.prog 12 #[.pointer (some ⟨d, 0, none⟩)] w fun e w' => ∃ g c : Nat, e = .returned (.slice (some ⟨g, 0, none⟩) S.ready.length c) ∧ Own w w' (.slice (some ⟨g, 0, none⟩) S.ready.length c) S.ready ∧ Fr No w w' := by
  obtain ⟨⟨V, Z, h1, h2, h3, h4⟩, hW⟩ := h
  refine (m_ready h4).mono ?_
  rintro e w' ⟨g, c, rfl, ho, hf⟩
  exact ⟨g, c, rfl, ho, hf⟩
theorem NN.rready (h : NN w X d r S T) : Calls Try.prog 13 #[.pointer (some ⟨r, 0, none⟩)] w fun e w' => ∃ v, e = .returned v ∧ Own w w' v T.ready ∧ Fr No w w' := by
  obtain ⟨⟨V, Z, h1, h2, h3, h4⟩, hW⟩ := h
  exact r_ready h1 h2 hW
theorem NN.lstuck (h : NN w X d r S T) : Calls Try.prog 14 #[.pointer (some ⟨d, 0, none⟩)] w fun e w' => e = .returned (.bool S.stuck) ∧ Below w.heap.size w w' := by
  obtain ⟨⟨V, Z, h1, h2, h3, h4⟩, hW⟩ := h
  exact (m_stuck h4).mono fun e w' ⟨a, b⟩ => ⟨a, b.below⟩
theorem NN.rstuck (h : NN w X d r S T) : Calls Try.prog 15 #[.pointer (some ⟨r, 0, none⟩)] w fun e w' => e = .returned (.bool T.stuck) ∧ Below w.heap.size w w' := by
  obtain ⟨⟨V, Z, h1, h2, h3, h4⟩, hW⟩ := h
  exact (r_stuck h1 h2 hW).mono fun e w' ⟨a, b⟩ => ⟨a, b.below⟩
theorem NN.lholder (h : NN w X d r S T) (n : Int) (hn : (Lit.int .i64 n).wf = true) : Calls Try.prog 16 #[.pointer (some ⟨d, 0, none⟩), .int .i64 n] w fun e w' => e = .returned (.int .i64 (S.holderC n)) ∧ Below w.heap.size w w' := by
  obtain ⟨⟨V, Z, h1, h2, h3, h4⟩, hW⟩ := h
  exact (m_holder h4 n hn).mono fun e w' ⟨a, b⟩ => ⟨a, by subst b; exact Below.refl _ _⟩
theorem NN.rholder (h : NN w X d r S T) (n : Int) : Calls Try.prog 17 #[.pointer (some ⟨r, 0, none⟩), .int .i64 n] w fun e w' => e = .returned (.int .i64 (T.holderC n)) ∧ Below w.heap.size w w' := by
  obtain ⟨⟨V, Z, h1, h2, h3, h4⟩, hW⟩ := h
  exact (r_holder h1 h2 n).mono fun e w' ⟨a, b⟩ => ⟨a, by subst b; exact Below.refl _ _⟩
theorem NN.lpicks (h : NN w X d r S T) (n : Int) (hn : (Lit.int .i64 n).wf = true) : Calls Try.prog 18 #[.pointer (some ⟨d, 0, none⟩), .int .i64 n] w fun e w' => e = .returned (.int .i64 (S.picksC n)) ∧ Below w.heap.size w w' := by
  obtain ⟨⟨V, Z, h1, h2, h3, h4⟩, hW⟩ := h
  exact (m_picks h4 n hn).mono fun e w' ⟨a, b⟩ => ⟨a, by subst b; exact Below.refl _ _⟩
theorem NN.rpicks (h : NN w X d r S T) (n : Int) : Calls Try.prog 19 #[.pointer (some ⟨r, 0, none⟩), .int .i64 n] w fun e w' => e = .returned (.int .i64 (T.picksC n)) ∧ Below w.heap.size w w' := by
  obtain ⟨⟨V, Z, h1, h2, h3, h4⟩, hW⟩ := h
  exact (r_picks h1 h2 hW n).mono fun e w' ⟨a, b⟩ => ⟨a, by subst b; exact Below.refl _ _⟩
theorem NN.regrown (h : NN w X d r S T) (dd : Nat) (os : Array Obj) : NN (Go.Sort.grow (redrawn w dd) os) X d r S T := h.keep (Fr.of_below (below_regrown w dd os))
end

/-- Both lists of who is ready; of the first one j numbers were struck out. -/
structure PL (w : World) (d r : Nat) (S : SS) (va vb : Value) (j : Nat) (wr : World) : Prop where
  nn : ∃ X, NN wr X d r S S ∧ (∀ k, k < w.heap.size → X k) ∧ (∀ k, va.ownBlock = some k → X k)
  ra : Own w wr va (List.replicate j (-1) ++ S.ready.drop j)
  rb : Own w wr vb S.ready
  jl : j ≤ S.ready.length
  ap : ∀ k, va.ownBlock = some k → vb.ownBlock ≠ some k
  fr : Fr (Out (Old w.heap.size)) w wr

section
variable {w wr w' w3 w4 w5 : World} {d r : Nat} {S : SS} {va vb : Value} {j : Nat}
theorem PL.start (h : NN w3 (Old w.heap.size) d r S S) (hf : Fr (Out (Old w.heap.size)) w w3) (ha : Own w3 w4 va S.ready) (f4 : Fr No w3 w4) (hb : Own w4 w5 vb S.ready) (f5 : Fr No w4 w5) : PL w d r S va vb 0 w5 := by
  have hs := hf.size
  have hs4 := f4.size
  have f35 : Fr No w3 w5 := f4.trans f5 fun _ _ h => h
  refine ⟨⟨_, h.grow f35, fun k hk => .inl hk, fun k hk => ?_⟩, ?_, own_base hb (by omega), Nat.zero_le _, fun k hk hk2 => ?_, hf.trans f35 fun _ _ h => h.elim⟩
  · have := World.ownsRow.lt ha k hk
    have := f5.size
    right; omega
  · have : w5.ownsRow w3.heap.size 3 1 va S.ready.length (S.ready.map encZ) := own_of ha fun k hk => f5.block k (World.ownsRow.lt ha k hk).2 id
    simpa [Own] using own_base this hs
  · have := World.ownsRow.lt ha k hk
    have := World.ownsRow.lt hb k hk2
    omega
theorem PL.keep (h : PL w d r S va vb j wr) (hf : Fr No wr w') : PL w d r S va vb j w' := by
  obtain ⟨X, h1, h2, h3⟩ := h.nn
  exact ⟨⟨X, h1.keep hf, h2, h3⟩, own_of h.ra fun k hk => hf.block k (World.ownsRow.lt h.ra k hk).2 id, own_of h.rb fun k hk => hf.block k (World.ownsRow.lt h.rb k hk).2 id, h.jl, h.ap, h.fr.trans hf fun _ _ h => h.elim⟩
theorem PL.pair (h : PL w d r S va vb j wr) : NN wr (Old w.heap.size) d r S S := by
  obtain ⟨X, h1, h2, h3⟩ := h.nn
  exact h1.less fun k hk => h2 k hk
theorem PL.at_ (h : PL w d r S va vb j wr) (hj : j < S.ready.length) :
    ∃ ga gb x, (∀ W, (Instr.indexAt 29 va (.int .i64 (j : Nat))).run Try.prog W = .ok (.pointer (some ⟨ga, j, none⟩)) W) ∧ wr.cell? ⟨ga, j, none⟩ = some (.int .i64 x) ∧ wr.frozen? ⟨ga, j, none⟩ = false ∧
      (∀ W, (Instr.indexAt 29 vb (.int .i64 (j : Nat))).run Try.prog W = .ok (.pointer (some ⟨gb, j, none⟩)) W) ∧ wr.cell? ⟨gb, j, none⟩ = some (.int .i64 x) ∧ PL w d r S va vb (j + 1) (wr.setCell ⟨ga, j, none⟩ (.int .i64 (-1))) := by
  have hl : (List.replicate j (-1 : Int) ++ S.ready.drop j).length = S.ready.length := by simp; omega
  have hx : (List.replicate j (-1 : Int) ++ S.ready.drop j)[j]? = some S.ready[j] := by
    rw [List.getElem?_append_right (by simp), List.length_replicate, Nat.sub_self, List.getElem?_drop, Nat.add_zero, List.getElem?_eq_getElem hj]
  obtain ⟨ga, hga, hix, hc, hf, ho⟩ := own_store h.ra (k := j) (by omega) (-1)
  obtain ⟨gb, hgb, hixb, hcb⟩ := own_at h.rb (List.getElem?_eq_getElem hj)
  have hval : (List.replicate j (-1 : Int) ++ S.ready.drop j)[j]'(by omega) = S.ready[j] := by
    obtain ⟨_, e⟩ := List.getElem?_eq_some_iff.1 hx
    exact e
  have hset : (List.replicate j (-1 : Int) ++ S.ready.drop j).set j (-1) = List.replicate (j + 1) (-1) ++ S.ready.drop (j + 1) := by
    rw [List.set_append_right _ _ (by simp), List.length_replicate, Nat.sub_self, List.drop_eq_getElem_cons hj, List.set_cons_zero, List.replicate_succ', List.append_assoc]; rfl
  obtain ⟨X, h1, h2, h3⟩ := h.nn
  have hfr : Fr (fun k => va.ownBlock = some k) wr (wr.setCell ⟨ga, j, none⟩ (.int .i64 (-1))) := (Fr.refl _ wr).setCell (p := ⟨ga, j, none⟩) (fun _ => hga) _
  refine ⟨ga, gb, S.ready[j], hix, by rw [hc, hval], hf, hixb, hcb, ⟨X, h1.own (hfr.mono fun k _ hk => h3 k hk), h2, h3⟩, by rw [← hset]; exact ho, own_of h.rb fun k hk => hfr.block k (World.ownsRow.lt h.rb k hk).2 fun hk2 => h.ap k hk2 hk, hj, h.ap, h.fr.trans hfr fun k _ hk ho => ?_⟩
  have := (World.ownsRow.lt h.ra k hk).1
  have ho' : k < w.heap.size := ho
  omega
end

/-- At the start of the law. -/
theorem plays_start {w2 : World} {X : Nat → Prop} {d : Nat} (h : Sc w2 X d SS.zero) : NN (w2.alloc (.cells #[.int .i64 0, .slice none 0 0, .slice none 0 0, .slice none 0 0, .slice none 0 0] 31)) X d w2.heap.size SS.zero SS.zero := by
  have hb := Blk.new w2 31 #[.int .i64 0, .slice none 0 0, .slice none 0 0, .slice none 0 0, .slice none 0 0]
  have hf : Fr No w2 (w2.alloc (.cells #[.int .i64 0, .slice none 0 0, .slice none 0 0, .slice none 0 0, .slice none 0 0] 31)) := (Fr.refl No w2).alloc _
  have hfoot : ∀ k, footR w2.heap.size (fun _ => .slice none 0 0) k → k = w2.heap.size := fun k hk => by
    rcases hk with hk | ⟨i, _, hk⟩
    · exact hk
    · simp [Value.ownBlock] at hk
  refine ⟨⟨fun _ => .slice none 0 0, ZS.zero, ⟨hb, fun i hi => ?_, fun k hk => by simp [Value.ownBlock] at hk⟩, Sim.zero, fun k hk hx => ?_, (h.grow hf.any).less fun k hk => ?_⟩, zero_wf⟩
  · have : i = 0 ∨ i = 1 ∨ i = 2 ∨ i = 3 := by omega
    rcases this with rfl | rfl | rfl | rfl <;> exact World.ownsRow_nil _ _ _ _
  · have := hfoot k hk; have := h.there k hx; omega
  · rcases hk with hk | hk
    · exact .inl hk
    · have := hfoot k hk; right; simp; omega

end Go.Proofs.Ytnonidoeakhfdaa
