/- Entries: a key and numbers; they are sorted by their keys. -/
import Derived.Test.YtlpglijikmnopaaGreatDoorUG15
namespace Go.Proofs.YtlpglijikmnopaaGreatDoor
open Go.RowKit Go.Maps Go.Sort Go.Proofs Go.Shelf
set_option linter.unusedVariables false

abbrev En := Ky × List Int
def entG (b : Nat) (K : Nat → Prop) (w : World) (x : En) (cs : List Value) : Prop := ∃ kv mv, cs = [kv, mv] ∧ KRz (fun k => K k ∧ b ≤ k) w kv x.1 ∧ IR K w mv x.2
theorem entG_elem (b : Nat) : Elem (entG b) := ⟨fun K K' w w' x cs h hk => by
  obtain ⟨dv, mv, e, h1, h2⟩ := h
  exact ⟨dv, mv, e, h1.mono (fun k hk' hlt => ⟨⟨(hk k hk'.1 hlt).1, hk'.2⟩, (hk k hk'.1 hlt).2⟩) fun _ _ h => h, h2.mono hk fun _ _ h => h⟩⟩
theorem entG_c (b : Nat) : ElemC (entG b) := ⟨fun K w x cs ⟨dv, mv, e, h1, h2⟩ => ⟨dv, mv, e, h1.cells.mono (fun k hk _ => ⟨⟨⟨hk.1.1, hk.2⟩, hk.1.2⟩, rfl⟩) (fun _ _ h => h), RowE.cells intG_c (by decide) h2⟩⟩
theorem IR.one {K : Nat → Prop} {w : World} {v : Value} {l : List Int} (h : IR K w v l) : v.oneCell' = true := by
  obtain ⟨A, c, rfl, _⟩ := h.form
  rfl
theorem entG_one (b : Nat) : ∀ K w x cs, entG b K w x cs → ∀ u ∈ cs, u.oneCell' = true := by
  rintro K w x cs ⟨kv, mv, rfl, h1, h2⟩ u hu
  simp only [List.mem_cons, List.not_mem_nil, or_false] at hu
  rcases hu with rfl | rfl
  · exact h1.one
  · exact h2.one
theorem closE_any (b0 : Nat) (K : Nat → Prop) (w : World) (x y : En) (cs ds : List Value) (hx : entG b0 K w x cs) (hy : entG b0 K w y ds) : Calls Tryz.prog 43 #[.agg cs.toArray, .agg ds.toArray] w fun e w'' => e = .returned (.int .i64 (cmpK x.1 y.1)) ∧ ∃ os', w'' = grow w os' := by
  obtain ⟨kv, pv, rfl, h1, h2⟩ := hx
  obtain ⟨kv2, pv2, rfl, h3, h4⟩ := hy
  obtain ⟨b, hb⟩ : ∃ b, w.heap.size = b := ⟨_, rfl⟩
  obtain ⟨w2, hw2⟩ : ∃ w2, (w.alloc (.cells #[kv, pv] 80)).alloc (.cells #[kv2, pv2] 80) = w2 := ⟨_, rfl⟩
  have f2 : Fr No w w2 := by rw [← hw2]; exact ((Fr.refl No w).alloc _).alloc _
  have hx2 : Blk w2 b 80 #[kv, pv] := by rw [← hw2, ← hb]; exact (Blk.new w 80 _).no ((Fr.refl No _).alloc _)
  have hy2 : Blk w2 (b + 1) 80 #[kv2, pv2] := by rw [← hw2, ← hb]; exact blk_at1 w _ 80 _
  have HC := Lib.hid (compare_x w2 (h1.no f2).1 (h3.no f2).1)
  have hend : ∃ os', w2 = grow w os' := ⟨#[.cells #[kv, pv] 80] ++ #[.cells #[kv2, pv2] 80], by rw [← hw2, alloc_eq_grow, alloc_eq_grow, grow_grow]⟩
  have HEND := Lib.hid hend
  have c0 := hx2.cell 0
  have d0 := hy2.cell 0
  obtain ⟨A, ca, rfl, -⟩ := h1.form
  obtain ⟨B, cb, rfl, -⟩ := h3.form
  obtain ⟨C, cc, rfl, -⟩ := h2.form
  obtain ⟨D, cd, rfl, -⟩ := h4.form
  have HW2 := Lib.hid hw2
  have HB := Lib.hid hb
  generalize x.1.length = xn at *
  generalize y.1.length = yn at *
  generalize x.2.length = xp at *
  generalize y.2.length = yp at *
  generalize cmpK x.1 y.1 = q at *
  clear h1 h2 h3 h4 hx2 hy2 f2 hw2 hb hend
  go_enter Tryz.func43, Tryz.ntmps43
  go_upto_region 1 with fail
  rw [HB.out, HW2.out]
  go_wp2_with fail
  refine HC.out.mono ?_
  rintro e w' ⟨rfl, rfl⟩
  go_wp2_with fail
  go_ret
  exact ⟨rfl, HEND.out⟩
theorem sortE_any {X : Nat → Prop} {b b0 : Nat} {w : World} {v : Value} {l : List En} (h : GrX X b 80 2 (entG b0) w v l) (hlen : l.length < 4611686018427387904) :
    Calls Tryz.prog 42 #[v, .func (.func 43) #[] #[]] w fun en w' => en = .returned (.tuple #[]) ∧ ∃ l', l'.Perm l ∧ (l'.Pairwise fun x y => ¬ y.1 < x.1) ∧ GrX X b 80 2 (entG b0) w' v l' ∧ Fr (fun k => v.ownBlock = some k) w w' :=
  sort_rows Tryz.laySE (entG_elem b0) (by intro w; kernel_rfl) (by intro w; kernel_rfl) (by decide) Prod.fst (enters_of Tryz.func43 (by kernel_rfl) rfl) (entG_one b0) (closE_any b0) h hlen
section
variable {F : Fence} {n : Nat} {P : Program} {ops : Array Oper} {rest : List Oper} {o : Oper} {a : Act} {Q : Exit → Act → World → Prop} {w : World}
/-- append, by what it comes to, inside a fence. -/
theorem wpListIn_add (hgd : o.guard = none) (sl x : Operand) (t1 t2 : TypeId) (ho : o.op = .call { callee := .builtin .append, args := #[sl, x], argTypes := #[t1, t2] })
    (v v' xv : Value) (w1 : World) (hs : a.eval sl = v) (hx : a.eval x = xv) (hr : (Builtin.append_ #[t1, t2] o.type #[v, xv]).run P w = .ok v' w1)
    (h : wpListIn F n P ops Q rest (a.put o.dst v') w1) : wpListIn F n P ops Q (o :: rest) a w := by
  refine wpListIn_plain hgd fun K hK => ?_
  unfold Oper.wpIn
  refine ⟨by simp [Oper.about, ho, resolve, Target.leads, Sem.run_pure], ?_⟩
  rw [Oper.semAt_plain F _ _ (by rw [ho]; intro c hc'; cases hc')]
  simp [execOp, ho, resolve, invoke, builtin, hs, hx, hr, Result.andThen]
  exact hK _ _ h
end
/-- What the loop of Sort keeps. -/
def LI (B B9 n0 : Nat) (w : World) (s : Nat) (pre : List Yd) (W : World) : Prop :=
  n0 ≤ s ∧ (∃ v, Blk W B9 78 #[v] ∧ GrX (fun k => k ≠ B9) B 80 2 (entG B) W v (lT pre) ∧ ∀ k, v.ownBlock = some k → k < s ∧ (k = B ∨ n0 ≤ k)) ∧ Fr (fun k => k = B9 ∨ k = B ∨ n0 ≤ k) w W
theorem LI.no {B B9 n0 : Nat} {w : World} {s : Nat} {pre : List Yd} {W W' : World} (h : LI B B9 n0 w s pre W) (f : Fr No W W') : LI B B9 n0 w s pre W' := by
  obtain ⟨h0, ⟨v, h1, h2, h3⟩, h4⟩ := h
  exact ⟨h0, ⟨v, h1.no f, h2.keep (entG_elem B) f fun _ h _ => h.elim, h3⟩, h4.trans f fun _ _ h => h.elim⟩
theorem LI.up {B B9 n0 : Nat} {w : World} {s s' : Nat} {pre : List Yd} {W : World} (h : LI B B9 n0 w s pre W) (hs : s ≤ s') : LI B B9 n0 w s' pre W := by
  obtain ⟨h0, ⟨v, h1, h2, h3⟩, h4⟩ := h
  exact ⟨by omega, ⟨v, h1, h2, fun k hk => by have := h3 k hk; exact ⟨by omega, this.2⟩⟩, h4⟩
theorem LI.turn {B B9 n0 : Nat} {w : World} {s : Nat} {pre : List Yd} {W : World} (h : LI B B9 n0 w s pre W) {r : Nat} {o o' : Obj} (hr : W.heap[r]? = some o) (ho : o.isCells = false) (hn : n0 ≤ r) : LI B B9 n0 w s pre (W.putObj r o') := by
  obtain ⟨h0, ⟨v, h1, h2, h3⟩, h4⟩ := h
  exact ⟨h0, ⟨v, h1.of (frc_put hr ho _ h1.isC), h2.turn (entG_elem B) (entG_c B) (frc_put hr ho) (by rw [size_put]; exact Nat.le_refl _), h3⟩, fr_put h4 (.inr (.inr hn))⟩
theorem info80 : (Tryz.prog.info? 80).map (fun i => (i.zero, i.size, i.bytes)) = some (some (.agg #[.slice none 0 0, .slice none 0 0]), 2, 48) := by kernel_rfl
/-- One entry more. -/
theorem LI.step {B B9 n0 : Nat} {w : World} {s : Nat} {pre : List Yd} {x : Yd} {W : World} (h : LI B B9 n0 w s pre W) (hs : s ≤ W.heap.size) (hB : B < B9 ∧ B9 < n0) (hx : ydR B s x W) (hn : pre.length < 4000000) :
    ∃ v A c w', Blk W B9 78 #[v] ∧ (∃ A1 n1 c1, v = .slice A1 n1 c1) ∧ (∀ ty, (Builtin.append_ #[78, 78] ty #[v, .slice (some ⟨W.heap.size, 0, none⟩) 1 1]).run Tryz.prog (W.alloc (.cells #[x.kv, x.mv] 80)) = .ok (.slice A (pre.length + 1) c) w') ∧ Blk w' B9 78 #[v] ∧
      Bk n0 W (w'.setCell ⟨B9, 0, none⟩ (.slice A (pre.length + 1) c)) ∧ Fr (fun k => k = B9 ∨ k = B ∨ n0 ≤ k) W (w'.setCell ⟨B9, 0, none⟩ (.slice A (pre.length + 1) c)) ∧
      LI B B9 n0 w (w'.setCell ⟨B9, 0, none⟩ (.slice A (pre.length + 1) c)).heap.size (pre ++ [x]) (w'.setCell ⟨B9, 0, none⟩ (.slice A (pre.length + 1) c)) := by
  obtain ⟨h0, ⟨v, h1, h2, h3⟩, h4⟩ := h
  obtain ⟨hk, hi, -⟩ := hx
  have hlt : (lT pre).length = pre.length := by unfold lT; rw [List.length_map]
  have hvb : v.ownBlock ≠ some B9 := fun e => by have := (h3 B9 e).2; omega
  obtain ⟨A, c, w', hr, hg, hf, ho⟩ := h2.add (bytes := 48) (entG_elem B) (by omega) 78 Tryz.underlying78 _ info80 rfl (by decide) (x.k, x.ms) [x.kv, x.mv] rfl
    (fun u hu => by
      simp only [List.mem_cons, List.not_mem_nil, or_false] at hu
      rcases hu with rfl | rfl
      · exact hk.one
      · exact hi.one) (K' := fun k => s ≤ k ∨ k < B)
    ⟨x.kv, x.mv, rfl, hk.mono (fun k hk _ => ⟨⟨.inl hk, by omega⟩, rfl⟩) (fun _ _ h => h), hi.mono (fun k hk _ => ⟨.inr hk, rfl⟩) fun _ _ h => h⟩
    (fun k hk _ => ⟨by rcases hk with h | h <;> omega, fun e => by
      have := (h3 k e).1
      have := (h2.lt k e).1
      rcases hk with h | h <;> omega⟩) (by rw [hlt]; omega) (by rw [hlt]; unfold maxLen; omega)
  rw [hlt] at hr hg ho
  have hb' : Blk w' B9 78 #[v] := h1.of (hf.block B9 h1.lt hvb)
  obtain ⟨W', hW'⟩ : ∃ W', w'.setCell ⟨B9, 0, none⟩ (.slice A (pre.length + 1) c) = W' := ⟨_, rfl⟩
  have hfs : Fr (fun k => k = B9) w' W' := by rw [← hW']; exact (Fr.refl (fun k => k = B9) w').setCell (p := ⟨B9, 0, none⟩) (fun _ => rfl) _
  have hfa : Fr (fun k => k = B9 ∨ v.ownBlock = some k) W W' := (hf.mono fun k _ h => .inr h).trans hfs fun k _ h => .inl h
  have hFr : Fr (fun k => k = B9 ∨ k = B ∨ n0 ≤ k) W W' := hfa.mono fun k _ h => by
    rcases h with h | h
    · exact .inl h
    · exact .inr (h3 k h).2
  have hbW : Blk W' B9 78 #[.slice A (pre.length + 1) c] := by rw [← hW']; exact hb'.set_ 0 _
  have hoo : ∀ k, (Value.slice A (pre.length + 1) c).ownBlock = some k → k = B ∨ n0 ≤ k := fun k e => by
    rcases (ho k e).2 with h | h
    · exact (h3 k h).2
    · exact .inr (by omega)
  have hog : (Value.slice A (pre.length + 1) c).ownBlock ≠ some B9 := fun e => by have := hoo B9 e; omega
  have hgW : GrX (fun k => k ≠ B9) B 80 2 (entG B) W' (.slice A (pre.length + 1) c) (lT (pre ++ [x])) := by
    rw [show lT (pre ++ [x]) = lT pre ++ [(x.k, x.ms)] by unfold lT; rw [List.map_append]; rfl]
    exact hg.keep (entG_elem B) hfs fun k hk _ => ⟨fun hn => hn hk, fun e => hog (by rw [← hk]; exact e)⟩
  refine ⟨v, A, c, w', h1, ?_, hr, hb', ?_⟩
  · obtain ⟨A1, c1, e⟩ := h2.len
    exact ⟨A1, _, c1, e⟩
  rw [hW']
  refine ⟨fun r o hr ho hc => ?_, hFr, by have := hFr.size; omega, ⟨_, hbW, hgW, fun k hk => ?_⟩, h4.trans hFr fun _ _ h => h⟩
  · refine (hfa.block r (Array.getElem?_eq_some_iff.1 ho).1 ?_).trans ho
    rintro (h | h)
    · omega
    · obtain ⟨K, xs, how, _⟩ := h2
      obtain ⟨cur, hc2⟩ := own_row how h
      exact not_isC ho hc ⟨_, _, _, hc2⟩
  · exact ⟨(hgW.lt k hk).2, hoo k hk⟩
end Go.Proofs.YtlpglijikmnopaaGreatDoor
namespace Go.Proofs.YtlpglijikmnopaaGreatDoor
open Go.RowKit Go.Maps Go.Sort Go.Proofs Go.Shelf
set_option linter.unusedVariables false

theorem ent_at {B9 b B : Nat} {w : World} {A : Option Addr} {n c : Nat} {l : List En} (h : GrX (fun k => k ≠ B9) b 80 2 (entG B) w (.slice A n c) l) {j : Nat} (hj : j < l.length) :
    ∃ g A1 n1 c1 A2 n2 c2, A = some ⟨g, 0, none⟩ ∧ n = l.length ∧ b ≤ g ∧ g < w.heap.size ∧ w.cell? ⟨g, j * 2, none⟩ = some (.slice A1 n1 c1) ∧ w.cell? ⟨g, j * 2 + 1, none⟩ = some (.slice A2 n2 c2) ∧ KRz (fun k => B ≤ k ∧ k < w.heap.size) w (.slice A1 n1 c1) l[j].1 ∧ IR (fun k => k < w.heap.size) w (.slice A2 n2 c2) l[j].2 := by
  have hlt := h.lt
  obtain ⟨K, xs, ho, hel, hK⟩ := h
  have ho' := ho
  rcases ho.2 with ⟨_, e2⟩ | ⟨g, cap, cur, e1, _⟩
  · omega
  · injection e1 with e1 e2 e3
    subst e1; subst e2; subst e3
    obtain ⟨cs, hcl, hcs, kv, mv, rfl, hkr, hir⟩ := hel j hj
    obtain ⟨A1, c1, rfl, _⟩ := hkr.form
    obtain ⟨A2, c2, rfl, _⟩ := hir.form
    have hb : j * 2 + 2 ≤ l.length * 2 := by omega
    exact ⟨g, A1, _, c1, A2, _, c2, rfl, rfl, (hlt g rfl).1, (hlt g rfl).2, (ho'.cellAt (j * 2) (by omega)).trans (hcs 0 (by decide)), (ho'.cellAt (j * 2 + 1) (by omega)).trans (hcs 1 (by decide)),
      hkr.mono (fun k hk _ => ⟨⟨hk.2, (hK k hk.1).2.1⟩, rfl⟩) (fun _ _ h => h), hir.mono (fun k hk _ => ⟨(hK k hk).2.1, rfl⟩) fun _ _ h => h⟩
/-- The rows so far. -/
abbrev RG (B n1 : Nat) (W : World) (v : Value) (l : List Rw) : Prop := GrX (fun k => B ≤ k) n1 50 3 rwU W v l
theorem RG.keep {B n1 : Nat} {W W' : World} {v : Value} {l : List Rw} (h : RG B n1 W v l) (f : Fr No W W') : RG B n1 W' v l := GrX.keep rwU_elem h f fun _ h _ => h.elim
theorem RG.sm {B n1 : Nat} {A : Option Addr} {n c : Nat} {l : List Rw} {w : World} (h : RG B n1 w (.slice A n c) l) (hl : 0 < l.length) : ∃ gr, A = some ⟨gr, 0, none⟩ ∧ n = l.length ∧ n1 ≤ gr ∧ gr < w.heap.size := by
  have hlt := h.lt
  obtain ⟨K, xs, ho, _⟩ := h
  rcases ho.2 with ⟨_, h0⟩ | ⟨g, cap, cur, e1, _⟩
  · omega
  · injection e1 with e1 e2 _
    subst e1; subst e2
    exact ⟨g, rfl, rfl, (hlt g rfl).1, (hlt g rfl).2⟩
/-- A row more. -/
theorem RG.add {B n1 : Nat} {w wx : World} {v kv zv : Value} {l : List Rw} {k : Ky} {z : Ac} (h : RG B n1 w v l) (f : Fr No w wx) (hkr : KRz (fun j => B ≤ j ∧ j < n1) wx kv k) (hz : PO w.heap.size wx zv z.parts) (h1 : B ≤ n1 ∧ n1 ≤ w.heap.size) (hl : l.length < 4000000) :
    ∃ A c w', (∀ ty, (Builtin.append_ #[28, 28] ty #[v, .slice (some ⟨wx.heap.size, 0, none⟩) 1 1]).run Tryz.prog (wx.alloc (.cells #[kv, .int .i64 z.count, zv] 50)) = .ok (.slice A (l.length + 1) c) w') ∧ RG B n1 w' (.slice A (l.length + 1) c) (l ++ [⟨k, z⟩]) ∧ Fr (fun j => v.ownBlock = some j) w w' := by
  obtain ⟨A, c, w', hr, hg, hf, ho⟩ := GrX.add (bytes := 56) rwU_elem (h.keep f) (by have := f.size; omega) 28 Tryz.underlying28 (.agg #[.slice none 0 0, .int .i64 0, .slice none 0 0]) (by kernel_rfl) rfl (by decide) (⟨k, z⟩ : Rw) [kv, .int .i64 z.count, zv] rfl
    (fun u hu => by
      simp only [List.mem_cons, List.not_mem_nil, or_false] at hu
      rcases hu with rfl | rfl | rfl
      · exact hkr.one
      · rfl
      · exact hz.pr.one) (K' := fun j => (B ≤ j ∧ j < n1) ∨ w.heap.size ≤ j)
    ⟨kv, zv, rfl, hkr.mono (fun j hj _ => ⟨.inl hj, rfl⟩) (fun _ _ h => h), hz.prz.mono' fun j hj _ => ⟨.inr hj, rfl⟩⟩
    (fun j hj _ => ⟨by rcases hj with hj | hj <;> omega, fun e => by
      have := h.lt j e
      rcases hj with hj | hj <;> omega⟩) (by omega) (by unfold maxLen; omega)
  exact ⟨A, c, w', hr, hg, f.any.trans hf fun _ _ h => h⟩
theorem RG.look {B n1 gr n c i : Nat} {l : List Rw} {w : World} (h : RG B n1 w (.slice (some ⟨gr, 0, none⟩) n c) l) (hi : i < l.length) :
    (∃ A m c, w.cell? ⟨gr, i * 3 + 1, none⟩ = some (.int .i64 l[i].acc.count) ∧ w.cell? ⟨gr, i * 3 + 2, none⟩ = some (.slice A m c) ∧ PRz (fun k => B ≤ k) w (.slice A m c) l[i].acc.parts) ∧ (∀ j, w.frozen? ⟨gr, j, none⟩ = false) := by
  obtain ⟨⟨kv, pv0, -, h1, h2, h3⟩, hz, -⟩ := h.setAz hi ⟨0, []⟩ (pv := .slice none 0 0) (K' := No) (PRz.nil _ _) fun j hj => hj.elim
  obtain ⟨A, c, rfl, _⟩ := h3.form
  exact ⟨⟨A, _, c, h1, h2, h3⟩, hz⟩
theorem RG.store {B n1 gr n c i : Nat} {l : List Rw} {w : World} (h : RG B n1 w (.slice (some ⟨gr, 0, none⟩) n c) l) (hi : i < l.length) (a : Ac) {w2 : World} {pv : Value} (f : Fr No w w2) (hp : PO w.heap.size w2 pv a.parts) (h1 : B ≤ n1 ∧ n1 ≤ w.heap.size) :
    RG B n1 ((w2.setCell ⟨gr, i * 3 + 1, none⟩ (.int .i64 a.count)).setCell ⟨gr, i * 3 + 2, none⟩ pv) (.slice (some ⟨gr, 0, none⟩) n c) (setA l i a) ∧
    Fr (fun j => n1 ≤ j) w ((w2.setCell ⟨gr, i * 3 + 1, none⟩ (.int .i64 a.count)).setCell ⟨gr, i * 3 + 2, none⟩ pv) := by
  have hgr := h.lt gr rfl
  obtain ⟨-, -, h4⟩ := GrX.setAz (h.keep f) hi a (pv := pv) (K' := fun k => w.heap.size ≤ k) hp.prz fun j hj hlt => ⟨by omega, by omega⟩
  exact ⟨h4, ((f.any (G := fun j => n1 ≤ j)).setCell (p := ⟨gr, i * 3 + 1, none⟩) (fun _ => hgr.1) _).setCell (p := ⟨gr, i * 3 + 2, none⟩) (fun _ => hgr.1) _⟩
/-- The rows of the first j entries. -/
def rowsL (z : Ac) (l : List En) : List Rw := l.foldl (fun rows e => lastG takeA z rows e.1 e.2) []
theorem rowsL_snoc (z : Ac) (l : List En) (e : En) : rowsL z (l ++ [e]) = lastG takeA z (rowsL z l) e.1 e.2 := by unfold rowsL; rw [List.foldl_append]; rfl
theorem lastG_key {γ : Type} (step : Ac → γ → Ac) (z : Ac) (l : List Rw) (k : Ky) (x : γ) : ((lastG step z l k x).getLast?).map Rw.key = some k := by
  unfold lastG
  split
  · split
    · rename_i r _ e; simp [e]
    · simp
  · simp
theorem rowsL_last (z : Ac) {l : List En} {j : Nat} (h : j < l.length) : ((rowsL z (l.take (j + 1))).getLast?).map Rw.key = some l[j].1 := by
  rw [take_succ h, rowsL_snoc]
  exact lastG_key _ _ _ _ _
theorem lastG_len {γ : Type} (step : Ac → γ → Ac) (z : Ac) (l : List Rw) (k : Ky) (x : γ) : (lastG step z l k x).length ≤ l.length + 1 := by
  unfold lastG
  split
  · split
    · simp
    · simp
  · simp
theorem rowsL_len (z : Ac) (l : List En) : (rowsL z l).length ≤ l.length := by
  induction l using snoc_ind with
  | h0 => simp [rowsL]
  | h1 l x ih =>
    rw [rowsL_snoc]
    have := lastG_len takeA z (rowsL z l) x.1 x.2
    simp
    omega
theorem wf_last {z : Ac} (hz : Lok z.parts) {l : List Rw} (h : Wf l) {k : Ky} {ns : List Int} (hn : ∀ n ∈ ns, i64' n) : Wf (lastG takeA z l k ns) := by
  intro r hr
  unfold lastG at hr
  split at hr
  · rename_i r0 h0
    split at hr
    · rcases List.mem_append.1 hr with hr | hr
      · exact h r (List.dropLast_subset _ hr)
      · simp only [List.mem_singleton] at hr
        rw [hr]
        exact (h r0 (List.mem_of_getLast? h0)).take hn
    · rcases List.mem_append.1 hr with hr | hr
      · exact h r hr
      · simp only [List.mem_singleton] at hr
        rw [hr]
        exact hz.take hn
  · simp only [List.mem_singleton] at hr
    rw [hr]
    exact hz.take hn
/-- The last row, with more: a new one, or the old one. -/
theorem lastG_new {z : Ac} {l : List Rw} {k : Ky} {ns : List Int} (h : (l.getLast?).map Rw.key ≠ some k) : lastG takeA z l k ns = setA (l ++ [⟨k, z⟩]) l.length (takeA z ns) := by
  have e : setA (l ++ [⟨k, z⟩]) l.length (takeA z ns) = l ++ [⟨k, takeA z ns⟩] := by
    unfold setA
    simp
  rw [e]
  unfold lastG
  split
  · rename_i r hr
    rw [if_neg (fun e => h (by rw [hr, Option.map_some, e]))]
  · rename_i hr
    rw [List.getLast?_eq_none_iff.1 hr]
    rfl
theorem lastG_old {z : Ac} {l : List Rw} {k : Ky} {ns : List Int} (h : (l.getLast?).map Rw.key = some k) (hi : l.length - 1 < l.length) : lastG takeA z l k ns = setA l (l.length - 1) (takeA l[l.length - 1].acc ns) := by
  unfold lastG setA
  have h1 : l.getLast? = some l[l.length - 1] := by rw [List.getLast?_eq_getElem?, List.getElem?_eq_getElem hi]
  rw [h1] at h ⊢
  rw [List.getElem?_eq_getElem hi]
  simp only [Option.map_some, Option.some.injEq] at h ⊢
  rw [if_pos h]
  apply List.ext_getElem
  · simp; omega
  · intro i h2 h3
    rw [List.getElem_set]
    by_cases e : l.length - 1 = i
    · rw [if_pos e]; subst e; rw [List.getElem_append_right (by simp)]; simp
    · rw [if_neg e]
      have hi2 : i < l.length - 1 := by simp at h2; omega
      rw [List.getElem_append_left (by simp; omega), List.getElem_dropLast]
end Go.Proofs.YtlpglijikmnopaaGreatDoor
namespace Go.Proofs.YtlpglijikmnopaaGreatDoor
open Go.RowKit Go.Maps Go.Sort Go.Proofs
set_option linter.unusedVariables false

theorem addS_comm (s : Sm) (x y : Int) : addS (addS s x) y = addS (addS s y) x := by
  unfold addS
  rw [plusS_assoc, plusS_comm (ofS x), ← plusS_assoc]
theorem withP_comm (p : Pt) (x y : Int) : withP (withP p x) y = withP (withP p y) x := by
  unfold withP
  cases p.any
  · simp only [addS_comm p.s x y]; simp [Int.min_comm x y, Int.max_comm x y]
  · simp only [addS_comm p.s x y]; simp [Int.min_assoc, Int.max_assoc, Int.min_comm x y, Int.max_comm x y]
theorem takeL_comm (l : List Pt) (xs ys : List Int) : takeL (takeL l xs) ys = takeL (takeL l ys) xs := by
  apply List.ext_getElem?
  intro i
  rw [takeL_get, takeL_get, takeL_get, takeL_get]
  cases l[i]? with
  | none => rfl
  | some p =>
    simp only [Option.map_some]
    cases xs[i]? with
    | none => cases ys[i]? <;> rfl
    | some x =>
      cases ys[i]? with
      | none => rfl
      | some y => simp only [withP_comm]
theorem takeA_comm (a : Ac) (xs ys : List Int) : takeA (takeA a xs) ys = takeA (takeA a ys) xs := by
  unfold takeA
  simp only [takeL_comm a.parts xs ys]
theorem takeA_perm {l m : List (List Int)} (h : l.Perm m) : ∀ a, l.foldl takeA a = m.foldl takeA a := by
  induction h with
  | nil => intro p; rfl
  | cons x _ ih => intro p; exact ih _
  | swap x y l => intro p; simp only [List.foldl_cons]; rw [takeA_comm]
  | trans _ _ ih1 ih2 => intro p; rw [ih1, ih2]
theorem rows_sorted (z : Ac) {es l : List En} (hp : l.Perm es) (hs : l.Pairwise fun x y => ¬ y.1 < x.1) : rowsL z l = grpL takeA z es := by
  show l.foldl (fun rows e => lastG takeA z rows e.1 e.2) [] = _
  rw [grp_last takeA z hs]
  exact grp_perm takeA z hp fun l m h => takeA_perm h z
theorem RG.rr {B n1 : Nat} {W : World} {v : Value} {l : List Rw} (h : RG B n1 W v l) (hB : B ≤ n1) : RRz (fun k => B ≤ k) W v l := by
  obtain ⟨K, xs, ho, hel, hK⟩ := h
  have h2 : GrX (fun k => B ≤ k) B 50 3 rwU W v l := ⟨K, xs, ⟨ho.1, ho.2.imp id fun ⟨g, cap, cur, e, hb, rest⟩ => ⟨g, cap, cur, e, Nat.le_trans hB hb, rest⟩⟩, hel, hK⟩
  exact (h2.grow fun k hk => hk).row rwU_elem
/-- A way out that is no panic. -/
def noP (Q : Exit → Act → World → Prop) : Exit → Act → World → Prop
  | .panic _, _, _ => False
  | e, a, w => Q e a w
theorem wp_noP {P : Program} {c : Code} {id : Nat} {K : Act → World → Prop} {Q : Exit → Act → World → Prop} {a : Act} {w : World} (h : c.wp P (Exit.inBlock id (Exit.then K (noP Q))) a w) : c.wp P (Exit.inBlock id (Exit.then K Q)) a w :=
  wp_mono h fun e a w hq => by
    cases e with
    | exit id' =>
      unfold Exit.inBlock at hq ⊢
      simp only at hq ⊢
      split at hq
      · rename_i h; rw [if_pos h]; exact hq
      · rename_i h; rw [if_neg h]; exact hq
    | panic ch => exact hq.elim
    | normal => exact hq
    | ret => exact hq
    | goto t => exact hq
    | outgrown => exact hq
/-- What a round of Sort's second loop leaves. -/
def SRel (B n1 : Nat) (z : Ac) (l' : List En) (wb : World) (j gr i c : Nat) (wx : World) : Prop := ∃ (j' a' : Nat) (A' : Option Addr) (c' : Nat), Value.int .i64 ((j : Int) + 1) = .int .i64 (j' : Nat) ∧ j' = j + 1 ∧ Value.slice (some ⟨gr, 0, none⟩) (i + 1) c = .slice A' a' c' ∧
  a' = (rowsL z (l'.take j')).length ∧ RG B n1 wx (.slice A' a' c') (rowsL z (l'.take j')) ∧ Wf (rowsL z (l'.take j')) ∧ Fr (fun k => n1 ≤ k) wb wx
theorem pos_succ2 {j g n : Nat} (h : j + g = n) (hj : j < n) : ∃ g1, g = g1 + 1 := ⟨g - 1, by omega⟩
theorem assoc2 {j g1 n : Nat} (h : j + (g1 + 1) = n) : j + 1 + g1 = n := by omega
theorem sort_rel {B n1 n2 : Nat} {z : Ac} {l' : List En} {wb wx : World} {j g1 gr i c : Nat} (hj : j + 1 + g1 = n2) (h : Hid (SRel B n1 z l' wb j gr i c wx)) :
    Hid (∃ (j2 a : Nat) (A2 : Option Addr) (c2 : Nat), Value.int .i64 ((j : Int) + 1) = .int .i64 (j2 : Nat) ∧ j2 + g1 = n2 ∧ Value.slice (some ⟨gr, 0, none⟩) (i + 1) c = .slice A2 a c2 ∧ a = (rowsL z (l'.take j2)).length ∧ RG B n1 wx (.slice A2 a c2) (rowsL z (l'.take j2)) ∧ Wf (rowsL z (l'.take j2)) ∧ Fr (fun k => n1 ≤ k) wb wx) := by
  obtain ⟨j', a', A', c', e1, e2, e3, e4, e5, e6, e7⟩ := h.out
  exact Lib.hid ⟨j', a', A', c', e1, by omega, e3, e4, e5, e6, e7⟩
theorem sort_relW {B n1 n2 : Nat} {z : Ac} {l' : List En} {wb wx : World} {j g1 gr i c : Nat} (hw : wrap64 ((j : Int) + 1) = (j : Int) + 1) (hj : j + 1 + g1 = n2) (h : Hid (SRel B n1 z l' wb j gr i c wx)) :
    Hid (∃ (j2 a : Nat) (A2 : Option Addr) (c2 : Nat), Value.int .i64 (wrap64 ((j : Int) + 1)) = .int .i64 (j2 : Nat) ∧ j2 + g1 = n2 ∧ Value.slice (some ⟨gr, 0, none⟩) (i + 1) c = .slice A2 a c2 ∧ a = (rowsL z (l'.take j2)).length ∧ RG B n1 wx (.slice A2 a c2) (rowsL z (l'.take j2)) ∧ Wf (rowsL z (l'.take j2)) ∧ Fr (fun k => n1 ≤ k) wb wx) := by
  rw [hw]
  exact sort_rel hj h
theorem sort_fin {B n1 gr n c i : Nat} {R1 : List Rw} {wb w8 w9 : World} {v9 : Value} (hrg : RG B n1 w8 (.slice (some ⟨gr, 0, none⟩) n c) R1) (hi : i < R1.length) (a : Ac) (f : Fr No w8 w9) (hpo : PO w8.heap.size w9 v9 a.parts) (h1 : B ≤ n1 ∧ n1 ≤ w8.heap.size) (hfr : Fr (fun k => n1 ≤ k) wb w8) :
    RG B n1 ((w9.setCell ⟨gr, i * 3 + 1, none⟩ (.int .i64 a.count)).setCell ⟨gr, i * 3 + 2, none⟩ v9) (.slice (some ⟨gr, 0, none⟩) n c) (setA R1 i a) ∧ Fr (fun k => n1 ≤ k) wb ((w9.setCell ⟨gr, i * 3 + 1, none⟩ (.int .i64 a.count)).setCell ⟨gr, i * 3 + 2, none⟩ v9) := by
  obtain ⟨s1, s2⟩ := hrg.store hi a f hpo h1
  exact ⟨s1, hfr.trans s2 fun _ _ h => h⟩
end Go.Proofs.YtlpglijikmnopaaGreatDoor
