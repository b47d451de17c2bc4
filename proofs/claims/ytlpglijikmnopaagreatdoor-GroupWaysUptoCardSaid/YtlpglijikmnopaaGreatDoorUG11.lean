/- Rows in the order of their keys. -/
import Derived.Test.YtlpglijikmnopaaGreatDoorUG10
namespace Go.Proofs.YtlpglijikmnopaaGreatDoor
open Go.RowKit Go.Maps Go.Sort Go.Proofs
set_option linter.unusedVariables false

theorem rwG_one : ∀ K w x cs, rwG K w x cs → ∀ u ∈ cs, u.oneCell' = true := by
  rintro K w x cs ⟨kv, pv, rfl, h1, h2⟩ u hu
  simp only [List.mem_cons, List.not_mem_nil, or_false] at hu
  rcases hu with rfl | rfl | rfl
  · exact h1.one
  · rfl
  · exact h2.one
theorem closR_any (K : Nat → Prop) (w : World) (x y : Rw) (cs ds : List Value) (hx : rwG K w x cs) (hy : rwG K w y ds) : Calls Tryz.prog 75 #[.agg cs.toArray, .agg ds.toArray] w fun e w'' => e = .returned (.int .i64 (cmpK x.key y.key)) ∧ ∃ os', w'' = grow w os' := by
  obtain ⟨kv, pv, rfl, h1, h2⟩ := hx
  obtain ⟨kv2, pv2, rfl, h3, h4⟩ := hy
  obtain ⟨b, hb⟩ : ∃ b, w.heap.size = b := ⟨_, rfl⟩
  obtain ⟨w2, hw2⟩ : ∃ w2, (w.alloc (.cells #[kv, .int .i64 x.acc.count, pv] 50)).alloc (.cells #[kv2, .int .i64 y.acc.count, pv2] 50) = w2 := ⟨_, rfl⟩
  have f2 : Fr No w w2 := by rw [← hw2]; exact ((Fr.refl No w).alloc _).alloc _
  have hx2 : Blk w2 b 50 #[kv, .int .i64 x.acc.count, pv] := by rw [← hw2, ← hb]; exact (Blk.new w 50 _).no ((Fr.refl No _).alloc _)
  have hy2 : Blk w2 (b + 1) 50 #[kv2, .int .i64 y.acc.count, pv2] := by rw [← hw2, ← hb]; exact blk_at1 w _ 50 _
  have HC := Lib.hid (compare_x w2 (h1.no f2) (h3.no f2))
  have hend : ∃ os', w2 = grow w os' := ⟨#[.cells #[kv, .int .i64 x.acc.count, pv] 50] ++ #[.cells #[kv2, .int .i64 y.acc.count, pv2] 50], by rw [← hw2, alloc_eq_grow, alloc_eq_grow, grow_grow]⟩
  have HEND := Lib.hid hend
  have c0 := hx2.cell 0
  have d0 := hy2.cell 0
  obtain ⟨A, ca, rfl, -⟩ := h1.form
  obtain ⟨B, cb, rfl, -⟩ := h3.form
  obtain ⟨C, cc, rfl, -⟩ := h2.form
  obtain ⟨D, cd, rfl, -⟩ := h4.form
  have HW2 := Lib.hid hw2
  have HB := Lib.hid hb
  generalize x.key.length = xn at *
  generalize y.key.length = yn at *
  generalize x.acc.parts.length = xp at *
  generalize y.acc.parts.length = yp at *
  generalize x.acc.count = xc at *
  generalize y.acc.count = yc at *
  generalize cmpK x.key y.key = q at *
  clear h1 h2 h3 h4 hx2 hy2 f2 hw2 hb hend
  go_enter Tryz.func75, Tryz.ntmps75
  go_upto_region 1 with fail
  rw [HB.out, HW2.out]
  go_wp2_with fail
  refine HC.out.mono ?_
  rintro e w' ⟨rfl, rfl⟩
  go_wp2_with fail
  go_ret
  exact ⟨rfl, HEND.out⟩
theorem rwU_one : ∀ K w x cs, rwU K w x cs → ∀ u ∈ cs, u.oneCell' = true := fun K w x cs h => rwG_one K w x cs h.g
theorem closU_any (K : Nat → Prop) (w : World) (x y : Rw) (cs ds : List Value) (hx : rwU K w x cs) (hy : rwU K w y ds) : Calls Tryz.prog 75 #[.agg cs.toArray, .agg ds.toArray] w fun e w'' => e = .returned (.int .i64 (cmpK x.key y.key)) ∧ ∃ os', w'' = grow w os' := closR_any K w x y cs ds hx.g hy.g
theorem sortR_any {X : Nat → Prop} {b : Nat} {w : World} {v : Value} {l : List Rw} (h : GrX X b 50 3 rwU w v l) (hlen : l.length < 4611686018427387904) :
    Calls Tryz.prog 74 #[v, .func (.func 75) #[] #[]] w fun en w' => en = .returned (.tuple #[]) ∧ ∃ l', l'.Perm l ∧ (l'.Pairwise fun x y => ¬ y.key < x.key) ∧ GrX X b 50 3 rwU w' v l' ∧ Fr (fun k => v.ownBlock = some k) w w' :=
  sort_rows Tryz.laySR rwU_elem (by intro w; kernel_rfl) (by intro w; kernel_rfl) (by decide) Rw.key (enters_of Tryz.func75 (by kernel_rfl) rfl) rwU_one closU_any h hlen
/-- What a call tells that hands back rows. -/
def TellsRR (b : Nat) (l : List Rw) (w : World) (e : Ending) (w' : World) : Prop := ∃ A n c, e = .returned (.slice A n c) ∧ n = l.length ∧ RRz (fun k => b ≤ k) w' (.slice A n c) l ∧ Fr (fun k => b ≤ k) w w'
def TellsO (b : Nat) (rv : Value) (ro : List Rw → Prop) (w : World) (e : Ending) (w' : World) : Prop := ∃ l, ro l ∧ ∃ A n c, e = .returned (.slice A n c) ∧ n = l.length ∧ RRz (fun k => b ≤ k) w' (.slice A n c) l ∧ Fr (fun k => rv.ownBlock = some k) w w'
theorem inOrder_any {b g m n0 : Nat} {z : Ac} {rv : Value} {l : List Rw} (w : World) (h : Gs b g m n0 z rv l w) (hl : l.length < 4611686018427387904) :
    Calls Tryz.prog 41 #[.pointer (some ⟨g, 0, none⟩)] w (TellsO b rv (fun l' => l'.Perm l ∧ l'.Pairwise fun x y => ¬ y.key < x.key) w) := by
  have HS := Lib.hid (sortR_any h.rows hl)
  obtain ⟨zv, hb, -⟩ := h.blk
  have hap := h.ap
  have hgl := hb.lt
  have hgo : rv.ownBlock ≠ some g := fun e => by have := h.own g e; omega
  obtain ⟨A, c, rfl⟩ := h.form
  have HL : Hid (∀ k, (Value.slice A l.length c).ownBlock = some k → b ≤ k) := Lib.hid fun k hk => (h.rows.lt k hk).1
  have c3 := hb.cell 3
  have HB := Lib.hid hb
  obtain ⟨n, hn⟩ : ∃ n, l.length = n := ⟨_, rfl⟩
  have HN := Lib.hid hn
  rw [hn] at HS c3 HL HB hgo ⊢
  have HGO := Lib.hid hgo
  clear h hb hn hap hgo
  go_enter Tryz.func41, Tryz.ntmps41
  go_wp2_with fail
  refine HS.out.mono ?_
  rintro e w1 ⟨rfl, l', hp, hs, hg, hf⟩
  have hb1 := HB.out.of (hf.block g hgl HGO.out)
  have d3 := hb1.cell 3
  have hlen : n = l'.length := by rw [← HN.out, hp.length_eq]
  have HEND : Hid (TellsO b (.slice A n c) (fun l' => l'.Perm l ∧ l'.Pairwise fun x y => ¬ y.key < x.key) w (.returned (.slice A n c)) w1) := Lib.hid ⟨l', ⟨hp, hs⟩, A, n, c, rfl, hlen, (hg.grow fun k hk => hk.1).row rwU_elem, hf⟩
  clear hp hs hg hf hb1 hlen c3
  go_wp2_with fail
  go_ret
  exact HEND.out
end Go.Proofs.YtlpglijikmnopaaGreatDoor
