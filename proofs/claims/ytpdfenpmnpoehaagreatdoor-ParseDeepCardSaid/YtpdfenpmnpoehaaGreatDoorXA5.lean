/- A scan in memory: rest, take, fail. -/
import Derived.Test.YtpdfenpmnpoehaaGreatDoorXB4
namespace Go.Proofs.YtpdfenpmnpoehaaGreatDoor
open Go.RowKit Go.Maps
set_option linter.unusedVariables false

def Wd.cells (x : Wd) : List Value := [.int .i64 (x.kind : Nat), .string ⟨x.text.toArray⟩, .int .i64 (x.pos : Nat)]
/-- Words in a row of one's own, not below B. -/
def RowW (B : Nat) (w : World) (v : Value) (l : List Wd) : Prop := w.ownsRow B 42 3 v l.length (l.flatMap Wd.cells)
/-- A scan: its block, and the row of its words. -/
structure Sc (B d : Nat) (s : ByteArray) (w : World) (v : Value) (p : Nat) (l : List Wd) (c f : Nat) : Prop where
  blk : Blk w d 84 #[.string s, .int .i64 (p : Nat), v, .int .i64 (c : Nat), .int .i64 (f : Nat)]
  row : RowW B w v l
  le : B ≤ d
  lr : Lr w
  b2 : 5 < B

theorem Sc.keep {B d : Nat} {s : ByteArray} {w w' : World} {v : Value} {p : Nat} {l : List Wd} {c f : Nat} (h : Sc B d s w v p l c f) (hf : Fr No w w') : Sc B d s w' v p l c f where
  blk := h.blk.of (hf.block d h.blk.lt id)
  row := own_of h.row fun k hk => hf.block k ((h.row.lt k hk).2) id
  le := h.le
  lr := h.lr.keep h.lr.lt (by have := hf.below; exact this.mono (by have := h.lr.lt; omega))
  b2 := h.b2
theorem Sc.apart {B d : Nat} {s : ByteArray} {w : World} {v : Value} {p : Nat} {l : List Wd} {c f : Nat} (h : Sc B d s w v p l c f) : v.ownBlock ≠ some d := fun e => own_blk_ne h.row e h.blk (by decide) rfl
theorem Sc.drewN {B d : Nat} {s : ByteArray} {w : World} {v : Value} {p : Nat} {l : List Wd} {c f : Nat} (h : Sc B d s w v p l c f) (n : Nat) : Sc B d s (w.drewN n) v p l c f := h.keep ((Fr.refl _ w).drewN n)

theorem rest_any {B d : Nat} {s : ByteArray} {w : World} {v : Value} {p : Nat} {l : List Wd} {c f : Nat} (h : Sc B d s w v p l c f) (hp : p ≤ s.size) (hs : s.size ≤ maxLen) :
    Calls Tryz.prog 49 #[.pointer (some ⟨d, 0, none⟩)] w fun e w' => e = .returned (.string (s.extract p s.size)) ∧ ∃ n, w' = w.drewN n := by
  unfold maxLen at hs
  have c0 : w.cell? ⟨d, 0, none⟩ = some (.string s) := h.blk.cell 0
  have c1 : w.cell? ⟨d, 1, none⟩ = some (.int .i64 (p : Nat)) := h.blk.cell 1
  clear h
  go_enter Tryz.func49, Tryz.ntmps49
  go_wp2
  go_quiet (fail)
  go_wp2
  go_ret
  exact ⟨rfl, _, rfl⟩

theorem info31 : (Tryz.prog.info? 42).map (fun i => (i.zero, i.size, i.bytes)) = some (some (.agg #[.int .i64 0, .string ⟨#[]⟩, .int .i64 0]), 3, 32) := by kernel_rfl
def TakeP (B d : Nat) (s : ByteArray) (w : World) (p : Nat) (l : List Wd) (e : Ending) (w' : World) : Prop := e = .returned (.tuple #[]) ∧ ∃ v, Sc B d s w' v p l 0 0 ∧ Below B w w'

theorem take_end {B d g cap p n : Nat} {s : ByteArray} {w w3 : World} {v : Value} {l : List Wd} {x : Wd} {o : Obj} (h : Sc B d s w v p l 0 0) (hg : ((w.alloc o).drew).grownBy w3 v.ownBlock) (hb3 : Blk w3 d 84 #[.string s, .int .i64 (p : Nat), v, .int .i64 (0 : Nat), .int .i64 (0 : Nat)])
    (ho3 : w3.ownsRow B 42 3 (.slice (some ⟨g, 0, none⟩) (l.length + 1) cap) (l.length + 1) (l.flatMap Wd.cells ++ x.cells)) :
    ∃ v', Sc B d s ((w3.setCell ⟨d, 2, none⟩ (.slice (some ⟨g, 0, none⟩) (l.length + 1) cap)).setCell ⟨d, 1, none⟩ (.int .i64 (n : Nat))) v' n (l ++ [x]) 0 0 ∧ Below B w ((w3.setCell ⟨d, 2, none⟩ (.slice (some ⟨g, 0, none⟩) (l.length + 1) cap)).setCell ⟨d, 1, none⟩ (.int .i64 (n : Nat))) := by
  obtain ⟨w4, hw4⟩ : ∃ w4, (w3.setCell ⟨d, 2, none⟩ (.slice (some ⟨g, 0, none⟩) (l.length + 1) cap)).setCell ⟨d, 1, none⟩ (.int .i64 (n : Nat)) = w4 := ⟨_, rfl⟩
  rw [hw4]
  have hgd : g ≠ d := own_blk_ne ho3 rfl hb3 (by decide)
  have hdl := h.blk.lt
  have hle := h.le
  have f3 : Fr (fun k => k = d ∨ v.ownBlock = some k) w w3 := (((Fr.refl _ w).alloc o).drew).grown hg fun k hk _ => .inr hk
  have f34 : Fr (fun k => k = d) w3 w4 := by
    rw [← hw4]
    exact ((Fr.refl (fun k => k = d) w3).setCell (p := ⟨d, 2, none⟩) (fun _ => rfl) _).setCell (p := ⟨d, 1, none⟩) (fun _ => rfl) _
  have f4 : Fr (fun k => k = d ∨ v.ownBlock = some k) w w4 := f3.trans f34 fun k _ hk => .inl hk
  have hbel : Below B w w4 := f4.below_of (by omega) (by
    rintro k (rfl | hk)
    · exact hle
    · exact (h.row.lt k hk).1)
  refine ⟨.slice (some ⟨g, 0, none⟩) (l.length + 1) cap, { blk := ?_, row := ?_, le := hle, lr := h.lr.keep h.b2 hbel, b2 := h.b2 }, hbel⟩
  · rw [← hw4]
    exact (hb3.set_ 2 _).set_ 1 _
  · show w4.ownsRow B 42 3 _ (l ++ [x]).length ((l ++ [x]).flatMap Wd.cells)
    have := own_of ho3 (w' := w4) (fun k hk => by
      have e : g = k := by simpa [Value.ownBlock] using hk
      subst e
      exact f34.block _ (ho3.lt g rfl).2 hgd)
    rw [List.length_append, List.flatMap_append]
    simpa [Wd.cells] using this

set_option maxRecDepth 100000 in
set_option maxHeartbeats 1600000 in
theorem take_any {B d : Nat} {s : ByteArray} {w : World} {v : Value} {p : Nat} {l : List Wd} (h : Sc B d s w v p l 0 0) (k n : Nat) (t : ByteArray) (hk : k ≤ 6) (hp : p + n ≤ s.size) (hs : s.size ≤ maxLen) (hl : l.length ≤ 5000) :
    Calls Tryz.prog 52 #[.pointer (some ⟨d, 0, none⟩), .int .i64 (k : Nat), .string t, .int .i64 (n : Nat)] w (TakeP B d s w (p + n) (l ++ [⟨k, t.data.toList, p⟩])) := by
  have HT : Hid ((⟨t.data.toList.toArray⟩ : ByteArray) = t) := Lib.hid (mk_toList t)
  have HEND : Hid (∀ (w3 : World) (o : Obj) (g cap : Nat), ((w.alloc o).drew).grownBy w3 v.ownBlock → Blk w3 d 84 #[.string s, .int .i64 (p : Nat), v, .int .i64 (0 : Nat), .int .i64 (0 : Nat)] →
      w3.ownsRow B 42 3 (.slice (some ⟨g, 0, none⟩) (l.length + 1) cap) (l.length + 1) (l.flatMap Wd.cells ++ [.int .i64 (k : Nat), .string t, .int .i64 (p : Nat)]) → TakeP B d s w (p + n) (l ++ [⟨k, t.data.toList, p⟩]) (.returned (.tuple #[])) _) :=
    Lib.hid fun w3 o g cap h1 h2 h3 => ⟨rfl, take_end (x := ⟨k, t.data.toList, p⟩) h h1 h2 (by unfold Wd.cells; rw [HT.out]; exact h3)⟩
  have hq : ∀ (o : Obj) (w3 : World), ((w.alloc o).drew).grownBy w3 v.ownBlock → w3.cell? ⟨d, 2, none⟩ = some v ∧ w3.frozen? ⟨d, 2, none⟩ = false ∧ w3.cell? ⟨d, 1, none⟩ = some (.int .i64 (p : Nat)) ∧ w3.frozen? ⟨d, 1, none⟩ = false ∧ Blk w3 d 84 #[.string s, .int .i64 (p : Nat), v, .int .i64 (0 : Nat), .int .i64 (0 : Nat)] := by
    intro o w3 hg
    have hdl := h.blk.lt
    have hb3 : Blk w3 d 84 #[.string s, .int .i64 (p : Nat), v, .int .i64 (0 : Nat), .int .i64 (0 : Nat)] := h.blk.of ((hg.block d (by simp; omega) (fun e => h.apart e.symm)).trans (Below.heap_alloc w o d hdl))
    exact ⟨hb3.cell 2, hb3.frozen 2, hb3.cell 1, hb3.frozen 1, hb3⟩
  have HQ := Lib.hid hq
  obtain ⟨i0, hi0, hz0, hz1, hz2⟩ := info_parts info31
  have HL : Hid (w.ownsRow B 42 3 v l.length (l.flatMap Wd.cells)) := Lib.hid h.row
  have c1 : w.cell? ⟨d, 1, none⟩ = some (.int .i64 (p : Nat)) := h.blk.cell 1
  have c2 : w.cell? ⟨d, 2, none⟩ = some v := h.blk.cell 2
  have hBw : B ≤ w.heap.size := by have := h.le; have := h.blk.lt; omega
  have hdw : d < w.heap.size := h.blk.lt
  unfold maxLen at hs
  have e1 : IntKind.i64.wrap ((p : Int) + (n : Int)) = ((p + n : Nat) : Int) := by rw [IntWalk.i64_in _ (by omega)]; omega
  have HE1 := Lib.hid e1
  clear h hq HT e1
  obtain ⟨q, hqn⟩ : ∃ q, p + n = q := ⟨_, rfl⟩
  rw [hqn] at HE1 HEND ⊢
  clear hqn
  go_enter Tryz.func52, Tryz.ntmps52
  go_wp2_with fail
  go_region_law (first | (refine step_append_lies _ (by rfl) _ _ _ (by rfl) B 42 i0 _ 3 32 Tryz.underlying38 hi0 hz0 hz1 hz2 rfl (by omega) v _ _ (by rfl) ((HL.out.alloc _).drew) ⟨w.heap.size, 0, none⟩ 1 1 [.int .i64 (k : Nat), .string t, .int .i64 (p : Nat)] (by rfl) (by rfl) (World.news_of_block (cs := #[.int .i64 (k : Nat), .string t, .int .i64 (p : Nat)]) (t := 42) (fr := (0, 0)) (heap_alloc_new w _)) (by simp [Value.oneCell']) (by omega) (by unfold maxLen; omega) (by omega) (by simp; omega) (w.heap.size + 1) (by simp) ?_; intro g cap w3 hown3 hgrow hat hlt; have q2 := (HQ.out _ _ hgrow).1; have qf2 := (HQ.out _ _ hgrow).2.1; have q1 := (HQ.out _ _ hgrow).2.2.1; have qf1 := (HQ.out _ _ hgrow).2.2.2.1; have HP := Lib.hid (HEND.out _ _ _ _ hgrow (HQ.out _ _ hgrow).2.2.2.2 hown3); clear hgrow hown3 hat))
  all_goals (have e1 := HE1.out; go_wp2; go_end0)
  all_goals exact HP.out
end Go.Proofs.YtpdfenpmnpoehaaGreatDoor
