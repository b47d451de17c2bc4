/- take: a thing of a kind, by a reader. -/
import Derived.Test.YtjhjcdfhfjeogaaF2
namespace Go.Proofs.Ytjhjcdfhfjeogaa
open Go.RowKit Go.Maps
set_option linter.unusedVariables false

def ThingP.bare (t : ThingP) : ThingP := ⟨t.kind, 0, [], [], [], [], []⟩
def RS.thing (S : RS) (t : ThingP) : ThingP × RS :=
  if t.kind = 0 then (⟨t.kind, (S.byte.1 : Nat), [], [], [], [], []⟩, S.byte.2) else if t.kind = 1 then (⟨t.kind, S.int.1, [], [], [], [], []⟩, S.int.2)
  else if t.kind = 2 then (⟨t.kind, ((S.count t.n).1 : Nat), [], [], [], [], []⟩, (S.count t.n).2) else if t.kind = 3 then (⟨t.kind, 0, S.text.1, [], [], [], []⟩, S.text.2)
  else if t.kind = 4 then (⟨t.kind, 0, [], S.texts.1, [], [], []⟩, S.texts.2) else if t.kind = 5 then (⟨t.kind, 0, [], [], [S.cell.1], [], []⟩, S.cell.2)
  else if t.kind = 6 then (⟨t.kind, 0, [], [], S.cells.1, [], []⟩, S.cells.2) else if t.kind = 7 then (⟨t.kind, 0, [], [], [], [S.fact.1], []⟩, S.fact.2)
  else if t.kind = 8 then (⟨t.kind, 0, [], [], [], S.facts.1, []⟩, S.facts.2) else (⟨t.kind, 0, [], S.schema.1.1, [], [], S.schema.1.2⟩, S.schema.2)

/-- A call that tells a thing. -/
def RPt (p : Option Nat) (w : World) (t : ThingP) (S' : RS) (e : Ending) (w' : World) : Prop :=
  ∃ lv cv fv mv, e = .returned (.agg (tcells t lv cv fv mv).toArray) ∧ ThingAt (fun k => w.heap.size ≤ k) w' t lv cv fv mv ∧ RAt w' p S' ∧ Fr (RFt p) w w'

def set7 (w : World) (g : Nat) (u0 u1 u2 u3 u4 u5 u6 : Value) : World :=
  ((((((w.setCell ⟨g, 0, none⟩ u0).setCell ⟨g, 1, none⟩ u1).setCell ⟨g, 2, none⟩ u2).setCell ⟨g, 3, none⟩ u3).setCell ⟨g, 4, none⟩ u4).setCell ⟨g, 5, none⟩ u5).setCell ⟨g, 6, none⟩ u6
theorem set7_heap (w : World) (g : Nat) (u0 u1 u2 u3 u4 u5 u6 : Value) (k : Nat) (hk : k ≠ g) : (set7 w g u0 u1 u2 u3 u4 u5 u6).heap[k]? = w.heap[k]? := by
  unfold set7
  rw [Below.heap_setCell _ _ _ k hk, Below.heap_setCell _ _ _ k hk, Below.heap_setCell _ _ _ k hk, Below.heap_setCell _ _ _ k hk, Below.heap_setCell _ _ _ k hk, Below.heap_setCell _ _ _ k hk, Below.heap_setCell _ _ _ k hk]
theorem set7_fr {p : Option Nat} {w0 w : World} (h : Fr (RFt p) w0 w) (g : Nat) (hg : w0.heap.size ≤ g) (u0 u1 u2 u3 u4 u5 u6 : Value) : Fr (RFt p) w0 (set7 w g u0 u1 u2 u3 u4 u5 u6) := by
  have hlt : ¬ g < w0.heap.size := by omega
  unfold set7
  exact ((((((h.setCell (p := ⟨g, 0, none⟩) (fun h => absurd h hlt) _).setCell (p := ⟨g, 1, none⟩) (fun h => absurd h hlt) _).setCell (p := ⟨g, 2, none⟩) (fun h => absurd h hlt) _).setCell (p := ⟨g, 3, none⟩) (fun h => absurd h hlt) _).setCell (p := ⟨g, 4, none⟩) (fun h => absurd h hlt) _).setCell (p := ⟨g, 5, none⟩) (fun h => absurd h hlt) _).setCell (p := ⟨g, 6, none⟩) (fun h => absurd h hlt) _
def zero7 : Array Value := #[.int .i64 0, .int .i64 0, .string ⟨#[]⟩, .slice none 0 0, .slice none 0 0, .slice none 0 0, .slice none 0 0]
/-- The end of a take: what was made is laid into the result. -/
theorem take_fin {p : Option Nat} {w w4 : World} {S' : RS} {t : ThingP} {lv cv fv mv : Value} {g4 : Nat} (hg : w.heap.size ≤ g4) (h : RAt w4 p S') (hpg : ∀ k, RFt p k → k < w.heap.size) (hf : Fr (RFt p) w w4) (ht : ThingAt (fun k => w.heap.size ≤ k ∧ k ≠ g4) w4 t lv cv fv mv) (u0 u1 u2 u3 u4 u5 u6 : Value) :
    ThingAt (fun k => w.heap.size ≤ k) (set7 w4 g4 u0 u1 u2 u3 u4 u5 u6) t lv cv fv mv ∧ RAt (set7 w4 g4 u0 u1 u2 u3 u4 u5 u6) p S' ∧ Fr (RFt p) w (set7 w4 g4 u0 u1 u2 u3 u4 u5 u6) := by
  have h2 := ht.of (w' := set7 w4 g4 u0 u1 u2 u3 u4 u5 u6) fun k hk => set7_heap _ _ _ _ _ _ _ _ _ k hk.2
  refine ⟨⟨h2.kb, h2.nb, h2.sb, h2.l.mono fun k hk => hk.1, h2.c.mono fun k hk => hk.1, ?_, h2.m.mono fun k hk => hk.1⟩, h.of fun k hk => set7_heap _ _ _ _ _ _ _ _ _ k (by have := hpg k hk; omega), set7_fr hf g4 hg _ _ _ _ _ _ _⟩
  refine (h2.f.mono fun k hk => hk.1).of (fun _ _ => rfl) fun x cs hx => ?_
  obtain ⟨dv, mv, e, h1, h2⟩ := hx
  exact ⟨dv, mv, e, h1.mono fun k hk => hk.1, h2.mono fun k hk => hk.1⟩
theorem nil_thing (K : Nat → Prop) (w : World) (k n : Int) (s : List UInt8) (hk : i64 k) (hn : i64 n) (hs : s.length ≤ maxLen) : ThingAt K w ⟨k, n, s, [], [], [], []⟩ (.slice none 0 0) (.slice none 0 0) (.slice none 0 0) (.slice none 0 0) :=
  ⟨hk, hn, hs, RowE.nil _ _ _ _ _, RowE.nil _ _ _ _ _, RowE.nil _ _ _ _ _, RowE.nil _ _ _ _ _⟩
theorem count_lt (S : RS) (n : Int) : (S.count n).1 < 4294967296 := by
  have := num_le (S.take 4).1 4 (take_len S 4)
  unfold RS.count
  split
  · simp
  · simp only; split <;> omega
theorem count_bd (S : RS) (n : Int) : i64 ((S.count n).1 : Nat) := by have := count_lt S n; unfold i64; omega
set_option maxRecDepth 100000 in
set_option maxHeartbeats 4000000 in
theorem take_0 (p : Option Nat) (S : RS) (n : Int) (s : List UInt8) (A1 A2 A3 A4 : Option Addr) (n1 k1 n2 k2 n3 k3 n4 k4 : Nat) (hkb : i64 (0)) (w : World) (h : RAt w p S) :
    Calls Try.prog 25 #[wpt p, .agg #[.int .i64 0, .int .i64 n, sv s, .slice A1 n1 k1, .slice A2 n2 k2, .slice A3 n3 k3, .slice A4 n4 k4]] w (RPt p w (⟨0, (S.byte.1 : Nat), [], [], [], [], []⟩) (S.byte.2)) := by
  obtain ⟨wa, hwa⟩ : ∃ wa, w.alloc (.cells #[.int .i64 0, .int .i64 n, sv s, .slice A1 n1 k1, .slice A2 n2 k2, .slice A3 n3 k3, .slice A4 n4 k4] 58) = wa := ⟨_, rfl⟩
  obtain ⟨wb, hwb⟩ : ∃ wb, wa.alloc (.cells #[.int .i64 0, .int .i64 0, .string ⟨#[]⟩, .slice none 0 0, .slice none 0 0, .slice none 0 0, .slice none 0 0] 58) = wb := ⟨_, rfl⟩
  obtain ⟨wc, hwc⟩ : ∃ wc, wb.alloc (.cells #[.int .i64 0, .int .i64 0, .string ⟨#[]⟩, .slice none 0 0, .slice none 0 0, .slice none 0 0, .slice none 0 0] 58) = wc := ⟨_, rfl⟩
  obtain ⟨gb, hgb⟩ : ∃ gb, w.heap.size = gb := ⟨_, rfl⟩
  obtain ⟨g4, hg4⟩ : ∃ g4, wa.heap.size = g4 := ⟨_, rfl⟩
  obtain ⟨g5, hg5⟩ : ∃ g5, wb.heap.size = g5 := ⟨_, rfl⟩
  have fa : Fr (RFt p) w wa := by rw [← hwa]; exact (Fr.refl _ w).alloc _
  have fb : Fr No wa wb := by rw [← hwb]; exact (Fr.refl _ wa).alloc _
  have fc : Fr No wb wc := by rw [← hwc]; exact (Fr.refl _ wb).alloc _
  have hb4 : Blk wb g4 58 #[.int .i64 0, .int .i64 0, .string ⟨#[]⟩, .slice none 0 0, .slice none 0 0, .slice none 0 0, .slice none 0 0] := by rw [← hwb, ← hg4]; exact Blk.new wa 58 _
  have hb5 : Blk wc g5 58 #[.int .i64 0, .int .i64 0, .string ⟨#[]⟩, .slice none 0 0, .slice none 0 0, .slice none 0 0, .slice none 0 0] := by rw [← hwc, ← hg5]; exact Blk.new wb 58 _
  have hb4c : Blk wc g4 58 #[.int .i64 0, .int .i64 0, .string ⟨#[]⟩, .slice none 0 0, .slice none 0 0, .slice none 0 0, .slice none 0 0] := hb4.of (fc.block g4 hb4.lt id)
  have fwc : Fr (RFt p) w wc := (fa.then fb.any).then fc.any
  have hrc : RAt wc p S := h.of fun k hk => by
    have hlt := h.lt k hk
    have e1 : wa.heap[k]? = w.heap[k]? := by rw [← hwa]; exact Below.heap_alloc w _ k hlt
    rw [fc.block k (by have := fa.size; have := fb.size; omega) id, fb.block k (by have := fa.size; omega) id, e1]
  have hpg : ∀ k, RFt p k → k < w.heap.size := h.lt
  have hgs : w.heap.size ≤ g4 ∧ g4 < g5 ∧ g5 < wc.heap.size := ⟨by have := fa.size; omega, by have := hb4.lt; omega, hb5.lt⟩
  have HR := Lib.hid hrc
  have H4 := Lib.hid hb4c
  have H5 := Lib.hid hb5
  have FC := Lib.hid fwc
  have PG := Lib.hid hpg
  have GS := Lib.hid hgs
  have KB := Lib.hid hkb
  have HWA := Lib.hid hwa
  have HWB := Lib.hid hwb
  have HWC := Lib.hid hwc
  have HGB := Lib.hid hgb
  have HG4 : Hid (gb + 1 = g4) := Lib.hid (by rw [← hg4, ← hwa, ← hgb]; simp)
  have HG5 : Hid (g4 + 1 = g5) := Lib.hid (by rw [← hg5, ← hwb, ← hg4]; simp)
  have hw64 : wrap64 ((S.byte.1 : Nat) : Int) = ((S.byte.1 : Nat) : Int) := IntWalk.wrap64_in _ (by have := byte_lt S; omega)
  clear fa fb fc hb4 hb5 hb4c fwc hrc hpg hgs hwa hwb hwc hgb hg4 hg5 h hkb
  generalize hP : wpt p = P at *
  have HP := Lib.hid hP
  clear hP
  go_enter Try.func25, Try.ntmps25
  go_wp2_with fail
  rw [HWA.out, HWB.out, HWC.out, HGB.out, HG4.out, HG5.out]
  rw [← HP.out]
  refine (rbyte_any p S wc HR.out).mono ?_
  rintro e w3 ⟨rfl, h3, f3⟩
  have hx4 := H4.out.of (f3.block g4 H4.out.lt fun e => by have := PG.out g4 e; have := GS.out; omega)
  have hx5 := H5.out.of (f3.block g5 H5.out.lt fun e => by have := PG.out g5 e; have := GS.out; omega)
  have F3 := Lib.hid (FC.out.then f3)
  have h3size := f3.size
  have S3 := Lib.hid h3size
  have c3 : w3.cell? ⟨g5, 1, none⟩ = some (.int .i64 0) := hx5.cell 1
  have z3 := hx5.frozen 1
  obtain ⟨w4, hw4⟩ : ∃ w4, w3.setCell ⟨g5, 1, none⟩ (.int .i64 (S.byte.1 : Nat)) = w4 := ⟨_, rfl⟩
  have b5 := hx5.set_ 1 (.int .i64 (S.byte.1 : Nat))
  rw [hw4] at b5
  have b4 : Blk w4 g4 58 #[.int .i64 0, .int .i64 0, .string ⟨#[]⟩, .slice none 0 0, .slice none 0 0, .slice none 0 0, .slice none 0 0] := by rw [← hw4]; exact hx4.of (Below.heap_setCell _ _ _ g4 (by have := GS.out; show g4 ≠ g5; omega))
  have h4 : RAt w4 p (S.byte.2) := by rw [← hw4]; exact h3.of fun j hj => Below.heap_setCell _ _ _ j (by have := GS.out; have := PG.out j hj; show j ≠ g5; omega)
  have f4 : Fr (RFt p) w w4 := by rw [← hw4]; exact F3.out.setCell (p := ⟨g5, 1, none⟩) (fun h => absurd h (by have := GS.out; show ¬ g5 < w.heap.size; omega)) _
  have hsame : ∀ j, j ≠ g5 → w4.heap[j]? = w3.heap[j]? := fun j hj => by rw [← hw4]; exact Below.heap_setCell _ _ _ j hj
  have t4 : ThingAt (fun k => w.heap.size ≤ k ∧ k ≠ g4) w4 (⟨0, (S.byte.1 : Nat), [], [], [], [], []⟩) (.slice none 0 0) (.slice none 0 0) (.slice none 0 0) (.slice none 0 0) := nil_thing _ _ _ _ _ KB.out (i64_small _ (by have := byte_lt S; omega)) (by simp)
  have HR4 := Lib.hid h4
  have F4 := Lib.hid f4
  have T4 := Lib.hid t4
  have d0 : w4.cell? ⟨g5, 0, none⟩ = some (.int .i64 0) := b5.cell 0
  have d1 : w4.cell? ⟨g5, 1, none⟩ = some (.int .i64 (S.byte.1 : Nat)) := b5.cell 1
  have d2 : w4.cell? ⟨g5, 2, none⟩ = some (.string ⟨#[]⟩) := b5.cell 2
  have d3 : w4.cell? ⟨g5, 3, none⟩ = some (.slice none 0 0) := b5.cell 3
  have d4 : w4.cell? ⟨g5, 4, none⟩ = some (.slice none 0 0) := b5.cell 4
  have d5 : w4.cell? ⟨g5, 5, none⟩ = some (.slice none 0 0) := b5.cell 5
  have d6 : w4.cell? ⟨g5, 6, none⟩ = some (.slice none 0 0) := b5.cell 6
  have e0 : w4.cell? ⟨g4, 0, none⟩ = some (.int .i64 0) := b4.cell 0
  have e1 : w4.cell? ⟨g4, 1, none⟩ = some (.int .i64 0) := b4.cell 1
  have e2 : w4.cell? ⟨g4, 2, none⟩ = some (.string ⟨#[]⟩) := b4.cell 2
  have e3 : w4.cell? ⟨g4, 3, none⟩ = some (.slice none 0 0) := b4.cell 3
  have e4 : w4.cell? ⟨g4, 4, none⟩ = some (.slice none 0 0) := b4.cell 4
  have e5 : w4.cell? ⟨g4, 5, none⟩ = some (.slice none 0 0) := b4.cell 5
  have e6 : w4.cell? ⟨g4, 6, none⟩ = some (.slice none 0 0) := b4.cell 6
  have y0 := b4.frozen 0
  have y1 := b4.frozen 1
  have y2 := b4.frozen 2
  have y3 := b4.frozen 3
  have y4 := b4.frozen 4
  have y5 := b4.frozen 5
  have y6 := b4.frozen 6
  clear h4 f4 t4 b4 b5 hx4 hx5 f3 h3 h3size hsame
  rw [HP.out]
  go_wp2
  refine bodyPost_ret (v := .agg #[.int .i64 0, .int .i64 (S.byte.1 : Nat), .string ⟨#[]⟩, .slice none 0 0, .slice none 0 0, .slice none 0 0, .slice none 0 0]) (by simp [results, Try.results25, go_sem, e0, e1, e2, e3, e4, e5, e6]) rfl ?_
  obtain ⟨q1, q2, q3⟩ := take_fin GS.out.1 HR4.out PG.out F4.out T4.out (.int .i64 0) (.int .i64 (S.byte.1 : Nat)) (.string ⟨#[]⟩) (.slice none 0 0) (.slice none 0 0) (.slice none 0 0) (.slice none 0 0)
  exact ⟨_, _, _, _, rfl, q1, q2, q3⟩
set_option maxRecDepth 100000 in
set_option maxHeartbeats 4000000 in
theorem take_1 (p : Option Nat) (S : RS) (n : Int) (s : List UInt8) (A1 A2 A3 A4 : Option Addr) (n1 k1 n2 k2 n3 k3 n4 k4 : Nat) (hkb : i64 (1)) (w : World) (h : RAt w p S) :
    Calls Try.prog 25 #[wpt p, .agg #[.int .i64 1, .int .i64 n, sv s, .slice A1 n1 k1, .slice A2 n2 k2, .slice A3 n3 k3, .slice A4 n4 k4]] w (RPt p w (⟨1, S.int.1, [], [], [], [], []⟩) (S.int.2)) := by
  obtain ⟨wa, hwa⟩ : ∃ wa, w.alloc (.cells #[.int .i64 1, .int .i64 n, sv s, .slice A1 n1 k1, .slice A2 n2 k2, .slice A3 n3 k3, .slice A4 n4 k4] 58) = wa := ⟨_, rfl⟩
  obtain ⟨wb, hwb⟩ : ∃ wb, wa.alloc (.cells #[.int .i64 0, .int .i64 0, .string ⟨#[]⟩, .slice none 0 0, .slice none 0 0, .slice none 0 0, .slice none 0 0] 58) = wb := ⟨_, rfl⟩
  obtain ⟨wc, hwc⟩ : ∃ wc, wb.alloc (.cells #[.int .i64 1, .int .i64 0, .string ⟨#[]⟩, .slice none 0 0, .slice none 0 0, .slice none 0 0, .slice none 0 0] 58) = wc := ⟨_, rfl⟩
  obtain ⟨gb, hgb⟩ : ∃ gb, w.heap.size = gb := ⟨_, rfl⟩
  obtain ⟨g4, hg4⟩ : ∃ g4, wa.heap.size = g4 := ⟨_, rfl⟩
  obtain ⟨g5, hg5⟩ : ∃ g5, wb.heap.size = g5 := ⟨_, rfl⟩
  have fa : Fr (RFt p) w wa := by rw [← hwa]; exact (Fr.refl _ w).alloc _
  have fb : Fr No wa wb := by rw [← hwb]; exact (Fr.refl _ wa).alloc _
  have fc : Fr No wb wc := by rw [← hwc]; exact (Fr.refl _ wb).alloc _
  have hb4 : Blk wb g4 58 #[.int .i64 0, .int .i64 0, .string ⟨#[]⟩, .slice none 0 0, .slice none 0 0, .slice none 0 0, .slice none 0 0] := by rw [← hwb, ← hg4]; exact Blk.new wa 58 _
  have hb5 : Blk wc g5 58 #[.int .i64 1, .int .i64 0, .string ⟨#[]⟩, .slice none 0 0, .slice none 0 0, .slice none 0 0, .slice none 0 0] := by rw [← hwc, ← hg5]; exact Blk.new wb 58 _
  have hb4c : Blk wc g4 58 #[.int .i64 0, .int .i64 0, .string ⟨#[]⟩, .slice none 0 0, .slice none 0 0, .slice none 0 0, .slice none 0 0] := hb4.of (fc.block g4 hb4.lt id)
  have fwc : Fr (RFt p) w wc := (fa.then fb.any).then fc.any
  have hrc : RAt wc p S := h.of fun k hk => by
    have hlt := h.lt k hk
    have e1 : wa.heap[k]? = w.heap[k]? := by rw [← hwa]; exact Below.heap_alloc w _ k hlt
    rw [fc.block k (by have := fa.size; have := fb.size; omega) id, fb.block k (by have := fa.size; omega) id, e1]
  have hpg : ∀ k, RFt p k → k < w.heap.size := h.lt
  have hgs : w.heap.size ≤ g4 ∧ g4 < g5 ∧ g5 < wc.heap.size := ⟨by have := fa.size; omega, by have := hb4.lt; omega, hb5.lt⟩
  have HR := Lib.hid hrc
  have H4 := Lib.hid hb4c
  have H5 := Lib.hid hb5
  have FC := Lib.hid fwc
  have PG := Lib.hid hpg
  have GS := Lib.hid hgs
  have KB := Lib.hid hkb
  have HWA := Lib.hid hwa
  have HWB := Lib.hid hwb
  have HWC := Lib.hid hwc
  have HGB := Lib.hid hgb
  have HG4 : Hid (gb + 1 = g4) := Lib.hid (by rw [← hg4, ← hwa, ← hgb]; simp)
  have HG5 : Hid (g4 + 1 = g5) := Lib.hid (by rw [← hg5, ← hwb, ← hg4]; simp)
  clear fa fb fc hb4 hb5 hb4c fwc hrc hpg hgs hwa hwb hwc hgb hg4 hg5 h hkb
  generalize hP : wpt p = P at *
  have HP := Lib.hid hP
  clear hP
  go_enter Try.func25, Try.ntmps25
  go_wp2_with fail
  rw [HWA.out, HWB.out, HWC.out, HGB.out, HG4.out, HG5.out]
  rw [← HP.out]
  refine (rint_any p S wc HR.out).mono ?_
  rintro e w3 ⟨rfl, h3, f3⟩
  have hx4 := H4.out.of (f3.block g4 H4.out.lt fun e => by have := PG.out g4 e; have := GS.out; omega)
  have hx5 := H5.out.of (f3.block g5 H5.out.lt fun e => by have := PG.out g5 e; have := GS.out; omega)
  have F3 := Lib.hid (FC.out.then f3)
  have h3size := f3.size
  have S3 := Lib.hid h3size
  have c3 : w3.cell? ⟨g5, 1, none⟩ = some (.int .i64 0) := hx5.cell 1
  have z3 := hx5.frozen 1
  obtain ⟨w4, hw4⟩ : ∃ w4, w3.setCell ⟨g5, 1, none⟩ (.int .i64 S.int.1) = w4 := ⟨_, rfl⟩
  have b5 := hx5.set_ 1 (.int .i64 S.int.1)
  rw [hw4] at b5
  have b4 : Blk w4 g4 58 #[.int .i64 0, .int .i64 0, .string ⟨#[]⟩, .slice none 0 0, .slice none 0 0, .slice none 0 0, .slice none 0 0] := by rw [← hw4]; exact hx4.of (Below.heap_setCell _ _ _ g4 (by have := GS.out; show g4 ≠ g5; omega))
  have h4 : RAt w4 p (S.int.2) := by rw [← hw4]; exact h3.of fun j hj => Below.heap_setCell _ _ _ j (by have := GS.out; have := PG.out j hj; show j ≠ g5; omega)
  have f4 : Fr (RFt p) w w4 := by rw [← hw4]; exact F3.out.setCell (p := ⟨g5, 1, none⟩) (fun h => absurd h (by have := GS.out; show ¬ g5 < w.heap.size; omega)) _
  have hsame : ∀ j, j ≠ g5 → w4.heap[j]? = w3.heap[j]? := fun j hj => by rw [← hw4]; exact Below.heap_setCell _ _ _ j hj
  have t4 : ThingAt (fun k => w.heap.size ≤ k ∧ k ≠ g4) w4 (⟨1, S.int.1, [], [], [], [], []⟩) (.slice none 0 0) (.slice none 0 0) (.slice none 0 0) (.slice none 0 0) := nil_thing _ _ _ _ _ KB.out (int_bd S) (by simp)
  have HR4 := Lib.hid h4
  have F4 := Lib.hid f4
  have T4 := Lib.hid t4
  have d0 : w4.cell? ⟨g5, 0, none⟩ = some (.int .i64 1) := b5.cell 0
  have d1 : w4.cell? ⟨g5, 1, none⟩ = some (.int .i64 S.int.1) := b5.cell 1
  have d2 : w4.cell? ⟨g5, 2, none⟩ = some (.string ⟨#[]⟩) := b5.cell 2
  have d3 : w4.cell? ⟨g5, 3, none⟩ = some (.slice none 0 0) := b5.cell 3
  have d4 : w4.cell? ⟨g5, 4, none⟩ = some (.slice none 0 0) := b5.cell 4
  have d5 : w4.cell? ⟨g5, 5, none⟩ = some (.slice none 0 0) := b5.cell 5
  have d6 : w4.cell? ⟨g5, 6, none⟩ = some (.slice none 0 0) := b5.cell 6
  have e0 : w4.cell? ⟨g4, 0, none⟩ = some (.int .i64 0) := b4.cell 0
  have e1 : w4.cell? ⟨g4, 1, none⟩ = some (.int .i64 0) := b4.cell 1
  have e2 : w4.cell? ⟨g4, 2, none⟩ = some (.string ⟨#[]⟩) := b4.cell 2
  have e3 : w4.cell? ⟨g4, 3, none⟩ = some (.slice none 0 0) := b4.cell 3
  have e4 : w4.cell? ⟨g4, 4, none⟩ = some (.slice none 0 0) := b4.cell 4
  have e5 : w4.cell? ⟨g4, 5, none⟩ = some (.slice none 0 0) := b4.cell 5
  have e6 : w4.cell? ⟨g4, 6, none⟩ = some (.slice none 0 0) := b4.cell 6
  have y0 := b4.frozen 0
  have y1 := b4.frozen 1
  have y2 := b4.frozen 2
  have y3 := b4.frozen 3
  have y4 := b4.frozen 4
  have y5 := b4.frozen 5
  have y6 := b4.frozen 6
  clear h4 f4 t4 b4 b5 hx4 hx5 f3 h3 h3size hsame
  rw [HP.out]
  go_wp2
  refine bodyPost_ret (v := .agg #[.int .i64 1, .int .i64 S.int.1, .string ⟨#[]⟩, .slice none 0 0, .slice none 0 0, .slice none 0 0, .slice none 0 0]) (by simp [results, Try.results25, go_sem, e0, e1, e2, e3, e4, e5, e6]) rfl ?_
  obtain ⟨q1, q2, q3⟩ := take_fin GS.out.1 HR4.out PG.out F4.out T4.out (.int .i64 1) (.int .i64 S.int.1) (.string ⟨#[]⟩) (.slice none 0 0) (.slice none 0 0) (.slice none 0 0) (.slice none 0 0)
  exact ⟨_, _, _, _, rfl, q1, q2, q3⟩
set_option maxRecDepth 100000 in
set_option maxHeartbeats 4000000 in
theorem take_2 (p : Option Nat) (S : RS) (n : Int) (s : List UInt8) (A1 A2 A3 A4 : Option Addr) (n1 k1 n2 k2 n3 k3 n4 k4 : Nat) (hkb : i64 (2)) (w : World) (h : RAt w p S) :
    Calls Try.prog 25 #[wpt p, .agg #[.int .i64 2, .int .i64 n, sv s, .slice A1 n1 k1, .slice A2 n2 k2, .slice A3 n3 k3, .slice A4 n4 k4]] w (RPt p w (⟨2, ((S.count n).1 : Nat), [], [], [], [], []⟩) ((S.count n).2)) := by
  obtain ⟨wa, hwa⟩ : ∃ wa, w.alloc (.cells #[.int .i64 2, .int .i64 n, sv s, .slice A1 n1 k1, .slice A2 n2 k2, .slice A3 n3 k3, .slice A4 n4 k4] 58) = wa := ⟨_, rfl⟩
  obtain ⟨wb, hwb⟩ : ∃ wb, wa.alloc (.cells #[.int .i64 0, .int .i64 0, .string ⟨#[]⟩, .slice none 0 0, .slice none 0 0, .slice none 0 0, .slice none 0 0] 58) = wb := ⟨_, rfl⟩
  obtain ⟨wc, hwc⟩ : ∃ wc, wb.alloc (.cells #[.int .i64 2, .int .i64 0, .string ⟨#[]⟩, .slice none 0 0, .slice none 0 0, .slice none 0 0, .slice none 0 0] 58) = wc := ⟨_, rfl⟩
  obtain ⟨gb, hgb⟩ : ∃ gb, w.heap.size = gb := ⟨_, rfl⟩
  obtain ⟨g4, hg4⟩ : ∃ g4, wa.heap.size = g4 := ⟨_, rfl⟩
  obtain ⟨g5, hg5⟩ : ∃ g5, wb.heap.size = g5 := ⟨_, rfl⟩
  have fa : Fr (RFt p) w wa := by rw [← hwa]; exact (Fr.refl _ w).alloc _
  have fb : Fr No wa wb := by rw [← hwb]; exact (Fr.refl _ wa).alloc _
  have fc : Fr No wb wc := by rw [← hwc]; exact (Fr.refl _ wb).alloc _
  have hb4 : Blk wb g4 58 #[.int .i64 0, .int .i64 0, .string ⟨#[]⟩, .slice none 0 0, .slice none 0 0, .slice none 0 0, .slice none 0 0] := by rw [← hwb, ← hg4]; exact Blk.new wa 58 _
  have hb5 : Blk wc g5 58 #[.int .i64 2, .int .i64 0, .string ⟨#[]⟩, .slice none 0 0, .slice none 0 0, .slice none 0 0, .slice none 0 0] := by rw [← hwc, ← hg5]; exact Blk.new wb 58 _
  have hb4c : Blk wc g4 58 #[.int .i64 0, .int .i64 0, .string ⟨#[]⟩, .slice none 0 0, .slice none 0 0, .slice none 0 0, .slice none 0 0] := hb4.of (fc.block g4 hb4.lt id)
  have fwc : Fr (RFt p) w wc := (fa.then fb.any).then fc.any
  have hrc : RAt wc p S := h.of fun k hk => by
    have hlt := h.lt k hk
    have e1 : wa.heap[k]? = w.heap[k]? := by rw [← hwa]; exact Below.heap_alloc w _ k hlt
    rw [fc.block k (by have := fa.size; have := fb.size; omega) id, fb.block k (by have := fa.size; omega) id, e1]
  have hpg : ∀ k, RFt p k → k < w.heap.size := h.lt
  have hgs : w.heap.size ≤ g4 ∧ g4 < g5 ∧ g5 < wc.heap.size := ⟨by have := fa.size; omega, by have := hb4.lt; omega, hb5.lt⟩
  have HR := Lib.hid hrc
  have H4 := Lib.hid hb4c
  have H5 := Lib.hid hb5
  have FC := Lib.hid fwc
  have PG := Lib.hid hpg
  have GS := Lib.hid hgs
  have KB := Lib.hid hkb
  have HWA := Lib.hid hwa
  have HWB := Lib.hid hwb
  have HWC := Lib.hid hwc
  have HGB := Lib.hid hgb
  have HG4 : Hid (gb + 1 = g4) := Lib.hid (by rw [← hg4, ← hwa, ← hgb]; simp)
  have HG5 : Hid (g4 + 1 = g5) := Lib.hid (by rw [← hg5, ← hwb, ← hg4]; simp)
  have hw64 : wrap64 (((S.count n).1 : Nat) : Int) = (((S.count n).1 : Nat) : Int) := IntWalk.wrap64_in _ (count_bd S n)
  clear fa fb fc hb4 hb5 hb4c fwc hrc hpg hgs hwa hwb hwc hgb hg4 hg5 h hkb
  generalize hP : wpt p = P at *
  have HP := Lib.hid hP
  clear hP
  go_enter Try.func25, Try.ntmps25
  go_wp2_with fail
  rw [HWA.out, HWB.out, HWC.out, HGB.out, HG4.out, HG5.out]
  rw [← HP.out]
  refine (rcount_any p S n wc HR.out).mono ?_
  rintro e w3 ⟨rfl, h3, f3⟩
  have hx4 := H4.out.of (f3.block g4 H4.out.lt fun e => by have := PG.out g4 e; have := GS.out; omega)
  have hx5 := H5.out.of (f3.block g5 H5.out.lt fun e => by have := PG.out g5 e; have := GS.out; omega)
  have F3 := Lib.hid (FC.out.then f3)
  have h3size := f3.size
  have S3 := Lib.hid h3size
  have c3 : w3.cell? ⟨g5, 1, none⟩ = some (.int .i64 0) := hx5.cell 1
  have z3 := hx5.frozen 1
  obtain ⟨w4, hw4⟩ : ∃ w4, w3.setCell ⟨g5, 1, none⟩ (.int .i64 ((S.count n).1 : Nat)) = w4 := ⟨_, rfl⟩
  have b5 := hx5.set_ 1 (.int .i64 ((S.count n).1 : Nat))
  rw [hw4] at b5
  have b4 : Blk w4 g4 58 #[.int .i64 0, .int .i64 0, .string ⟨#[]⟩, .slice none 0 0, .slice none 0 0, .slice none 0 0, .slice none 0 0] := by rw [← hw4]; exact hx4.of (Below.heap_setCell _ _ _ g4 (by have := GS.out; show g4 ≠ g5; omega))
  have h4 : RAt w4 p ((S.count n).2) := by rw [← hw4]; exact h3.of fun j hj => Below.heap_setCell _ _ _ j (by have := GS.out; have := PG.out j hj; show j ≠ g5; omega)
  have f4 : Fr (RFt p) w w4 := by rw [← hw4]; exact F3.out.setCell (p := ⟨g5, 1, none⟩) (fun h => absurd h (by have := GS.out; show ¬ g5 < w.heap.size; omega)) _
  have hsame : ∀ j, j ≠ g5 → w4.heap[j]? = w3.heap[j]? := fun j hj => by rw [← hw4]; exact Below.heap_setCell _ _ _ j hj
  have t4 : ThingAt (fun k => w.heap.size ≤ k ∧ k ≠ g4) w4 (⟨2, ((S.count n).1 : Nat), [], [], [], [], []⟩) (.slice none 0 0) (.slice none 0 0) (.slice none 0 0) (.slice none 0 0) := nil_thing _ _ _ _ _ KB.out (count_bd S n) (by simp)
  have HR4 := Lib.hid h4
  have F4 := Lib.hid f4
  have T4 := Lib.hid t4
  have d0 : w4.cell? ⟨g5, 0, none⟩ = some (.int .i64 2) := b5.cell 0
  have d1 : w4.cell? ⟨g5, 1, none⟩ = some (.int .i64 ((S.count n).1 : Nat)) := b5.cell 1
  have d2 : w4.cell? ⟨g5, 2, none⟩ = some (.string ⟨#[]⟩) := b5.cell 2
  have d3 : w4.cell? ⟨g5, 3, none⟩ = some (.slice none 0 0) := b5.cell 3
  have d4 : w4.cell? ⟨g5, 4, none⟩ = some (.slice none 0 0) := b5.cell 4
  have d5 : w4.cell? ⟨g5, 5, none⟩ = some (.slice none 0 0) := b5.cell 5
  have d6 : w4.cell? ⟨g5, 6, none⟩ = some (.slice none 0 0) := b5.cell 6
  have e0 : w4.cell? ⟨g4, 0, none⟩ = some (.int .i64 0) := b4.cell 0
  have e1 : w4.cell? ⟨g4, 1, none⟩ = some (.int .i64 0) := b4.cell 1
  have e2 : w4.cell? ⟨g4, 2, none⟩ = some (.string ⟨#[]⟩) := b4.cell 2
  have e3 : w4.cell? ⟨g4, 3, none⟩ = some (.slice none 0 0) := b4.cell 3
  have e4 : w4.cell? ⟨g4, 4, none⟩ = some (.slice none 0 0) := b4.cell 4
  have e5 : w4.cell? ⟨g4, 5, none⟩ = some (.slice none 0 0) := b4.cell 5
  have e6 : w4.cell? ⟨g4, 6, none⟩ = some (.slice none 0 0) := b4.cell 6
  have y0 := b4.frozen 0
  have y1 := b4.frozen 1
  have y2 := b4.frozen 2
  have y3 := b4.frozen 3
  have y4 := b4.frozen 4
  have y5 := b4.frozen 5
  have y6 := b4.frozen 6
  clear h4 f4 t4 b4 b5 hx4 hx5 f3 h3 h3size hsame
  rw [HP.out]
  go_wp2
  refine bodyPost_ret (v := .agg #[.int .i64 2, .int .i64 ((S.count n).1 : Nat), .string ⟨#[]⟩, .slice none 0 0, .slice none 0 0, .slice none 0 0, .slice none 0 0]) (by simp [results, Try.results25, go_sem, e0, e1, e2, e3, e4, e5, e6]) rfl ?_
  obtain ⟨q1, q2, q3⟩ := take_fin GS.out.1 HR4.out PG.out F4.out T4.out (.int .i64 2) (.int .i64 ((S.count n).1 : Nat)) (.string ⟨#[]⟩) (.slice none 0 0) (.slice none 0 0) (.slice none 0 0) (.slice none 0 0)
  exact ⟨_, _, _, _, rfl, q1, q2, q3⟩
set_option maxRecDepth 100000 in
set_option maxHeartbeats 4000000 in
theorem take_3 (p : Option Nat) (S : RS) (n : Int) (s : List UInt8) (A1 A2 A3 A4 : Option Addr) (n1 k1 n2 k2 n3 k3 n4 k4 : Nat) (hkb : i64 (3)) (w : World) (h : RAt w p S) :
    Calls Try.prog 25 #[wpt p, .agg #[.int .i64 3, .int .i64 n, sv s, .slice A1 n1 k1, .slice A2 n2 k2, .slice A3 n3 k3, .slice A4 n4 k4]] w (RPt p w (⟨3, 0, S.text.1, [], [], [], []⟩) (S.text.2)) := by
  obtain ⟨wa, hwa⟩ : ∃ wa, w.alloc (.cells #[.int .i64 3, .int .i64 n, sv s, .slice A1 n1 k1, .slice A2 n2 k2, .slice A3 n3 k3, .slice A4 n4 k4] 58) = wa := ⟨_, rfl⟩
  obtain ⟨wb, hwb⟩ : ∃ wb, wa.alloc (.cells #[.int .i64 0, .int .i64 0, .string ⟨#[]⟩, .slice none 0 0, .slice none 0 0, .slice none 0 0, .slice none 0 0] 58) = wb := ⟨_, rfl⟩
  obtain ⟨wc, hwc⟩ : ∃ wc, wb.alloc (.cells #[.int .i64 3, .int .i64 0, .string ⟨#[]⟩, .slice none 0 0, .slice none 0 0, .slice none 0 0, .slice none 0 0] 58) = wc := ⟨_, rfl⟩
  obtain ⟨gb, hgb⟩ : ∃ gb, w.heap.size = gb := ⟨_, rfl⟩
  obtain ⟨g4, hg4⟩ : ∃ g4, wa.heap.size = g4 := ⟨_, rfl⟩
  obtain ⟨g5, hg5⟩ : ∃ g5, wb.heap.size = g5 := ⟨_, rfl⟩
  have fa : Fr (RFt p) w wa := by rw [← hwa]; exact (Fr.refl _ w).alloc _
  have fb : Fr No wa wb := by rw [← hwb]; exact (Fr.refl _ wa).alloc _
  have fc : Fr No wb wc := by rw [← hwc]; exact (Fr.refl _ wb).alloc _
  have hb4 : Blk wb g4 58 #[.int .i64 0, .int .i64 0, .string ⟨#[]⟩, .slice none 0 0, .slice none 0 0, .slice none 0 0, .slice none 0 0] := by rw [← hwb, ← hg4]; exact Blk.new wa 58 _
  have hb5 : Blk wc g5 58 #[.int .i64 3, .int .i64 0, .string ⟨#[]⟩, .slice none 0 0, .slice none 0 0, .slice none 0 0, .slice none 0 0] := by rw [← hwc, ← hg5]; exact Blk.new wb 58 _
  have hb4c : Blk wc g4 58 #[.int .i64 0, .int .i64 0, .string ⟨#[]⟩, .slice none 0 0, .slice none 0 0, .slice none 0 0, .slice none 0 0] := hb4.of (fc.block g4 hb4.lt id)
  have fwc : Fr (RFt p) w wc := (fa.then fb.any).then fc.any
  have hrc : RAt wc p S := h.of fun k hk => by
    have hlt := h.lt k hk
    have e1 : wa.heap[k]? = w.heap[k]? := by rw [← hwa]; exact Below.heap_alloc w _ k hlt
    rw [fc.block k (by have := fa.size; have := fb.size; omega) id, fb.block k (by have := fa.size; omega) id, e1]
  have hpg : ∀ k, RFt p k → k < w.heap.size := h.lt
  have hgs : w.heap.size ≤ g4 ∧ g4 < g5 ∧ g5 < wc.heap.size := ⟨by have := fa.size; omega, by have := hb4.lt; omega, hb5.lt⟩
  have HR := Lib.hid hrc
  have H4 := Lib.hid hb4c
  have H5 := Lib.hid hb5
  have FC := Lib.hid fwc
  have PG := Lib.hid hpg
  have GS := Lib.hid hgs
  have KB := Lib.hid hkb
  have HWA := Lib.hid hwa
  have HWB := Lib.hid hwb
  have HWC := Lib.hid hwc
  have HGB := Lib.hid hgb
  have HG4 : Hid (gb + 1 = g4) := Lib.hid (by rw [← hg4, ← hwa, ← hgb]; simp)
  have HG5 : Hid (g4 + 1 = g5) := Lib.hid (by rw [← hg5, ← hwb, ← hg4]; simp)
  clear fa fb fc hb4 hb5 hb4c fwc hrc hpg hgs hwa hwb hwc hgb hg4 hg5 h hkb
  generalize hP : wpt p = P at *
  have HP := Lib.hid hP
  clear hP
  go_enter Try.func25, Try.ntmps25
  go_wp2_with fail
  rw [HWA.out, HWB.out, HWC.out, HGB.out, HG4.out, HG5.out]
  rw [← HP.out]
  refine (rtext_any p S wc HR.out).mono ?_
  rintro e w3 ⟨rfl, h3, f3⟩
  have hx4 := H4.out.of (f3.block g4 H4.out.lt fun e => by have := PG.out g4 e; have := GS.out; omega)
  have hx5 := H5.out.of (f3.block g5 H5.out.lt fun e => by have := PG.out g5 e; have := GS.out; omega)
  have F3 := Lib.hid (FC.out.then f3)
  have h3size := f3.size
  have S3 := Lib.hid h3size
  have c3 : w3.cell? ⟨g5, 2, none⟩ = some (.string ⟨#[]⟩) := hx5.cell 2
  have z3 := hx5.frozen 2
  obtain ⟨w4, hw4⟩ : ∃ w4, w3.setCell ⟨g5, 2, none⟩ (sv S.text.1) = w4 := ⟨_, rfl⟩
  have b5 := hx5.set_ 2 (sv S.text.1)
  rw [hw4] at b5
  have b4 : Blk w4 g4 58 #[.int .i64 0, .int .i64 0, .string ⟨#[]⟩, .slice none 0 0, .slice none 0 0, .slice none 0 0, .slice none 0 0] := by rw [← hw4]; exact hx4.of (Below.heap_setCell _ _ _ g4 (by have := GS.out; show g4 ≠ g5; omega))
  have h4 : RAt w4 p (S.text.2) := by rw [← hw4]; exact h3.of fun j hj => Below.heap_setCell _ _ _ j (by have := GS.out; have := PG.out j hj; show j ≠ g5; omega)
  have f4 : Fr (RFt p) w w4 := by rw [← hw4]; exact F3.out.setCell (p := ⟨g5, 2, none⟩) (fun h => absurd h (by have := GS.out; show ¬ g5 < w.heap.size; omega)) _
  have hsame : ∀ j, j ≠ g5 → w4.heap[j]? = w3.heap[j]? := fun j hj => by rw [← hw4]; exact Below.heap_setCell _ _ _ j hj
  have t4 : ThingAt (fun k => w.heap.size ≤ k ∧ k ≠ g4) w4 (⟨3, 0, S.text.1, [], [], [], []⟩) (.slice none 0 0) (.slice none 0 0) (.slice none 0 0) (.slice none 0 0) := nil_thing _ _ _ _ _ KB.out (i64_small 0 (by omega)) (by have := text_le S; have := HR.out.len; unfold maxLen; omega)
  have HR4 := Lib.hid h4
  have F4 := Lib.hid f4
  have T4 := Lib.hid t4
  have d0 : w4.cell? ⟨g5, 0, none⟩ = some (.int .i64 3) := b5.cell 0
  have d1 : w4.cell? ⟨g5, 1, none⟩ = some (.int .i64 0) := b5.cell 1
  have d2 : w4.cell? ⟨g5, 2, none⟩ = some (sv S.text.1) := b5.cell 2
  have d3 : w4.cell? ⟨g5, 3, none⟩ = some (.slice none 0 0) := b5.cell 3
  have d4 : w4.cell? ⟨g5, 4, none⟩ = some (.slice none 0 0) := b5.cell 4
  have d5 : w4.cell? ⟨g5, 5, none⟩ = some (.slice none 0 0) := b5.cell 5
  have d6 : w4.cell? ⟨g5, 6, none⟩ = some (.slice none 0 0) := b5.cell 6
  have e0 : w4.cell? ⟨g4, 0, none⟩ = some (.int .i64 0) := b4.cell 0
  have e1 : w4.cell? ⟨g4, 1, none⟩ = some (.int .i64 0) := b4.cell 1
  have e2 : w4.cell? ⟨g4, 2, none⟩ = some (.string ⟨#[]⟩) := b4.cell 2
  have e3 : w4.cell? ⟨g4, 3, none⟩ = some (.slice none 0 0) := b4.cell 3
  have e4 : w4.cell? ⟨g4, 4, none⟩ = some (.slice none 0 0) := b4.cell 4
  have e5 : w4.cell? ⟨g4, 5, none⟩ = some (.slice none 0 0) := b4.cell 5
  have e6 : w4.cell? ⟨g4, 6, none⟩ = some (.slice none 0 0) := b4.cell 6
  have y0 := b4.frozen 0
  have y1 := b4.frozen 1
  have y2 := b4.frozen 2
  have y3 := b4.frozen 3
  have y4 := b4.frozen 4
  have y5 := b4.frozen 5
  have y6 := b4.frozen 6
  clear h4 f4 t4 b4 b5 hx4 hx5 f3 h3 h3size hsame
  rw [HP.out]
  go_wp2
  refine bodyPost_ret (v := .agg #[.int .i64 3, .int .i64 0, sv S.text.1, .slice none 0 0, .slice none 0 0, .slice none 0 0, .slice none 0 0]) (by simp [results, Try.results25, go_sem, e0, e1, e2, e3, e4, e5, e6]) rfl ?_
  obtain ⟨q1, q2, q3⟩ := take_fin GS.out.1 HR4.out PG.out F4.out T4.out (.int .i64 3) (.int .i64 0) (sv S.text.1) (.slice none 0 0) (.slice none 0 0) (.slice none 0 0) (.slice none 0 0)
  exact ⟨_, _, _, _, rfl, q1, q2, q3⟩
set_option maxRecDepth 100000 in
set_option maxHeartbeats 4000000 in
theorem take_4 (p : Option Nat) (S : RS) (n : Int) (s : List UInt8) (A1 A2 A3 A4 : Option Addr) (n1 k1 n2 k2 n3 k3 n4 k4 : Nat) (hkb : i64 (4)) (w : World) (h : RAt w p S) :
    Calls Try.prog 25 #[wpt p, .agg #[.int .i64 4, .int .i64 n, sv s, .slice A1 n1 k1, .slice A2 n2 k2, .slice A3 n3 k3, .slice A4 n4 k4]] w (RPt p w (⟨4, 0, [], S.texts.1, [], [], []⟩) (S.texts.2)) := by
  obtain ⟨wa, hwa⟩ : ∃ wa, w.alloc (.cells #[.int .i64 4, .int .i64 n, sv s, .slice A1 n1 k1, .slice A2 n2 k2, .slice A3 n3 k3, .slice A4 n4 k4] 58) = wa := ⟨_, rfl⟩
  obtain ⟨wb, hwb⟩ : ∃ wb, wa.alloc (.cells #[.int .i64 0, .int .i64 0, .string ⟨#[]⟩, .slice none 0 0, .slice none 0 0, .slice none 0 0, .slice none 0 0] 58) = wb := ⟨_, rfl⟩
  obtain ⟨wc, hwc⟩ : ∃ wc, wb.alloc (.cells #[.int .i64 4, .int .i64 0, .string ⟨#[]⟩, .slice none 0 0, .slice none 0 0, .slice none 0 0, .slice none 0 0] 58) = wc := ⟨_, rfl⟩
  obtain ⟨gb, hgb⟩ : ∃ gb, w.heap.size = gb := ⟨_, rfl⟩
  obtain ⟨g4, hg4⟩ : ∃ g4, wa.heap.size = g4 := ⟨_, rfl⟩
  obtain ⟨g5, hg5⟩ : ∃ g5, wb.heap.size = g5 := ⟨_, rfl⟩
  have fa : Fr (RFt p) w wa := by rw [← hwa]; exact (Fr.refl _ w).alloc _
  have fb : Fr No wa wb := by rw [← hwb]; exact (Fr.refl _ wa).alloc _
  have fc : Fr No wb wc := by rw [← hwc]; exact (Fr.refl _ wb).alloc _
  have hb4 : Blk wb g4 58 #[.int .i64 0, .int .i64 0, .string ⟨#[]⟩, .slice none 0 0, .slice none 0 0, .slice none 0 0, .slice none 0 0] := by rw [← hwb, ← hg4]; exact Blk.new wa 58 _
  have hb5 : Blk wc g5 58 #[.int .i64 4, .int .i64 0, .string ⟨#[]⟩, .slice none 0 0, .slice none 0 0, .slice none 0 0, .slice none 0 0] := by rw [← hwc, ← hg5]; exact Blk.new wb 58 _
  have hb4c : Blk wc g4 58 #[.int .i64 0, .int .i64 0, .string ⟨#[]⟩, .slice none 0 0, .slice none 0 0, .slice none 0 0, .slice none 0 0] := hb4.of (fc.block g4 hb4.lt id)
  have fwc : Fr (RFt p) w wc := (fa.then fb.any).then fc.any
  have hrc : RAt wc p S := h.of fun k hk => by
    have hlt := h.lt k hk
    have e1 : wa.heap[k]? = w.heap[k]? := by rw [← hwa]; exact Below.heap_alloc w _ k hlt
    rw [fc.block k (by have := fa.size; have := fb.size; omega) id, fb.block k (by have := fa.size; omega) id, e1]
  have hpg : ∀ k, RFt p k → k < w.heap.size := h.lt
  have hgs : w.heap.size ≤ g4 ∧ g4 < g5 ∧ g5 < wc.heap.size := ⟨by have := fa.size; omega, by have := hb4.lt; omega, hb5.lt⟩
  have HR := Lib.hid hrc
  have H4 := Lib.hid hb4c
  have H5 := Lib.hid hb5
  have FC := Lib.hid fwc
  have PG := Lib.hid hpg
  have GS := Lib.hid hgs
  have KB := Lib.hid hkb
  have HWA := Lib.hid hwa
  have HWB := Lib.hid hwb
  have HWC := Lib.hid hwc
  have HGB := Lib.hid hgb
  have HG4 : Hid (gb + 1 = g4) := Lib.hid (by rw [← hg4, ← hwa, ← hgb]; simp)
  have HG5 : Hid (g4 + 1 = g5) := Lib.hid (by rw [← hg5, ← hwb, ← hg4]; simp)
  clear fa fb fc hb4 hb5 hb4c fwc hrc hpg hgs hwa hwb hwc hgb hg4 hg5 h hkb
  generalize hP : wpt p = P at *
  have HP := Lib.hid hP
  clear hP
  go_enter Try.func25, Try.ntmps25
  go_wp2_with fail
  rw [HWA.out, HWB.out, HWC.out, HGB.out, HG4.out, HG5.out]
  rw [← HP.out]
  refine (rtexts_any p S wc HR.out).mono ?_
  rintro e w3 ⟨V, rfl, h3, f3, r3⟩
  have HV3 := Lib.hid r3
  obtain ⟨B, m, q, rfl⟩ := r3.slice
  have r3 := HV3.out
  have hx4 := H4.out.of (f3.block g4 H4.out.lt fun e => by have := PG.out g4 e; have := GS.out; omega)
  have hx5 := H5.out.of (f3.block g5 H5.out.lt fun e => by have := PG.out g5 e; have := GS.out; omega)
  have F3 := Lib.hid (FC.out.then f3)
  have h3size := f3.size
  have S3 := Lib.hid h3size
  have c3 : w3.cell? ⟨g5, 3, none⟩ = some (.slice none 0 0) := hx5.cell 3
  have z3 := hx5.frozen 3
  obtain ⟨w4, hw4⟩ : ∃ w4, w3.setCell ⟨g5, 3, none⟩ (.slice B m q) = w4 := ⟨_, rfl⟩
  have b5 := hx5.set_ 3 (.slice B m q)
  rw [hw4] at b5
  have b4 : Blk w4 g4 58 #[.int .i64 0, .int .i64 0, .string ⟨#[]⟩, .slice none 0 0, .slice none 0 0, .slice none 0 0, .slice none 0 0] := by rw [← hw4]; exact hx4.of (Below.heap_setCell _ _ _ g4 (by have := GS.out; show g4 ≠ g5; omega))
  have h4 : RAt w4 p (S.texts.2) := by rw [← hw4]; exact h3.of fun j hj => Below.heap_setCell _ _ _ j (by have := GS.out; have := PG.out j hj; show j ≠ g5; omega)
  have f4 : Fr (RFt p) w w4 := by rw [← hw4]; exact F3.out.setCell (p := ⟨g5, 3, none⟩) (fun h => absurd h (by have := GS.out; show ¬ g5 < w.heap.size; omega)) _
  have hsame : ∀ j, j ≠ g5 → w4.heap[j]? = w3.heap[j]? := fun j hj => by rw [← hw4]; exact Below.heap_setCell _ _ _ j hj
  have t4 : ThingAt (fun k => w.heap.size ≤ k ∧ k ≠ g4) w4 (⟨4, 0, [], S.texts.1, [], [], []⟩) (.slice B m q) (.slice none 0 0) (.slice none 0 0) (.slice none 0 0) := ⟨KB.out, i64_small 0 (by omega), by simp, ((r3.bound (by omega)).of (w' := w4) (fun j hj => hsame j (by have := GS.out; have := hj.1; omega)) fun _ _ h => h).mono (fun k hk => ⟨by have := GS.out; have := hk.1; omega, by have := GS.out; have := hk.1; omega⟩), RowE.nil _ _ _ _ _, RowE.nil _ _ _ _ _, RowE.nil _ _ _ _ _⟩
  have HR4 := Lib.hid h4
  have F4 := Lib.hid f4
  have T4 := Lib.hid t4
  have d0 : w4.cell? ⟨g5, 0, none⟩ = some (.int .i64 4) := b5.cell 0
  have d1 : w4.cell? ⟨g5, 1, none⟩ = some (.int .i64 0) := b5.cell 1
  have d2 : w4.cell? ⟨g5, 2, none⟩ = some (.string ⟨#[]⟩) := b5.cell 2
  have d3 : w4.cell? ⟨g5, 3, none⟩ = some (.slice B m q) := b5.cell 3
  have d4 : w4.cell? ⟨g5, 4, none⟩ = some (.slice none 0 0) := b5.cell 4
  have d5 : w4.cell? ⟨g5, 5, none⟩ = some (.slice none 0 0) := b5.cell 5
  have d6 : w4.cell? ⟨g5, 6, none⟩ = some (.slice none 0 0) := b5.cell 6
  have e0 : w4.cell? ⟨g4, 0, none⟩ = some (.int .i64 0) := b4.cell 0
  have e1 : w4.cell? ⟨g4, 1, none⟩ = some (.int .i64 0) := b4.cell 1
  have e2 : w4.cell? ⟨g4, 2, none⟩ = some (.string ⟨#[]⟩) := b4.cell 2
  have e3 : w4.cell? ⟨g4, 3, none⟩ = some (.slice none 0 0) := b4.cell 3
  have e4 : w4.cell? ⟨g4, 4, none⟩ = some (.slice none 0 0) := b4.cell 4
  have e5 : w4.cell? ⟨g4, 5, none⟩ = some (.slice none 0 0) := b4.cell 5
  have e6 : w4.cell? ⟨g4, 6, none⟩ = some (.slice none 0 0) := b4.cell 6
  have y0 := b4.frozen 0
  have y1 := b4.frozen 1
  have y2 := b4.frozen 2
  have y3 := b4.frozen 3
  have y4 := b4.frozen 4
  have y5 := b4.frozen 5
  have y6 := b4.frozen 6
  clear h4 f4 t4 b4 b5 hx4 hx5 f3 h3 h3size hsame r3
  rw [HP.out]
  go_wp2
  refine bodyPost_ret (v := .agg #[.int .i64 4, .int .i64 0, .string ⟨#[]⟩, .slice B m q, .slice none 0 0, .slice none 0 0, .slice none 0 0]) (by simp [results, Try.results25, go_sem, e0, e1, e2, e3, e4, e5, e6]) rfl ?_
  obtain ⟨q1, q2, q3⟩ := take_fin GS.out.1 HR4.out PG.out F4.out T4.out (.int .i64 4) (.int .i64 0) (.string ⟨#[]⟩) (.slice B m q) (.slice none 0 0) (.slice none 0 0) (.slice none 0 0)
  exact ⟨_, _, _, _, rfl, q1, q2, q3⟩
set_option maxRecDepth 100000 in
set_option maxHeartbeats 4000000 in
theorem take_6 (p : Option Nat) (S : RS) (n : Int) (s : List UInt8) (A1 A2 A3 A4 : Option Addr) (n1 k1 n2 k2 n3 k3 n4 k4 : Nat) (hkb : i64 (6)) (w : World) (h : RAt w p S) :
    Calls Try.prog 25 #[wpt p, .agg #[.int .i64 6, .int .i64 n, sv s, .slice A1 n1 k1, .slice A2 n2 k2, .slice A3 n3 k3, .slice A4 n4 k4]] w (RPt p w (⟨6, 0, [], [], S.cells.1, [], []⟩) (S.cells.2)) := by
  obtain ⟨wa, hwa⟩ : ∃ wa, w.alloc (.cells #[.int .i64 6, .int .i64 n, sv s, .slice A1 n1 k1, .slice A2 n2 k2, .slice A3 n3 k3, .slice A4 n4 k4] 58) = wa := ⟨_, rfl⟩
  obtain ⟨wb, hwb⟩ : ∃ wb, wa.alloc (.cells #[.int .i64 0, .int .i64 0, .string ⟨#[]⟩, .slice none 0 0, .slice none 0 0, .slice none 0 0, .slice none 0 0] 58) = wb := ⟨_, rfl⟩
  obtain ⟨wc, hwc⟩ : ∃ wc, wb.alloc (.cells #[.int .i64 6, .int .i64 0, .string ⟨#[]⟩, .slice none 0 0, .slice none 0 0, .slice none 0 0, .slice none 0 0] 58) = wc := ⟨_, rfl⟩
  obtain ⟨gb, hgb⟩ : ∃ gb, w.heap.size = gb := ⟨_, rfl⟩
  obtain ⟨g4, hg4⟩ : ∃ g4, wa.heap.size = g4 := ⟨_, rfl⟩
  obtain ⟨g5, hg5⟩ : ∃ g5, wb.heap.size = g5 := ⟨_, rfl⟩
  have fa : Fr (RFt p) w wa := by rw [← hwa]; exact (Fr.refl _ w).alloc _
  have fb : Fr No wa wb := by rw [← hwb]; exact (Fr.refl _ wa).alloc _
  have fc : Fr No wb wc := by rw [← hwc]; exact (Fr.refl _ wb).alloc _
  have hb4 : Blk wb g4 58 #[.int .i64 0, .int .i64 0, .string ⟨#[]⟩, .slice none 0 0, .slice none 0 0, .slice none 0 0, .slice none 0 0] := by rw [← hwb, ← hg4]; exact Blk.new wa 58 _
  have hb5 : Blk wc g5 58 #[.int .i64 6, .int .i64 0, .string ⟨#[]⟩, .slice none 0 0, .slice none 0 0, .slice none 0 0, .slice none 0 0] := by rw [← hwc, ← hg5]; exact Blk.new wb 58 _
  have hb4c : Blk wc g4 58 #[.int .i64 0, .int .i64 0, .string ⟨#[]⟩, .slice none 0 0, .slice none 0 0, .slice none 0 0, .slice none 0 0] := hb4.of (fc.block g4 hb4.lt id)
  have fwc : Fr (RFt p) w wc := (fa.then fb.any).then fc.any
  have hrc : RAt wc p S := h.of fun k hk => by
    have hlt := h.lt k hk
    have e1 : wa.heap[k]? = w.heap[k]? := by rw [← hwa]; exact Below.heap_alloc w _ k hlt
    rw [fc.block k (by have := fa.size; have := fb.size; omega) id, fb.block k (by have := fa.size; omega) id, e1]
  have hpg : ∀ k, RFt p k → k < w.heap.size := h.lt
  have hgs : w.heap.size ≤ g4 ∧ g4 < g5 ∧ g5 < wc.heap.size := ⟨by have := fa.size; omega, by have := hb4.lt; omega, hb5.lt⟩
  have HR := Lib.hid hrc
  have H4 := Lib.hid hb4c
  have H5 := Lib.hid hb5
  have FC := Lib.hid fwc
  have PG := Lib.hid hpg
  have GS := Lib.hid hgs
  have KB := Lib.hid hkb
  have HWA := Lib.hid hwa
  have HWB := Lib.hid hwb
  have HWC := Lib.hid hwc
  have HGB := Lib.hid hgb
  have HG4 : Hid (gb + 1 = g4) := Lib.hid (by rw [← hg4, ← hwa, ← hgb]; simp)
  have HG5 : Hid (g4 + 1 = g5) := Lib.hid (by rw [← hg5, ← hwb, ← hg4]; simp)
  clear fa fb fc hb4 hb5 hb4c fwc hrc hpg hgs hwa hwb hwc hgb hg4 hg5 h hkb
  generalize hP : wpt p = P at *
  have HP := Lib.hid hP
  clear hP
  go_enter Try.func25, Try.ntmps25
  go_wp2_with fail
  rw [HWA.out, HWB.out, HWC.out, HGB.out, HG4.out, HG5.out]
  rw [← HP.out]
  refine (rcells_any p S wc HR.out).mono ?_
  rintro e w3 ⟨V, rfl, h3, f3, r3⟩
  have HV3 := Lib.hid r3
  obtain ⟨B, m, q, rfl⟩ := r3.slice
  have r3 := HV3.out
  have hx4 := H4.out.of (f3.block g4 H4.out.lt fun e => by have := PG.out g4 e; have := GS.out; omega)
  have hx5 := H5.out.of (f3.block g5 H5.out.lt fun e => by have := PG.out g5 e; have := GS.out; omega)
  have F3 := Lib.hid (FC.out.then f3)
  have h3size := f3.size
  have S3 := Lib.hid h3size
  have c3 : w3.cell? ⟨g5, 4, none⟩ = some (.slice none 0 0) := hx5.cell 4
  have z3 := hx5.frozen 4
  obtain ⟨w4, hw4⟩ : ∃ w4, w3.setCell ⟨g5, 4, none⟩ (.slice B m q) = w4 := ⟨_, rfl⟩
  have b5 := hx5.set_ 4 (.slice B m q)
  rw [hw4] at b5
  have b4 : Blk w4 g4 58 #[.int .i64 0, .int .i64 0, .string ⟨#[]⟩, .slice none 0 0, .slice none 0 0, .slice none 0 0, .slice none 0 0] := by rw [← hw4]; exact hx4.of (Below.heap_setCell _ _ _ g4 (by have := GS.out; show g4 ≠ g5; omega))
  have h4 : RAt w4 p (S.cells.2) := by rw [← hw4]; exact h3.of fun j hj => Below.heap_setCell _ _ _ j (by have := GS.out; have := PG.out j hj; show j ≠ g5; omega)
  have f4 : Fr (RFt p) w w4 := by rw [← hw4]; exact F3.out.setCell (p := ⟨g5, 4, none⟩) (fun h => absurd h (by have := GS.out; show ¬ g5 < w.heap.size; omega)) _
  have hsame : ∀ j, j ≠ g5 → w4.heap[j]? = w3.heap[j]? := fun j hj => by rw [← hw4]; exact Below.heap_setCell _ _ _ j hj
  have t4 : ThingAt (fun k => w.heap.size ≤ k ∧ k ≠ g4) w4 (⟨6, 0, [], [], S.cells.1, [], []⟩) (.slice none 0 0) (.slice B m q) (.slice none 0 0) (.slice none 0 0) := ⟨KB.out, i64_small 0 (by omega), by simp, RowE.nil _ _ _ _ _, ((r3.bound (by omega)).of (w' := w4) (fun j hj => hsame j (by have := GS.out; have := hj.1; omega)) fun _ _ h => h).mono (fun k hk => ⟨by have := GS.out; have := hk.1; omega, by have := GS.out; have := hk.1; omega⟩), RowE.nil _ _ _ _ _, RowE.nil _ _ _ _ _⟩
  have HR4 := Lib.hid h4
  have F4 := Lib.hid f4
  have T4 := Lib.hid t4
  have d0 : w4.cell? ⟨g5, 0, none⟩ = some (.int .i64 6) := b5.cell 0
  have d1 : w4.cell? ⟨g5, 1, none⟩ = some (.int .i64 0) := b5.cell 1
  have d2 : w4.cell? ⟨g5, 2, none⟩ = some (.string ⟨#[]⟩) := b5.cell 2
  have d3 : w4.cell? ⟨g5, 3, none⟩ = some (.slice none 0 0) := b5.cell 3
  have d4 : w4.cell? ⟨g5, 4, none⟩ = some (.slice B m q) := b5.cell 4
  have d5 : w4.cell? ⟨g5, 5, none⟩ = some (.slice none 0 0) := b5.cell 5
  have d6 : w4.cell? ⟨g5, 6, none⟩ = some (.slice none 0 0) := b5.cell 6
  have e0 : w4.cell? ⟨g4, 0, none⟩ = some (.int .i64 0) := b4.cell 0
  have e1 : w4.cell? ⟨g4, 1, none⟩ = some (.int .i64 0) := b4.cell 1
  have e2 : w4.cell? ⟨g4, 2, none⟩ = some (.string ⟨#[]⟩) := b4.cell 2
  have e3 : w4.cell? ⟨g4, 3, none⟩ = some (.slice none 0 0) := b4.cell 3
  have e4 : w4.cell? ⟨g4, 4, none⟩ = some (.slice none 0 0) := b4.cell 4
  have e5 : w4.cell? ⟨g4, 5, none⟩ = some (.slice none 0 0) := b4.cell 5
  have e6 : w4.cell? ⟨g4, 6, none⟩ = some (.slice none 0 0) := b4.cell 6
  have y0 := b4.frozen 0
  have y1 := b4.frozen 1
  have y2 := b4.frozen 2
  have y3 := b4.frozen 3
  have y4 := b4.frozen 4
  have y5 := b4.frozen 5
  have y6 := b4.frozen 6
  clear h4 f4 t4 b4 b5 hx4 hx5 f3 h3 h3size hsame r3
  rw [HP.out]
  go_wp2
  refine bodyPost_ret (v := .agg #[.int .i64 6, .int .i64 0, .string ⟨#[]⟩, .slice none 0 0, .slice B m q, .slice none 0 0, .slice none 0 0]) (by simp [results, Try.results25, go_sem, e0, e1, e2, e3, e4, e5, e6]) rfl ?_
  obtain ⟨q1, q2, q3⟩ := take_fin GS.out.1 HR4.out PG.out F4.out T4.out (.int .i64 6) (.int .i64 0) (.string ⟨#[]⟩) (.slice none 0 0) (.slice B m q) (.slice none 0 0) (.slice none 0 0)
  exact ⟨_, _, _, _, rfl, q1, q2, q3⟩
set_option maxRecDepth 100000 in
set_option maxHeartbeats 4000000 in
theorem take_8 (p : Option Nat) (S : RS) (n : Int) (s : List UInt8) (A1 A2 A3 A4 : Option Addr) (n1 k1 n2 k2 n3 k3 n4 k4 : Nat) (hkb : i64 (8)) (w : World) (h : RAt w p S) :
    Calls Try.prog 25 #[wpt p, .agg #[.int .i64 8, .int .i64 n, sv s, .slice A1 n1 k1, .slice A2 n2 k2, .slice A3 n3 k3, .slice A4 n4 k4]] w (RPt p w (⟨8, 0, [], [], [], S.facts.1, []⟩) (S.facts.2)) := by
  obtain ⟨wa, hwa⟩ : ∃ wa, w.alloc (.cells #[.int .i64 8, .int .i64 n, sv s, .slice A1 n1 k1, .slice A2 n2 k2, .slice A3 n3 k3, .slice A4 n4 k4] 58) = wa := ⟨_, rfl⟩
  obtain ⟨wb, hwb⟩ : ∃ wb, wa.alloc (.cells #[.int .i64 0, .int .i64 0, .string ⟨#[]⟩, .slice none 0 0, .slice none 0 0, .slice none 0 0, .slice none 0 0] 58) = wb := ⟨_, rfl⟩
  obtain ⟨wc, hwc⟩ : ∃ wc, wb.alloc (.cells #[.int .i64 8, .int .i64 0, .string ⟨#[]⟩, .slice none 0 0, .slice none 0 0, .slice none 0 0, .slice none 0 0] 58) = wc := ⟨_, rfl⟩
  obtain ⟨gb, hgb⟩ : ∃ gb, w.heap.size = gb := ⟨_, rfl⟩
  obtain ⟨g4, hg4⟩ : ∃ g4, wa.heap.size = g4 := ⟨_, rfl⟩
  obtain ⟨g5, hg5⟩ : ∃ g5, wb.heap.size = g5 := ⟨_, rfl⟩
  have fa : Fr (RFt p) w wa := by rw [← hwa]; exact (Fr.refl _ w).alloc _
  have fb : Fr No wa wb := by rw [← hwb]; exact (Fr.refl _ wa).alloc _
  have fc : Fr No wb wc := by rw [← hwc]; exact (Fr.refl _ wb).alloc _
  have hb4 : Blk wb g4 58 #[.int .i64 0, .int .i64 0, .string ⟨#[]⟩, .slice none 0 0, .slice none 0 0, .slice none 0 0, .slice none 0 0] := by rw [← hwb, ← hg4]; exact Blk.new wa 58 _
  have hb5 : Blk wc g5 58 #[.int .i64 8, .int .i64 0, .string ⟨#[]⟩, .slice none 0 0, .slice none 0 0, .slice none 0 0, .slice none 0 0] := by rw [← hwc, ← hg5]; exact Blk.new wb 58 _
  have hb4c : Blk wc g4 58 #[.int .i64 0, .int .i64 0, .string ⟨#[]⟩, .slice none 0 0, .slice none 0 0, .slice none 0 0, .slice none 0 0] := hb4.of (fc.block g4 hb4.lt id)
  have fwc : Fr (RFt p) w wc := (fa.then fb.any).then fc.any
  have hrc : RAt wc p S := h.of fun k hk => by
    have hlt := h.lt k hk
    have e1 : wa.heap[k]? = w.heap[k]? := by rw [← hwa]; exact Below.heap_alloc w _ k hlt
    rw [fc.block k (by have := fa.size; have := fb.size; omega) id, fb.block k (by have := fa.size; omega) id, e1]
  have hpg : ∀ k, RFt p k → k < w.heap.size := h.lt
  have hgs : w.heap.size ≤ g4 ∧ g4 < g5 ∧ g5 < wc.heap.size := ⟨by have := fa.size; omega, by have := hb4.lt; omega, hb5.lt⟩
  have HR := Lib.hid hrc
  have H4 := Lib.hid hb4c
  have H5 := Lib.hid hb5
  have FC := Lib.hid fwc
  have PG := Lib.hid hpg
  have GS := Lib.hid hgs
  have KB := Lib.hid hkb
  have HWA := Lib.hid hwa
  have HWB := Lib.hid hwb
  have HWC := Lib.hid hwc
  have HGB := Lib.hid hgb
  have HG4 : Hid (gb + 1 = g4) := Lib.hid (by rw [← hg4, ← hwa, ← hgb]; simp)
  have HG5 : Hid (g4 + 1 = g5) := Lib.hid (by rw [← hg5, ← hwb, ← hg4]; simp)
  clear fa fb fc hb4 hb5 hb4c fwc hrc hpg hgs hwa hwb hwc hgb hg4 hg5 h hkb
  generalize hP : wpt p = P at *
  have HP := Lib.hid hP
  clear hP
  go_enter Try.func25, Try.ntmps25
  go_wp2_with fail
  rw [HWA.out, HWB.out, HWC.out, HGB.out, HG4.out, HG5.out]
  rw [← HP.out]
  refine (rfacts_any p S wc HR.out).mono ?_
  rintro e w3 ⟨V, rfl, h3, f3, r3⟩
  have HV3 := Lib.hid r3
  obtain ⟨B, m, q, rfl⟩ := r3.slice
  have r3 := HV3.out
  have hx4 := H4.out.of (f3.block g4 H4.out.lt fun e => by have := PG.out g4 e; have := GS.out; omega)
  have hx5 := H5.out.of (f3.block g5 H5.out.lt fun e => by have := PG.out g5 e; have := GS.out; omega)
  have F3 := Lib.hid (FC.out.then f3)
  have h3size := f3.size
  have S3 := Lib.hid h3size
  have c3 : w3.cell? ⟨g5, 5, none⟩ = some (.slice none 0 0) := hx5.cell 5
  have z3 := hx5.frozen 5
  obtain ⟨w4, hw4⟩ : ∃ w4, w3.setCell ⟨g5, 5, none⟩ (.slice B m q) = w4 := ⟨_, rfl⟩
  have b5 := hx5.set_ 5 (.slice B m q)
  rw [hw4] at b5
  have b4 : Blk w4 g4 58 #[.int .i64 0, .int .i64 0, .string ⟨#[]⟩, .slice none 0 0, .slice none 0 0, .slice none 0 0, .slice none 0 0] := by rw [← hw4]; exact hx4.of (Below.heap_setCell _ _ _ g4 (by have := GS.out; show g4 ≠ g5; omega))
  have h4 : RAt w4 p (S.facts.2) := by rw [← hw4]; exact h3.of fun j hj => Below.heap_setCell _ _ _ j (by have := GS.out; have := PG.out j hj; show j ≠ g5; omega)
  have f4 : Fr (RFt p) w w4 := by rw [← hw4]; exact F3.out.setCell (p := ⟨g5, 5, none⟩) (fun h => absurd h (by have := GS.out; show ¬ g5 < w.heap.size; omega)) _
  have hsame : ∀ j, j ≠ g5 → w4.heap[j]? = w3.heap[j]? := fun j hj => by rw [← hw4]; exact Below.heap_setCell _ _ _ j hj
  have t4 : ThingAt (fun k => w.heap.size ≤ k ∧ k ≠ g4) w4 (⟨8, 0, [], [], [], S.facts.1, []⟩) (.slice none 0 0) (.slice none 0 0) (.slice B m q) (.slice none 0 0) := ⟨KB.out, i64_small 0 (by omega), by simp, RowE.nil _ _ _ _ _, RowE.nil _ _ _ _ _, (by
    have hb := r3.bound (by omega)
    refine (hb.of (E' := factE (fun k => w.heap.size ≤ k ∧ k ≠ g4) w4) (fun j hj => hsame j (by have := GS.out; have := hj.1; omega)) fun x cs hx => ?_).mono (fun k hk => ⟨by have := GS.out; have := hk.1; omega, by have := GS.out; have := hk.1; omega⟩)
    obtain ⟨dv, mv, e, h1, h2⟩ := hx
    exact ⟨dv, mv, e, ((h1.bound (by omega)).of (w' := w4) (fun j hj => hsame j (by have := GS.out; have := hj.1; omega)) fun _ _ h => h).mono (fun k hk => ⟨by have := GS.out; have := hk.1; omega, by have := GS.out; have := hk.1; omega⟩), ((h2.bound (by omega)).of (w' := w4) (fun j hj => hsame j (by have := GS.out; have := hj.1; omega)) fun _ _ h => h).mono (fun k hk => ⟨by have := GS.out; have := hk.1; omega, by have := GS.out; have := hk.1; omega⟩)⟩), RowE.nil _ _ _ _ _⟩
  have HR4 := Lib.hid h4
  have F4 := Lib.hid f4
  have T4 := Lib.hid t4
  have d0 : w4.cell? ⟨g5, 0, none⟩ = some (.int .i64 8) := b5.cell 0
  have d1 : w4.cell? ⟨g5, 1, none⟩ = some (.int .i64 0) := b5.cell 1
  have d2 : w4.cell? ⟨g5, 2, none⟩ = some (.string ⟨#[]⟩) := b5.cell 2
  have d3 : w4.cell? ⟨g5, 3, none⟩ = some (.slice none 0 0) := b5.cell 3
  have d4 : w4.cell? ⟨g5, 4, none⟩ = some (.slice none 0 0) := b5.cell 4
  have d5 : w4.cell? ⟨g5, 5, none⟩ = some (.slice B m q) := b5.cell 5
  have d6 : w4.cell? ⟨g5, 6, none⟩ = some (.slice none 0 0) := b5.cell 6
  have e0 : w4.cell? ⟨g4, 0, none⟩ = some (.int .i64 0) := b4.cell 0
  have e1 : w4.cell? ⟨g4, 1, none⟩ = some (.int .i64 0) := b4.cell 1
  have e2 : w4.cell? ⟨g4, 2, none⟩ = some (.string ⟨#[]⟩) := b4.cell 2
  have e3 : w4.cell? ⟨g4, 3, none⟩ = some (.slice none 0 0) := b4.cell 3
  have e4 : w4.cell? ⟨g4, 4, none⟩ = some (.slice none 0 0) := b4.cell 4
  have e5 : w4.cell? ⟨g4, 5, none⟩ = some (.slice none 0 0) := b4.cell 5
  have e6 : w4.cell? ⟨g4, 6, none⟩ = some (.slice none 0 0) := b4.cell 6
  have y0 := b4.frozen 0
  have y1 := b4.frozen 1
  have y2 := b4.frozen 2
  have y3 := b4.frozen 3
  have y4 := b4.frozen 4
  have y5 := b4.frozen 5
  have y6 := b4.frozen 6
  clear h4 f4 t4 b4 b5 hx4 hx5 f3 h3 h3size hsame r3
  rw [HP.out]
  go_wp2
  refine bodyPost_ret (v := .agg #[.int .i64 8, .int .i64 0, .string ⟨#[]⟩, .slice none 0 0, .slice none 0 0, .slice B m q, .slice none 0 0]) (by simp [results, Try.results25, go_sem, e0, e1, e2, e3, e4, e5, e6]) rfl ?_
  obtain ⟨q1, q2, q3⟩ := take_fin GS.out.1 HR4.out PG.out F4.out T4.out (.int .i64 8) (.int .i64 0) (.string ⟨#[]⟩) (.slice none 0 0) (.slice none 0 0) (.slice B m q) (.slice none 0 0)
  exact ⟨_, _, _, _, rfl, q1, q2, q3⟩
set_option maxRecDepth 100000 in
set_option maxHeartbeats 4000000 in
theorem take_5 (p : Option Nat) (S : RS) (n : Int) (s : List UInt8) (A1 A2 A3 A4 : Option Addr) (n1 k1 n2 k2 n3 k3 n4 k4 : Nat) (hkb : i64 (5)) (w : World) (h : RAt w p S) :
    Calls Try.prog 25 #[wpt p, .agg #[.int .i64 5, .int .i64 n, sv s, .slice A1 n1 k1, .slice A2 n2 k2, .slice A3 n3 k3, .slice A4 n4 k4]] w (RPt p w (⟨5, 0, [], [], [S.cell.1], [], []⟩) (S.cell.2)) := by
  obtain ⟨wa, hwa⟩ : ∃ wa, w.alloc (.cells #[.int .i64 5, .int .i64 n, sv s, .slice A1 n1 k1, .slice A2 n2 k2, .slice A3 n3 k3, .slice A4 n4 k4] 58) = wa := ⟨_, rfl⟩
  obtain ⟨wb, hwb⟩ : ∃ wb, wa.alloc (.cells #[.int .i64 0, .int .i64 0, .string ⟨#[]⟩, .slice none 0 0, .slice none 0 0, .slice none 0 0, .slice none 0 0] 58) = wb := ⟨_, rfl⟩
  obtain ⟨wc, hwc⟩ : ∃ wc, wb.alloc (.cells #[.int .i64 5, .int .i64 0, .string ⟨#[]⟩, .slice none 0 0, .slice none 0 0, .slice none 0 0, .slice none 0 0] 58) = wc := ⟨_, rfl⟩
  obtain ⟨gb, hgb⟩ : ∃ gb, w.heap.size = gb := ⟨_, rfl⟩
  obtain ⟨g4, hg4⟩ : ∃ g4, wa.heap.size = g4 := ⟨_, rfl⟩
  obtain ⟨g5, hg5⟩ : ∃ g5, wb.heap.size = g5 := ⟨_, rfl⟩
  have fa : Fr (RFt p) w wa := by rw [← hwa]; exact (Fr.refl _ w).alloc _
  have fb : Fr No wa wb := by rw [← hwb]; exact (Fr.refl _ wa).alloc _
  have fc : Fr No wb wc := by rw [← hwc]; exact (Fr.refl _ wb).alloc _
  have hb4 : Blk wb g4 58 #[.int .i64 0, .int .i64 0, .string ⟨#[]⟩, .slice none 0 0, .slice none 0 0, .slice none 0 0, .slice none 0 0] := by rw [← hwb, ← hg4]; exact Blk.new wa 58 _
  have hb5 : Blk wc g5 58 #[.int .i64 5, .int .i64 0, .string ⟨#[]⟩, .slice none 0 0, .slice none 0 0, .slice none 0 0, .slice none 0 0] := by rw [← hwc, ← hg5]; exact Blk.new wb 58 _
  have hb4c : Blk wc g4 58 #[.int .i64 0, .int .i64 0, .string ⟨#[]⟩, .slice none 0 0, .slice none 0 0, .slice none 0 0, .slice none 0 0] := hb4.of (fc.block g4 hb4.lt id)
  have fwc : Fr (RFt p) w wc := (fa.then fb.any).then fc.any
  have hrc : RAt wc p S := h.of fun k hk => by
    have hlt := h.lt k hk
    have e1 : wa.heap[k]? = w.heap[k]? := by rw [← hwa]; exact Below.heap_alloc w _ k hlt
    rw [fc.block k (by have := fa.size; have := fb.size; omega) id, fb.block k (by have := fa.size; omega) id, e1]
  have hpg : ∀ k, RFt p k → k < w.heap.size := h.lt
  have hgs : w.heap.size ≤ g4 ∧ g4 < g5 ∧ g5 < wc.heap.size := ⟨by have := fa.size; omega, by have := hb4.lt; omega, hb5.lt⟩
  have HR := Lib.hid hrc
  have H4 := Lib.hid hb4c
  have H5 := Lib.hid hb5
  have FC := Lib.hid fwc
  have PG := Lib.hid hpg
  have GS := Lib.hid hgs
  have KB := Lib.hid hkb
  have HWA := Lib.hid hwa
  have HWB := Lib.hid hwb
  have HWC := Lib.hid hwc
  have HGB := Lib.hid hgb
  have HG4 : Hid (gb + 1 = g4) := Lib.hid (by rw [← hg4, ← hwa, ← hgb]; simp)
  have HG5 : Hid (g4 + 1 = g5) := Lib.hid (by rw [← hg5, ← hwb, ← hg4]; simp)
  clear fa fb fc hb4 hb5 hb4c fwc hrc hpg hgs hwa hwb hwc hgb hg4 hg5 h hkb
  generalize hP : wpt p = P at *
  have HP := Lib.hid hP
  clear hP
  go_enter Try.func25, Try.ntmps25
  go_wp2_with fail
  rw [HWA.out, HWB.out, HWC.out, HGB.out, HG4.out, HG5.out]
  rw [← HP.out]
  refine (rcell_any p S wc HR.out).mono ?_
  unfold CellP.val
  rintro e w3 ⟨rfl, h3, f3⟩
  have hx4 := H4.out.of (f3.block g4 H4.out.lt fun e => by have := PG.out g4 e; have := GS.out; omega)
  have hx5 := H5.out.of (f3.block g5 H5.out.lt fun e => by have := PG.out g5 e; have := GS.out; omega)
  have F3 := Lib.hid (FC.out.then f3)
  have h3size := f3.size
  have S3 := Lib.hid h3size
  obtain ⟨wd, hwd⟩ : ∃ wd, w3.alloc (.cells #[.int .i64 S.cell.1.kind, .int .i64 S.cell.1.int, sv S.cell.1.text] 93) = wd := ⟨_, rfl⟩
  obtain ⟨gd, hgd⟩ : ∃ gd, w3.heap.size = gd := ⟨_, rfl⟩
  have fd : Fr No w3 wd := by rw [← hwd]; exact (Fr.refl _ w3).alloc _
  have hbd : Blk wd gd 93 #[.int .i64 S.cell.1.kind, .int .i64 S.cell.1.int, sv S.cell.1.text] := by rw [← hwd, ← hgd]; exact Blk.new w3 93 _
  have hd5 := hx5.of (fd.block g5 hx5.lt id)
  have hd4 := hx4.of (fd.block g4 hx4.lt id)
  have h3d : RAt wd p (S.cell.2) := h3.keep fd
  have c3 : wd.cell? ⟨g5, 4, none⟩ = some (.slice none 0 0) := hd5.cell 4
  have z3 := hd5.frozen 4
  obtain ⟨w4, hw4⟩ : ∃ w4, wd.setCell ⟨g5, 4, none⟩ (.slice (some ⟨gd, 0, none⟩) 1 1) = w4 := ⟨_, rfl⟩
  have b5 := hd5.set_ 4 (.slice (some ⟨gd, 0, none⟩) 1 1)
  rw [hw4] at b5
  have b4 : Blk w4 g4 58 #[.int .i64 0, .int .i64 0, .string ⟨#[]⟩, .slice none 0 0, .slice none 0 0, .slice none 0 0, .slice none 0 0] := by rw [← hw4]; exact hd4.of (Below.heap_setCell _ _ _ g4 (by have := GS.out; show g4 ≠ g5; omega))
  have h4 : RAt w4 p (S.cell.2) := by rw [← hw4]; exact h3d.of fun j hj => Below.heap_setCell _ _ _ j (by have := GS.out; have := PG.out j hj; show j ≠ g5; omega)
  have f4 : Fr (RFt p) w w4 := by rw [← hw4]; exact (F3.out.then fd.any).setCell (p := ⟨g5, 4, none⟩) (fun h => absurd h (by have := GS.out; show ¬ g5 < w.heap.size; omega)) _
  have hsame : ∀ j, j ≠ g5 → w4.heap[j]? = wd.heap[j]? := fun j hj => by rw [← hw4]; exact Below.heap_setCell _ _ _ j hj
  have hgd3 : wc.heap.size ≤ gd := by have := S3.out; omega
  have hbd4 : Blk w4 gd 93 #[.int .i64 S.cell.1.kind, .int .i64 S.cell.1.int, sv S.cell.1.text] := hbd.of (hsame gd (by have := GS.out; omega))
  have hsame3 : ∀ j, j < w3.heap.size → j ≠ g5 → w4.heap[j]? = w3.heap[j]? := fun j hj hne => by rw [hsame j hne]; exact fd.block j hj id
  have t4 : ThingAt (fun k => w.heap.size ≤ k ∧ k ≠ g4) w4 (⟨5, 0, [], [], [S.cell.1], [], []⟩) (.slice none 0 0) (.slice (some ⟨gd, 0, none⟩) 1 1) (.slice none 0 0) (.slice none 0 0) := ⟨KB.out, i64_small 0 (by omega), by simp, RowE.nil _ _ _ _ _, ⟨some ⟨gd, 0, none⟩, 1, rfl, by unfold maxLen; simp, fun _ => ⟨gd, 0, rfl, ⟨by have := GS.out; omega, by have := GS.out; omega⟩, fun j hj => by
      obtain rfl : j = 0 := by simpa using hj
      refine ⟨_, rfl, fun i hi => ?_, ⟨rfl, cell_ok S HR.out.len⟩⟩
      have := hbd4.cell i
      simpa using this⟩⟩, RowE.nil _ _ _ _ _, RowE.nil _ _ _ _ _⟩
  have HR4 := Lib.hid h4
  have F4 := Lib.hid f4
  have T4 := Lib.hid t4
  have d0 : w4.cell? ⟨g5, 0, none⟩ = some (.int .i64 5) := b5.cell 0
  have d1 : w4.cell? ⟨g5, 1, none⟩ = some (.int .i64 0) := b5.cell 1
  have d2 : w4.cell? ⟨g5, 2, none⟩ = some (.string ⟨#[]⟩) := b5.cell 2
  have d3 : w4.cell? ⟨g5, 3, none⟩ = some (.slice none 0 0) := b5.cell 3
  have d4 : w4.cell? ⟨g5, 4, none⟩ = some (.slice (some ⟨gd, 0, none⟩) 1 1) := b5.cell 4
  have d5 : w4.cell? ⟨g5, 5, none⟩ = some (.slice none 0 0) := b5.cell 5
  have d6 : w4.cell? ⟨g5, 6, none⟩ = some (.slice none 0 0) := b5.cell 6
  have e0 : w4.cell? ⟨g4, 0, none⟩ = some (.int .i64 0) := b4.cell 0
  have e1 : w4.cell? ⟨g4, 1, none⟩ = some (.int .i64 0) := b4.cell 1
  have e2 : w4.cell? ⟨g4, 2, none⟩ = some (.string ⟨#[]⟩) := b4.cell 2
  have e3 : w4.cell? ⟨g4, 3, none⟩ = some (.slice none 0 0) := b4.cell 3
  have e4 : w4.cell? ⟨g4, 4, none⟩ = some (.slice none 0 0) := b4.cell 4
  have e5 : w4.cell? ⟨g4, 5, none⟩ = some (.slice none 0 0) := b4.cell 5
  have e6 : w4.cell? ⟨g4, 6, none⟩ = some (.slice none 0 0) := b4.cell 6
  have y0 := b4.frozen 0
  have y1 := b4.frozen 1
  have y2 := b4.frozen 2
  have y3 := b4.frozen 3
  have y4 := b4.frozen 4
  have y5 := b4.frozen 5
  have y6 := b4.frozen 6
  clear h4 f4 t4 b4 b5 hx4 hx5 f3 h3 h3size hsame hsame3 hbd hbd4 hd5 hd4 h3d fd hgd3
  rw [HP.out]
  go_wp2
  refine bodyPost_ret (v := .agg #[.int .i64 5, .int .i64 0, .string ⟨#[]⟩, .slice none 0 0, .slice (some ⟨gd, 0, none⟩) 1 1, .slice none 0 0, .slice none 0 0]) (by simp [results, Try.results25, go_sem, e0, e1, e2, e3, e4, e5, e6]) rfl ?_
  obtain ⟨q1, q2, q3⟩ := take_fin GS.out.1 HR4.out PG.out F4.out T4.out (.int .i64 5) (.int .i64 0) (.string ⟨#[]⟩) (.slice none 0 0) (.slice (some ⟨gd, 0, none⟩) 1 1) (.slice none 0 0) (.slice none 0 0)
  exact ⟨_, _, _, _, rfl, q1, q2, q3⟩
set_option maxRecDepth 100000 in
set_option maxHeartbeats 4000000 in
theorem take_7 (p : Option Nat) (S : RS) (n : Int) (s : List UInt8) (A1 A2 A3 A4 : Option Addr) (n1 k1 n2 k2 n3 k3 n4 k4 : Nat) (hkb : i64 (7)) (w : World) (h : RAt w p S) :
    Calls Try.prog 25 #[wpt p, .agg #[.int .i64 7, .int .i64 n, sv s, .slice A1 n1 k1, .slice A2 n2 k2, .slice A3 n3 k3, .slice A4 n4 k4]] w (RPt p w (⟨7, 0, [], [], [], [S.fact.1], []⟩) (S.fact.2)) := by
  obtain ⟨wa, hwa⟩ : ∃ wa, w.alloc (.cells #[.int .i64 7, .int .i64 n, sv s, .slice A1 n1 k1, .slice A2 n2 k2, .slice A3 n3 k3, .slice A4 n4 k4] 58) = wa := ⟨_, rfl⟩
  obtain ⟨wb, hwb⟩ : ∃ wb, wa.alloc (.cells #[.int .i64 0, .int .i64 0, .string ⟨#[]⟩, .slice none 0 0, .slice none 0 0, .slice none 0 0, .slice none 0 0] 58) = wb := ⟨_, rfl⟩
  obtain ⟨wc, hwc⟩ : ∃ wc, wb.alloc (.cells #[.int .i64 7, .int .i64 0, .string ⟨#[]⟩, .slice none 0 0, .slice none 0 0, .slice none 0 0, .slice none 0 0] 58) = wc := ⟨_, rfl⟩
  obtain ⟨gb, hgb⟩ : ∃ gb, w.heap.size = gb := ⟨_, rfl⟩
  obtain ⟨g4, hg4⟩ : ∃ g4, wa.heap.size = g4 := ⟨_, rfl⟩
  obtain ⟨g5, hg5⟩ : ∃ g5, wb.heap.size = g5 := ⟨_, rfl⟩
  have fa : Fr (RFt p) w wa := by rw [← hwa]; exact (Fr.refl _ w).alloc _
  have fb : Fr No wa wb := by rw [← hwb]; exact (Fr.refl _ wa).alloc _
  have fc : Fr No wb wc := by rw [← hwc]; exact (Fr.refl _ wb).alloc _
  have hb4 : Blk wb g4 58 #[.int .i64 0, .int .i64 0, .string ⟨#[]⟩, .slice none 0 0, .slice none 0 0, .slice none 0 0, .slice none 0 0] := by rw [← hwb, ← hg4]; exact Blk.new wa 58 _
  have hb5 : Blk wc g5 58 #[.int .i64 7, .int .i64 0, .string ⟨#[]⟩, .slice none 0 0, .slice none 0 0, .slice none 0 0, .slice none 0 0] := by rw [← hwc, ← hg5]; exact Blk.new wb 58 _
  have hb4c : Blk wc g4 58 #[.int .i64 0, .int .i64 0, .string ⟨#[]⟩, .slice none 0 0, .slice none 0 0, .slice none 0 0, .slice none 0 0] := hb4.of (fc.block g4 hb4.lt id)
  have fwc : Fr (RFt p) w wc := (fa.then fb.any).then fc.any
  have hrc : RAt wc p S := h.of fun k hk => by
    have hlt := h.lt k hk
    have e1 : wa.heap[k]? = w.heap[k]? := by rw [← hwa]; exact Below.heap_alloc w _ k hlt
    rw [fc.block k (by have := fa.size; have := fb.size; omega) id, fb.block k (by have := fa.size; omega) id, e1]
  have hpg : ∀ k, RFt p k → k < w.heap.size := h.lt
  have hgs : w.heap.size ≤ g4 ∧ g4 < g5 ∧ g5 < wc.heap.size := ⟨by have := fa.size; omega, by have := hb4.lt; omega, hb5.lt⟩
  have HR := Lib.hid hrc
  have H4 := Lib.hid hb4c
  have H5 := Lib.hid hb5
  have FC := Lib.hid fwc
  have PG := Lib.hid hpg
  have GS := Lib.hid hgs
  have KB := Lib.hid hkb
  have HWA := Lib.hid hwa
  have HWB := Lib.hid hwb
  have HWC := Lib.hid hwc
  have HGB := Lib.hid hgb
  have HG4 : Hid (gb + 1 = g4) := Lib.hid (by rw [← hg4, ← hwa, ← hgb]; simp)
  have HG5 : Hid (g4 + 1 = g5) := Lib.hid (by rw [← hg5, ← hwb, ← hg4]; simp)
  clear fa fb fc hb4 hb5 hb4c fwc hrc hpg hgs hwa hwb hwc hgb hg4 hg5 h hkb
  generalize hP : wpt p = P at *
  have HP := Lib.hid hP
  clear hP
  go_enter Try.func25, Try.ntmps25
  go_wp2_with fail
  rw [HWA.out, HWB.out, HWC.out, HGB.out, HG4.out, HG5.out]
  rw [← HP.out]
  refine (rfact_any p S wc HR.out).mono ?_
  rintro e w3 ⟨dv, mv, rfl, h3, f3, rd, rm⟩
  have RD := Lib.hid (rd.bound (by omega))
  have RM := Lib.hid (rm.bound (by omega))
  obtain ⟨B1, m1, q1, rfl⟩ := rd.slice
  obtain ⟨B2, m2, q2, rfl⟩ := rm.slice
  have hx4 := H4.out.of (f3.block g4 H4.out.lt fun e => by have := PG.out g4 e; have := GS.out; omega)
  have hx5 := H5.out.of (f3.block g5 H5.out.lt fun e => by have := PG.out g5 e; have := GS.out; omega)
  have F3 := Lib.hid (FC.out.then f3)
  have h3size := f3.size
  have S3 := Lib.hid h3size
  obtain ⟨wd, hwd⟩ : ∃ wd, w3.alloc (.cells #[.slice B1 m1 q1, .slice B2 m2 q2] 99) = wd := ⟨_, rfl⟩
  obtain ⟨gd, hgd⟩ : ∃ gd, w3.heap.size = gd := ⟨_, rfl⟩
  have fd : Fr No w3 wd := by rw [← hwd]; exact (Fr.refl _ w3).alloc _
  have hbd : Blk wd gd 99 #[.slice B1 m1 q1, .slice B2 m2 q2] := by rw [← hwd, ← hgd]; exact Blk.new w3 99 _
  have hd5 := hx5.of (fd.block g5 hx5.lt id)
  have hd4 := hx4.of (fd.block g4 hx4.lt id)
  have h3d : RAt wd p (S.fact.2) := h3.keep fd
  have c3 : wd.cell? ⟨g5, 5, none⟩ = some (.slice none 0 0) := hd5.cell 5
  have z3 := hd5.frozen 5
  obtain ⟨w4, hw4⟩ : ∃ w4, wd.setCell ⟨g5, 5, none⟩ (.slice (some ⟨gd, 0, none⟩) 1 1) = w4 := ⟨_, rfl⟩
  have b5 := hd5.set_ 5 (.slice (some ⟨gd, 0, none⟩) 1 1)
  rw [hw4] at b5
  have b4 : Blk w4 g4 58 #[.int .i64 0, .int .i64 0, .string ⟨#[]⟩, .slice none 0 0, .slice none 0 0, .slice none 0 0, .slice none 0 0] := by rw [← hw4]; exact hd4.of (Below.heap_setCell _ _ _ g4 (by have := GS.out; show g4 ≠ g5; omega))
  have h4 : RAt w4 p (S.fact.2) := by rw [← hw4]; exact h3d.of fun j hj => Below.heap_setCell _ _ _ j (by have := GS.out; have := PG.out j hj; show j ≠ g5; omega)
  have f4 : Fr (RFt p) w w4 := by rw [← hw4]; exact (F3.out.then fd.any).setCell (p := ⟨g5, 5, none⟩) (fun h => absurd h (by have := GS.out; show ¬ g5 < w.heap.size; omega)) _
  have hsame : ∀ j, j ≠ g5 → w4.heap[j]? = wd.heap[j]? := fun j hj => by rw [← hw4]; exact Below.heap_setCell _ _ _ j hj
  have hgd3 : wc.heap.size ≤ gd := by have := S3.out; omega
  have hbd4 : Blk w4 gd 99 #[.slice B1 m1 q1, .slice B2 m2 q2] := hbd.of (hsame gd (by have := GS.out; omega))
  have hsame3 : ∀ j, j < w3.heap.size → j ≠ g5 → w4.heap[j]? = w3.heap[j]? := fun j hj hne => by rw [hsame j hne]; exact fd.block j hj id
  have t4 : ThingAt (fun k => w.heap.size ≤ k ∧ k ≠ g4) w4 (⟨7, 0, [], [], [], [S.fact.1], []⟩) (.slice none 0 0) (.slice none 0 0) (.slice (some ⟨gd, 0, none⟩) 1 1) (.slice none 0 0) := ⟨KB.out, i64_small 0 (by omega), by simp, RowE.nil _ _ _ _ _, RowE.nil _ _ _ _ _, ⟨some ⟨gd, 0, none⟩, 1, rfl, by unfold maxLen; simp, fun _ => ⟨gd, 0, rfl, ⟨by have := GS.out; omega, by have := GS.out; omega⟩, fun j hj => by
      obtain rfl : j = 0 := by simpa using hj
      refine ⟨_, rfl, fun i hi => ?_, ⟨_, _, rfl, (RD.out.of (fun j hj => hsame3 j hj.2 (by have := GS.out; have := hj.1; omega)) fun _ _ h => h).mono (fun k hk => ⟨by have := GS.out; have := hk.1; omega, by have := GS.out; have := hk.1; omega⟩), (RM.out.of (fun j hj => hsame3 j hj.2 (by have := GS.out; have := hj.1; omega)) fun _ _ h => h).mono (fun k hk => ⟨by have := GS.out; have := hk.1; omega, by have := GS.out; have := hk.1; omega⟩)⟩⟩
      have := hbd4.cell i
      simpa using this⟩⟩, RowE.nil _ _ _ _ _⟩
  have HR4 := Lib.hid h4
  have F4 := Lib.hid f4
  have T4 := Lib.hid t4
  have d0 : w4.cell? ⟨g5, 0, none⟩ = some (.int .i64 7) := b5.cell 0
  have d1 : w4.cell? ⟨g5, 1, none⟩ = some (.int .i64 0) := b5.cell 1
  have d2 : w4.cell? ⟨g5, 2, none⟩ = some (.string ⟨#[]⟩) := b5.cell 2
  have d3 : w4.cell? ⟨g5, 3, none⟩ = some (.slice none 0 0) := b5.cell 3
  have d4 : w4.cell? ⟨g5, 4, none⟩ = some (.slice none 0 0) := b5.cell 4
  have d5 : w4.cell? ⟨g5, 5, none⟩ = some (.slice (some ⟨gd, 0, none⟩) 1 1) := b5.cell 5
  have d6 : w4.cell? ⟨g5, 6, none⟩ = some (.slice none 0 0) := b5.cell 6
  have e0 : w4.cell? ⟨g4, 0, none⟩ = some (.int .i64 0) := b4.cell 0
  have e1 : w4.cell? ⟨g4, 1, none⟩ = some (.int .i64 0) := b4.cell 1
  have e2 : w4.cell? ⟨g4, 2, none⟩ = some (.string ⟨#[]⟩) := b4.cell 2
  have e3 : w4.cell? ⟨g4, 3, none⟩ = some (.slice none 0 0) := b4.cell 3
  have e4 : w4.cell? ⟨g4, 4, none⟩ = some (.slice none 0 0) := b4.cell 4
  have e5 : w4.cell? ⟨g4, 5, none⟩ = some (.slice none 0 0) := b4.cell 5
  have e6 : w4.cell? ⟨g4, 6, none⟩ = some (.slice none 0 0) := b4.cell 6
  have y0 := b4.frozen 0
  have y1 := b4.frozen 1
  have y2 := b4.frozen 2
  have y3 := b4.frozen 3
  have y4 := b4.frozen 4
  have y5 := b4.frozen 5
  have y6 := b4.frozen 6
  clear h4 f4 t4 b4 b5 hx4 hx5 f3 h3 h3size hsame hsame3 hbd hbd4 hd5 hd4 h3d fd hgd3 rd rm
  rw [HP.out]
  go_wp2
  refine bodyPost_ret (v := .agg #[.int .i64 7, .int .i64 0, .string ⟨#[]⟩, .slice none 0 0, .slice none 0 0, .slice (some ⟨gd, 0, none⟩) 1 1, .slice none 0 0]) (by simp [results, Try.results25, go_sem, e0, e1, e2, e3, e4, e5, e6]) rfl ?_
  obtain ⟨q1, q2, q3⟩ := take_fin GS.out.1 HR4.out PG.out F4.out T4.out (.int .i64 7) (.int .i64 0) (.string ⟨#[]⟩) (.slice none 0 0) (.slice none 0 0) (.slice (some ⟨gd, 0, none⟩) 1 1) (.slice none 0 0)
  exact ⟨_, _, _, _, rfl, q1, q2, q3⟩
set_option maxRecDepth 100000 in
set_option maxHeartbeats 4000000 in
theorem take_x (p : Option Nat) (S : RS) (k n : Int) (s : List UInt8) (A1 A2 A3 A4 : Option Addr) (n1 k1 n2 k2 n3 k3 n4 k4 : Nat) (hkb : i64 (k)) (w : World) (h : RAt w p S) (hx : k < 0 ∨ 8 < k) :
    Calls Try.prog 25 #[wpt p, .agg #[.int .i64 k, .int .i64 n, sv s, .slice A1 n1 k1, .slice A2 n2 k2, .slice A3 n3 k3, .slice A4 n4 k4]] w (RPt p w (⟨k, 0, [], S.schema.1.1, [], [], S.schema.1.2⟩) (S.schema.2)) := by
  obtain ⟨wa, hwa⟩ : ∃ wa, w.alloc (.cells #[.int .i64 k, .int .i64 n, sv s, .slice A1 n1 k1, .slice A2 n2 k2, .slice A3 n3 k3, .slice A4 n4 k4] 58) = wa := ⟨_, rfl⟩
  obtain ⟨wb, hwb⟩ : ∃ wb, wa.alloc (.cells #[.int .i64 0, .int .i64 0, .string ⟨#[]⟩, .slice none 0 0, .slice none 0 0, .slice none 0 0, .slice none 0 0] 58) = wb := ⟨_, rfl⟩
  obtain ⟨wc, hwc⟩ : ∃ wc, wb.alloc (.cells #[.int .i64 k, .int .i64 0, .string ⟨#[]⟩, .slice none 0 0, .slice none 0 0, .slice none 0 0, .slice none 0 0] 58) = wc := ⟨_, rfl⟩
  obtain ⟨gb, hgb⟩ : ∃ gb, w.heap.size = gb := ⟨_, rfl⟩
  obtain ⟨g4, hg4⟩ : ∃ g4, wa.heap.size = g4 := ⟨_, rfl⟩
  obtain ⟨g5, hg5⟩ : ∃ g5, wb.heap.size = g5 := ⟨_, rfl⟩
  have fa : Fr (RFt p) w wa := by rw [← hwa]; exact (Fr.refl _ w).alloc _
  have fb : Fr No wa wb := by rw [← hwb]; exact (Fr.refl _ wa).alloc _
  have fc : Fr No wb wc := by rw [← hwc]; exact (Fr.refl _ wb).alloc _
  have hb4 : Blk wb g4 58 #[.int .i64 0, .int .i64 0, .string ⟨#[]⟩, .slice none 0 0, .slice none 0 0, .slice none 0 0, .slice none 0 0] := by rw [← hwb, ← hg4]; exact Blk.new wa 58 _
  have hb5 : Blk wc g5 58 #[.int .i64 k, .int .i64 0, .string ⟨#[]⟩, .slice none 0 0, .slice none 0 0, .slice none 0 0, .slice none 0 0] := by rw [← hwc, ← hg5]; exact Blk.new wb 58 _
  have hb4c : Blk wc g4 58 #[.int .i64 0, .int .i64 0, .string ⟨#[]⟩, .slice none 0 0, .slice none 0 0, .slice none 0 0, .slice none 0 0] := hb4.of (fc.block g4 hb4.lt id)
  have fwc : Fr (RFt p) w wc := (fa.then fb.any).then fc.any
  have hrc : RAt wc p S := h.of fun k hk => by
    have hlt := h.lt k hk
    have e1 : wa.heap[k]? = w.heap[k]? := by rw [← hwa]; exact Below.heap_alloc w _ k hlt
    rw [fc.block k (by have := fa.size; have := fb.size; omega) id, fb.block k (by have := fa.size; omega) id, e1]
  have hpg : ∀ k, RFt p k → k < w.heap.size := h.lt
  have hgs : w.heap.size ≤ g4 ∧ g4 < g5 ∧ g5 < wc.heap.size := ⟨by have := fa.size; omega, by have := hb4.lt; omega, hb5.lt⟩
  have HR := Lib.hid hrc
  have H4 := Lib.hid hb4c
  have H5 := Lib.hid hb5
  have FC := Lib.hid fwc
  have PG := Lib.hid hpg
  have GS := Lib.hid hgs
  have KB := Lib.hid hkb
  have HWA := Lib.hid hwa
  have HWB := Lib.hid hwb
  have HWC := Lib.hid hwc
  have HGB := Lib.hid hgb
  have HG4 : Hid (gb + 1 = g4) := Lib.hid (by rw [← hg4, ← hwa, ← hgb]; simp)
  have HG5 : Hid (g4 + 1 = g5) := Lib.hid (by rw [← hg5, ← hwb, ← hg4]; simp)
  have e00 : (k == 0) = false := by rw [beq_eq_false_iff_ne]; omega
  have e10 : (k == 1) = false := by rw [beq_eq_false_iff_ne]; omega
  have e20 : (k == 2) = false := by rw [beq_eq_false_iff_ne]; omega
  have e30 : (k == 3) = false := by rw [beq_eq_false_iff_ne]; omega
  have e40 : (k == 4) = false := by rw [beq_eq_false_iff_ne]; omega
  have e50 : (k == 5) = false := by rw [beq_eq_false_iff_ne]; omega
  have e60 : (k == 6) = false := by rw [beq_eq_false_iff_ne]; omega
  have e70 : (k == 7) = false := by rw [beq_eq_false_iff_ne]; omega
  have e80 : (k == 8) = false := by rw [beq_eq_false_iff_ne]; omega
  clear hx
  clear fa fb fc hb4 hb5 hb4c fwc hrc hpg hgs hwa hwb hwc hgb hg4 hg5 h hkb
  generalize hP : wpt p = P at *
  have HP := Lib.hid hP
  clear hP
  go_enter Try.func25, Try.ntmps25
  go_wp2_with fail
  rw [HWA.out, HWB.out, HWC.out, HGB.out, HG4.out, HG5.out]
  rw [← HP.out]
  refine (rschema_any p S wc HR.out).mono ?_
  rintro e w3 ⟨dv, mv, rfl, h3, f3, rd, rm⟩
  have RD := Lib.hid (rd.bound (by omega))
  have RM := Lib.hid (rm.bound (by omega))
  obtain ⟨B1, m1, q1, rfl⟩ := rd.slice
  obtain ⟨B2, m2, q2, rfl⟩ := rm.slice
  have hx4 := H4.out.of (f3.block g4 H4.out.lt fun e => by have := PG.out g4 e; have := GS.out; omega)
  have hx5 := H5.out.of (f3.block g5 H5.out.lt fun e => by have := PG.out g5 e; have := GS.out; omega)
  have F3 := Lib.hid (FC.out.then f3)
  have h3size := f3.size
  have S3 := Lib.hid h3size
  obtain ⟨wd, hwd⟩ : ∃ wd, w3.alloc (.cells #[.slice B1 m1 q1, .slice B2 m2 q2] 104) = wd := ⟨_, rfl⟩
  obtain ⟨gd, hgd⟩ : ∃ gd, w3.heap.size = gd := ⟨_, rfl⟩
  have fd : Fr No w3 wd := by rw [← hwd]; exact (Fr.refl _ w3).alloc _
  have hbd : Blk wd gd 104 #[.slice B1 m1 q1, .slice B2 m2 q2] := by rw [← hwd, ← hgd]; exact Blk.new w3 104 _
  have hd5 := hx5.of (fd.block g5 hx5.lt id)
  have hd4 := hx4.of (fd.block g4 hx4.lt id)
  have h3d : RAt wd p S.schema.2 := h3.keep fd
  have hgd3 : wc.heap.size ≤ gd := by have := S3.out; omega
  have c3 : wd.cell? ⟨g5, 3, none⟩ = some (.slice none 0 0) := hd5.cell 3
  have z3 := hd5.frozen 3
  have k0 : wd.cell? ⟨gd, 0, none⟩ = some (.slice B1 m1 q1) := hbd.cell 0
  obtain ⟨we, hwe⟩ : ∃ we, wd.setCell ⟨g5, 3, none⟩ (.slice B1 m1 q1) = we := ⟨_, rfl⟩
  have be5 := hd5.set_ 3 (.slice B1 m1 q1)
  rw [hwe] at be5
  have hse : ∀ j, j ≠ g5 → we.heap[j]? = wd.heap[j]? := fun j hj => by rw [← hwe]; exact Below.heap_setCell _ _ _ j hj
  have hbe : Blk we gd 104 #[.slice B1 m1 q1, .slice B2 m2 q2] := hbd.of (hse gd (by have := GS.out; omega))
  have k1 : we.cell? ⟨gd, 1, none⟩ = some (.slice B2 m2 q2) := hbe.cell 1
  have c6 : we.cell? ⟨g5, 6, none⟩ = some (.slice none 0 0) := be5.cell 6
  have z6 := be5.frozen 6
  obtain ⟨w4, hw4⟩ : ∃ w4, we.setCell ⟨g5, 6, none⟩ (.slice B2 m2 q2) = w4 := ⟨_, rfl⟩
  have b5 := be5.set_ 6 (.slice B2 m2 q2)
  rw [hw4] at b5
  have hsame : ∀ j, j ≠ g5 → w4.heap[j]? = wd.heap[j]? := fun j hj => by rw [← hse j hj, ← hw4]; exact Below.heap_setCell _ _ _ j hj
  have b4 : Blk w4 g4 58 #[.int .i64 0, .int .i64 0, .string ⟨#[]⟩, .slice none 0 0, .slice none 0 0, .slice none 0 0, .slice none 0 0] := hd4.of (hsame g4 (by have := GS.out; omega))
  have h4 : RAt w4 p S.schema.2 := h3d.of fun j hj => hsame j (by have := GS.out; have := PG.out j hj; omega)
  have f4 : Fr (RFt p) w w4 := by
    rw [← hw4, ← hwe]
    exact ((F3.out.then fd.any).setCell (p := ⟨g5, 3, none⟩) (fun h => absurd h (by have := GS.out; show ¬ g5 < w.heap.size; omega)) _).setCell (p := ⟨g5, 6, none⟩) (fun h => absurd h (by have := GS.out; show ¬ g5 < w.heap.size; omega)) _
  have hsame3 : ∀ j, j < w3.heap.size → j ≠ g5 → w4.heap[j]? = w3.heap[j]? := fun j hj hne => by rw [hsame j hne]; exact fd.block j hj id
  have t4 : ThingAt (fun k => w.heap.size ≤ k ∧ k ≠ g4) w4 (⟨k, 0, [], S.schema.1.1, [], [], S.schema.1.2⟩) (.slice B1 m1 q1) (.slice none 0 0) (.slice none 0 0) (.slice B2 m2 q2) := ⟨KB.out, i64_small 0 (by omega), by simp, (RD.out.of (fun j hj => hsame3 j hj.2 (by have := GS.out; have := hj.1; omega)) fun _ _ h => h).mono (fun k hk => ⟨by have := GS.out; have := hk.1; omega, by have := GS.out; have := hk.1; omega⟩), RowE.nil _ _ _ _ _, RowE.nil _ _ _ _ _, (RM.out.of (fun j hj => hsame3 j hj.2 (by have := GS.out; have := hj.1; omega)) fun _ _ h => h).mono (fun k hk => ⟨by have := GS.out; have := hk.1; omega, by have := GS.out; have := hk.1; omega⟩)⟩
  have HR4 := Lib.hid h4
  have F4 := Lib.hid f4
  have T4 := Lib.hid t4
  have d0 : w4.cell? ⟨g5, 0, none⟩ = some (.int .i64 k) := b5.cell 0
  have d1 : w4.cell? ⟨g5, 1, none⟩ = some (.int .i64 0) := b5.cell 1
  have d2 : w4.cell? ⟨g5, 2, none⟩ = some (.string ⟨#[]⟩) := b5.cell 2
  have d3 : w4.cell? ⟨g5, 3, none⟩ = some (.slice B1 m1 q1) := b5.cell 3
  have d4 : w4.cell? ⟨g5, 4, none⟩ = some (.slice none 0 0) := b5.cell 4
  have d5 : w4.cell? ⟨g5, 5, none⟩ = some (.slice none 0 0) := b5.cell 5
  have d6 : w4.cell? ⟨g5, 6, none⟩ = some (.slice B2 m2 q2) := b5.cell 6
  have e0 : w4.cell? ⟨g4, 0, none⟩ = some (.int .i64 0) := b4.cell 0
  have e1 : w4.cell? ⟨g4, 1, none⟩ = some (.int .i64 0) := b4.cell 1
  have e2 : w4.cell? ⟨g4, 2, none⟩ = some (.string ⟨#[]⟩) := b4.cell 2
  have e3 : w4.cell? ⟨g4, 3, none⟩ = some (.slice none 0 0) := b4.cell 3
  have e4 : w4.cell? ⟨g4, 4, none⟩ = some (.slice none 0 0) := b4.cell 4
  have e5 : w4.cell? ⟨g4, 5, none⟩ = some (.slice none 0 0) := b4.cell 5
  have e6 : w4.cell? ⟨g4, 6, none⟩ = some (.slice none 0 0) := b4.cell 6
  have y0 := b4.frozen 0
  have y1 := b4.frozen 1
  have y2 := b4.frozen 2
  have y3 := b4.frozen 3
  have y4 := b4.frozen 4
  have y5 := b4.frozen 5
  have y6 := b4.frozen 6
  clear h4 f4 t4 b4 b5 hx4 hx5 f3 h3 h3size hsame hsame3 hbd hd5 hd4 h3d fd hgd3 rd rm hse hbe be5
  rw [HP.out]
  go_wp2
  refine bodyPost_ret (v := .agg #[.int .i64 k, .int .i64 0, .string ⟨#[]⟩, .slice B1 m1 q1, .slice none 0 0, .slice none 0 0, .slice B2 m2 q2]) (by simp [results, Try.results25, go_sem, e0, e1, e2, e3, e4, e5, e6]) rfl ?_
  obtain ⟨q1, q2, q3⟩ := take_fin GS.out.1 HR4.out PG.out F4.out T4.out (.int .i64 k) (.int .i64 0) (.string ⟨#[]⟩) (.slice B1 m1 q1) (.slice none 0 0) (.slice none 0 0) (.slice B2 m2 q2)
  exact ⟨_, _, _, _, rfl, q1, q2, q3⟩

theorem take_any (p : Option Nat) (S : RS) (K : Nat → Prop) (t : ThingP) (lv cv fv mv : Value) (w : World) (h : RAt w p S) (ht : ThingAt K w t lv cv fv mv) :
    Calls Try.prog 25 #[wpt p, .agg (tcells t lv cv fv mv).toArray] w (RPt p w (S.thing t).1 (S.thing t).2) := by
  obtain ⟨A1, n1, k1, rfl⟩ := ht.l.slice
  obtain ⟨A2, n2, k2, rfl⟩ := ht.c.slice
  obtain ⟨A3, n3, k3, rfl⟩ := ht.f.slice
  obtain ⟨A4, n4, k4, rfl⟩ := ht.m.slice
  have hkb := ht.kb
  obtain ⟨k, n, s, l, cl, fl, ml⟩ := t
  by_cases h0 : k = 0
  · subst h0; exact take_0 p S n s A1 A2 A3 A4 n1 k1 n2 k2 n3 k3 n4 k4 hkb w h
  by_cases h1 : k = 1
  · subst h1; exact take_1 p S n s A1 A2 A3 A4 n1 k1 n2 k2 n3 k3 n4 k4 hkb w h
  by_cases h2 : k = 2
  · subst h2; exact take_2 p S n s A1 A2 A3 A4 n1 k1 n2 k2 n3 k3 n4 k4 hkb w h
  by_cases h3 : k = 3
  · subst h3; exact take_3 p S n s A1 A2 A3 A4 n1 k1 n2 k2 n3 k3 n4 k4 hkb w h
  by_cases h4 : k = 4
  · subst h4; exact take_4 p S n s A1 A2 A3 A4 n1 k1 n2 k2 n3 k3 n4 k4 hkb w h
  by_cases h5 : k = 5
  · subst h5; exact take_5 p S n s A1 A2 A3 A4 n1 k1 n2 k2 n3 k3 n4 k4 hkb w h
  by_cases h6 : k = 6
  · subst h6; exact take_6 p S n s A1 A2 A3 A4 n1 k1 n2 k2 n3 k3 n4 k4 hkb w h
  by_cases h7 : k = 7
  · subst h7; exact take_7 p S n s A1 A2 A3 A4 n1 k1 n2 k2 n3 k3 n4 k4 hkb w h
  by_cases h8 : k = 8
  · subst h8; exact take_8 p S n s A1 A2 A3 A4 n1 k1 n2 k2 n3 k3 n4 k4 hkb w h
  have e : S.thing ⟨k, n, s, l, cl, fl, ml⟩ = (⟨k, 0, [], S.schema.1.1, [], [], S.schema.1.2⟩, S.schema.2) := by
    unfold RS.thing
    simp only [h0, h1, h2, h3, h4, h5, h6, h7, h8, if_false]
  rw [e]
  exact take_x p S k n s A1 A2 A3 A4 n1 k1 n2 k2 n3 k3 n4 k4 hkb w h (by omega)
end Go.Proofs.Ytjhjcdfhfjeogaa
