/- take: a thing of a kind, by the document's reader. -/
import Derived.Test.YtjhjcdfhfjeogaaP8
import Derived.Test.YtjhjcdfhfjeogaaF3
namespace Go.Proofs.Ytjhjcdfhfjeogaa
open Go.RowKit Go.Maps
set_option linter.unusedVariables false

theorem DAt.of' {w w' : World} {g : Nat} {S : RS} (h : DAt w g S) (hk : ∀ k, DFt g k → w'.heap[k]? = w.heap[k]?) : DAt w' g S := h.of (hk g rfl)
theorem DAt.lt' {w : World} {g : Nat} {S : RS} (h : DAt w g S) : ∀ k, DFt g k → k < w.heap.size := fun k hk => by have := h.lt; unfold DFt at hk; omega
/-- A call of the document's reader that tells a thing. -/
def DPt (g : Nat) (w : World) (t : ThingP) (S' : RS) (e : Ending) (w' : World) : Prop :=
  ∃ lv cv fv mv, e = .returned (.agg (tcells t lv cv fv mv).toArray) ∧ ThingAt (fun k => w.heap.size ≤ k) w' t lv cv fv mv ∧ DAt w' g S' ∧ Fr (DFt g) w w'
theorem dset7_fr {g0 : Nat} {w0 w : World} (h : Fr (DFt g0) w0 w) (g : Nat) (hg : w0.heap.size ≤ g) (u0 u1 u2 u3 u4 u5 u6 : Value) : Fr (DFt g0) w0 (set7 w g u0 u1 u2 u3 u4 u5 u6) := by
  have hlt : ¬ g < w0.heap.size := by omega
  unfold set7
  exact ((((((h.setCell (p := ⟨g, 0, none⟩) (fun h => absurd h hlt) _).setCell (p := ⟨g, 1, none⟩) (fun h => absurd h hlt) _).setCell (p := ⟨g, 2, none⟩) (fun h => absurd h hlt) _).setCell (p := ⟨g, 3, none⟩) (fun h => absurd h hlt) _).setCell (p := ⟨g, 4, none⟩) (fun h => absurd h hlt) _).setCell (p := ⟨g, 5, none⟩) (fun h => absurd h hlt) _).setCell (p := ⟨g, 6, none⟩) (fun h => absurd h hlt) _
/-- The end of a take: what was made is laid into the result. -/
theorem dtk_fin {g0 : Nat} {w w4 : World} {S' : RS} {t : ThingP} {lv cv fv mv : Value} {g4 : Nat} (hg : w.heap.size ≤ g4) (h : DAt w4 g0 S') (hpg : ∀ k, DFt g0 k → k < w.heap.size) (hf : Fr (DFt g0) w w4) (ht : ThingAt (fun k => w.heap.size ≤ k ∧ k ≠ g4) w4 t lv cv fv mv) (u0 u1 u2 u3 u4 u5 u6 : Value) :
    ThingAt (fun k => w.heap.size ≤ k) (set7 w4 g4 u0 u1 u2 u3 u4 u5 u6) t lv cv fv mv ∧ DAt (set7 w4 g4 u0 u1 u2 u3 u4 u5 u6) g0 S' ∧ Fr (DFt g0) w (set7 w4 g4 u0 u1 u2 u3 u4 u5 u6) := by
  have h2 := ht.of (w' := set7 w4 g4 u0 u1 u2 u3 u4 u5 u6) fun k hk => set7_heap _ _ _ _ _ _ _ _ _ k hk.2
  refine ⟨⟨h2.kb, h2.nb, h2.sb, h2.l.mono fun k hk => hk.1, h2.c.mono fun k hk => hk.1, ?_, h2.m.mono fun k hk => hk.1⟩, h.of' fun k hk => set7_heap _ _ _ _ _ _ _ _ _ k (by have := hpg k hk; omega), dset7_fr hf g4 hg _ _ _ _ _ _ _⟩
  refine (h2.f.mono fun k hk => hk.1).of (fun _ _ => rfl) fun x cs hx => ?_
  obtain ⟨dv, mv, e, h1, h2⟩ := hx
  exact ⟨dv, mv, e, h1.mono fun k hk => hk.1, h2.mono fun k hk => hk.1⟩
set_option maxRecDepth 100000 in
set_option maxHeartbeats 4000000 in
theorem dtk_0 (g : Nat) (S : RS) (n : Int) (s : List UInt8) (A1 A2 A3 A4 : Option Addr) (n1 k1 n2 k2 n3 k3 n4 k4 : Nat) (hkb : i64 (0)) (w : World) (h : DAt w g S) :
    Calls Try.prog 31 #[dpt g, .agg #[.int .i64 0, .int .i64 n, sv s, .slice A1 n1 k1, .slice A2 n2 k2, .slice A3 n3 k3, .slice A4 n4 k4]] w (DPt g w (⟨0, (S.byte.1 : Nat), [], [], [], [], []⟩) (S.byte.2)) := by
  obtain ⟨wa, hwa⟩ : ∃ wa, w.alloc (.cells #[.int .i64 0, .int .i64 n, sv s, .slice A1 n1 k1, .slice A2 n2 k2, .slice A3 n3 k3, .slice A4 n4 k4] 58) = wa := ⟨_, rfl⟩
  obtain ⟨wb, hwb⟩ : ∃ wb, wa.alloc (.cells #[.int .i64 0, .int .i64 0, .string ⟨#[]⟩, .slice none 0 0, .slice none 0 0, .slice none 0 0, .slice none 0 0] 58) = wb := ⟨_, rfl⟩
  obtain ⟨wc, hwc⟩ : ∃ wc, wb.alloc (.cells #[.int .i64 0, .int .i64 0, .string ⟨#[]⟩, .slice none 0 0, .slice none 0 0, .slice none 0 0, .slice none 0 0] 58) = wc := ⟨_, rfl⟩
  obtain ⟨gb, hgb⟩ : ∃ gb, w.heap.size = gb := ⟨_, rfl⟩
  obtain ⟨g4, hg4⟩ : ∃ g4, wa.heap.size = g4 := ⟨_, rfl⟩
  obtain ⟨g5, hg5⟩ : ∃ g5, wb.heap.size = g5 := ⟨_, rfl⟩
  have fa : Fr (DFt g) w wa := by rw [← hwa]; exact (Fr.refl _ w).alloc _
  have fb : Fr No wa wb := by rw [← hwb]; exact (Fr.refl _ wa).alloc _
  have fc : Fr No wb wc := by rw [← hwc]; exact (Fr.refl _ wb).alloc _
  have hb4 : Blk wb g4 58 #[.int .i64 0, .int .i64 0, .string ⟨#[]⟩, .slice none 0 0, .slice none 0 0, .slice none 0 0, .slice none 0 0] := by rw [← hwb, ← hg4]; exact Blk.new wa 58 _
  have hb5 : Blk wc g5 58 #[.int .i64 0, .int .i64 0, .string ⟨#[]⟩, .slice none 0 0, .slice none 0 0, .slice none 0 0, .slice none 0 0] := by rw [← hwc, ← hg5]; exact Blk.new wb 58 _
  have hb4c : Blk wc g4 58 #[.int .i64 0, .int .i64 0, .string ⟨#[]⟩, .slice none 0 0, .slice none 0 0, .slice none 0 0, .slice none 0 0] := hb4.of (fc.block g4 hb4.lt id)
  have fwc : Fr (DFt g) w wc := (fa.then fb.any).then fc.any
  have hrc : DAt wc g S := h.of' fun k hk => by
    have hlt := h.lt' k hk
    have e1 : wa.heap[k]? = w.heap[k]? := by rw [← hwa]; exact Below.heap_alloc w _ k hlt
    rw [fc.block k (by have := fa.size; have := fb.size; omega) id, fb.block k (by have := fa.size; omega) id, e1]
  have hpg : ∀ k, DFt g k → k < w.heap.size := h.lt'
  have hgs : w.heap.size ≤ g4 ∧ g4 < g5 ∧ g5 < wc.heap.size := ⟨by have := fa.size; omega, by have := hb4.lt; omega, hb5.lt⟩
  have HR := Lib.hid hrc
  have H4 := Lib.hid hb4c
  have H5 := Lib.hid hb5
  have FC := Lib.hid fwc
  have PG := Lib.hid hpg
  have GS := Lib.hid hgs
  have KB := Lib.hid hkb
  have HWA := Lib.hid hwa
  have HWB := Lib.hid hwb
  have HWC := Lib.hid hwc
  have HGB := Lib.hid hgb
  have HG4 : Hid (gb + 1 = g4) := Lib.hid (by rw [← hg4, ← hwa, ← hgb]; simp)
  have HG5 : Hid (g4 + 1 = g5) := Lib.hid (by rw [← hg5, ← hwb, ← hg4]; simp)
  have hw64 : wrap64 ((S.byte.1 : Nat) : Int) = ((S.byte.1 : Nat) : Int) := IntWalk.wrap64_in _ (by have := byte_lt S; omega)
  clear fa fb fc hb4 hb5 hb4c fwc hrc hpg hgs hwa hwb hwc hgb hg4 hg5 h hkb
  generalize hP : dpt g = P at *
  have HP := Lib.hid hP
  clear hP
  go_enter Try.func31, Try.ntmps31
  go_wp2_with fail
  rw [HWA.out, HWB.out, HWC.out, HGB.out, HG4.out, HG5.out]
  rw [← HP.out]
  refine (dbyte_any g S wc HR.out).mono ?_
  rintro e w3 ⟨rfl, h3, f3⟩
  have hx4 := H4.out.of (f3.block g4 H4.out.lt fun e => by have := PG.out g4 e; have := GS.out; omega)
  have hx5 := H5.out.of (f3.block g5 H5.out.lt fun e => by have := PG.out g5 e; have := GS.out; omega)
  have F3 := Lib.hid (FC.out.then f3)
  have h3size := f3.size
  have S3 := Lib.hid h3size
  have c3 : w3.cell? ⟨g5, 1, none⟩ = some (.int .i64 0) := hx5.cell 1
  have z3 := hx5.frozen 1
  obtain ⟨w4, hw4⟩ : ∃ w4, w3.setCell ⟨g5, 1, none⟩ (.int .i64 (S.byte.1 : Nat)) = w4 := ⟨_, rfl⟩
  have b5 := hx5.set_ 1 (.int .i64 (S.byte.1 : Nat))
  rw [hw4] at b5
  have b4 : Blk w4 g4 58 #[.int .i64 0, .int .i64 0, .string ⟨#[]⟩, .slice none 0 0, .slice none 0 0, .slice none 0 0, .slice none 0 0] := by rw [← hw4]; exact hx4.of (Below.heap_setCell _ _ _ g4 (by have := GS.out; show g4 ≠ g5; omega))
  have h4 : DAt w4 g (S.byte.2) := by rw [← hw4]; exact h3.of' fun j hj => Below.heap_setCell _ _ _ j (by have := GS.out; have := PG.out j hj; show j ≠ g5; omega)
  have f4 : Fr (DFt g) w w4 := by rw [← hw4]; exact F3.out.setCell (p := ⟨g5, 1, none⟩) (fun h => absurd h (by have := GS.out; show ¬ g5 < w.heap.size; omega)) _
  have hsame : ∀ j, j ≠ g5 → w4.heap[j]? = w3.heap[j]? := fun j hj => by rw [← hw4]; exact Below.heap_setCell _ _ _ j hj
  have t4 : ThingAt (fun k => w.heap.size ≤ k ∧ k ≠ g4) w4 (⟨0, (S.byte.1 : Nat), [], [], [], [], []⟩) (.slice none 0 0) (.slice none 0 0) (.slice none 0 0) (.slice none 0 0) := nil_thing _ _ _ _ _ KB.out (i64_small _ (by have := byte_lt S; omega)) (by simp)
  have HR4 := Lib.hid h4
  have F4 := Lib.hid f4
  have T4 := Lib.hid t4
  have d0 : w4.cell? ⟨g5, 0, none⟩ = some (.int .i64 0) := b5.cell 0
  have d1 : w4.cell? ⟨g5, 1, none⟩ = some (.int .i64 (S.byte.1 : Nat)) := b5.cell 1
  have d2 : w4.cell? ⟨g5, 2, none⟩ = some (.string ⟨#[]⟩) := b5.cell 2
  have d3 : w4.cell? ⟨g5, 3, none⟩ = some (.slice none 0 0) := b5.cell 3
  have d4 : w4.cell? ⟨g5, 4, none⟩ = some (.slice none 0 0) := b5.cell 4
  have d5 : w4.cell? ⟨g5, 5, none⟩ = some (.slice none 0 0) := b5.cell 5
  have d6 : w4.cell? ⟨g5, 6, none⟩ = some (.slice none 0 0) := b5.cell 6
  have e0 : w4.cell? ⟨g4, 0, none⟩ = some (.int .i64 0) := b4.cell 0
  have e1 : w4.cell? ⟨g4, 1, none⟩ = some (.int .i64 0) := b4.cell 1
  have e2 : w4.cell? ⟨g4, 2, none⟩ = some (.string ⟨#[]⟩) := b4.cell 2
  have e3 : w4.cell? ⟨g4, 3, none⟩ = some (.slice none 0 0) := b4.cell 3
  have e4 : w4.cell? ⟨g4, 4, none⟩ = some (.slice none 0 0) := b4.cell 4
  have e5 : w4.cell? ⟨g4, 5, none⟩ = some (.slice none 0 0) := b4.cell 5
  have e6 : w4.cell? ⟨g4, 6, none⟩ = some (.slice none 0 0) := b4.cell 6
  have y0 := b4.frozen 0
  have y1 := b4.frozen 1
  have y2 := b4.frozen 2
  have y3 := b4.frozen 3
  have y4 := b4.frozen 4
  have y5 := b4.frozen 5
  have y6 := b4.frozen 6
  clear h4 f4 t4 b4 b5 hx4 hx5 f3 h3 h3size hsame
  rw [HP.out]
  go_wp2
  refine bodyPost_ret (v := .agg #[.int .i64 0, .int .i64 (S.byte.1 : Nat), .string ⟨#[]⟩, .slice none 0 0, .slice none 0 0, .slice none 0 0, .slice none 0 0]) (by simp [results, Try.results31, go_sem, e0, e1, e2, e3, e4, e5, e6]) rfl ?_
  obtain ⟨q1, q2, q3⟩ := dtk_fin GS.out.1 HR4.out PG.out F4.out T4.out (.int .i64 0) (.int .i64 (S.byte.1 : Nat)) (.string ⟨#[]⟩) (.slice none 0 0) (.slice none 0 0) (.slice none 0 0) (.slice none 0 0)
  exact ⟨_, _, _, _, rfl, q1, q2, q3⟩
set_option maxRecDepth 100000 in
set_option maxHeartbeats 4000000 in
theorem dtk_1 (g : Nat) (S : RS) (n : Int) (s : List UInt8) (A1 A2 A3 A4 : Option Addr) (n1 k1 n2 k2 n3 k3 n4 k4 : Nat) (hkb : i64 (1)) (w : World) (h : DAt w g S) :
    Calls Try.prog 31 #[dpt g, .agg #[.int .i64 1, .int .i64 n, sv s, .slice A1 n1 k1, .slice A2 n2 k2, .slice A3 n3 k3, .slice A4 n4 k4]] w (DPt g w (⟨1, S.int.1, [], [], [], [], []⟩) (S.int.2)) := by
  obtain ⟨wa, hwa⟩ : ∃ wa, w.alloc (.cells #[.int .i64 1, .int .i64 n, sv s, .slice A1 n1 k1, .slice A2 n2 k2, .slice A3 n3 k3, .slice A4 n4 k4] 58) = wa := ⟨_, rfl⟩
  obtain ⟨wb, hwb⟩ : ∃ wb, wa.alloc (.cells #[.int .i64 0, .int .i64 0, .string ⟨#[]⟩, .slice none 0 0, .slice none 0 0, .slice none 0 0, .slice none 0 0] 58) = wb := ⟨_, rfl⟩
  obtain ⟨wc, hwc⟩ : ∃ wc, wb.alloc (.cells #[.int .i64 1, .int .i64 0, .string ⟨#[]⟩, .slice none 0 0, .slice none 0 0, .slice none 0 0, .slice none 0 0] 58) = wc := ⟨_, rfl⟩
  obtain ⟨gb, hgb⟩ : ∃ gb, w.heap.size = gb := ⟨_, rfl⟩
  obtain ⟨g4, hg4⟩ : ∃ g4, wa.heap.size = g4 := ⟨_, rfl⟩
  obtain ⟨g5, hg5⟩ : ∃ g5, wb.heap.size = g5 := ⟨_, rfl⟩
  have fa : Fr (DFt g) w wa := by rw [← hwa]; exact (Fr.refl _ w).alloc _
  have fb : Fr No wa wb := by rw [← hwb]; exact (Fr.refl _ wa).alloc _
  have fc : Fr No wb wc := by rw [← hwc]; exact (Fr.refl _ wb).alloc _
  have hb4 : Blk wb g4 58 #[.int .i64 0, .int .i64 0, .string ⟨#[]⟩, .slice none 0 0, .slice none 0 0, .slice none 0 0, .slice none 0 0] := by rw [← hwb, ← hg4]; exact Blk.new wa 58 _
  have hb5 : Blk wc g5 58 #[.int .i64 1, .int .i64 0, .string ⟨#[]⟩, .slice none 0 0, .slice none 0 0, .slice none 0 0, .slice none 0 0] := by rw [← hwc, ← hg5]; exact Blk.new wb 58 _
  have hb4c : Blk wc g4 58 #[.int .i64 0, .int .i64 0, .string ⟨#[]⟩, .slice none 0 0, .slice none 0 0, .slice none 0 0, .slice none 0 0] := hb4.of (fc.block g4 hb4.lt id)
  have fwc : Fr (DFt g) w wc := (fa.then fb.any).then fc.any
  have hrc : DAt wc g S := h.of' fun k hk => by
    have hlt := h.lt' k hk
    have e1 : wa.heap[k]? = w.heap[k]? := by rw [← hwa]; exact Below.heap_alloc w _ k hlt
    rw [fc.block k (by have := fa.size; have := fb.size; omega) id, fb.block k (by have := fa.size; omega) id, e1]
  have hpg : ∀ k, DFt g k → k < w.heap.size := h.lt'
  have hgs : w.heap.size ≤ g4 ∧ g4 < g5 ∧ g5 < wc.heap.size := ⟨by have := fa.size; omega, by have := hb4.lt; omega, hb5.lt⟩
  have HR := Lib.hid hrc
  have H4 := Lib.hid hb4c
  have H5 := Lib.hid hb5
  have FC := Lib.hid fwc
  have PG := Lib.hid hpg
  have GS := Lib.hid hgs
  have KB := Lib.hid hkb
  have HWA := Lib.hid hwa
  have HWB := Lib.hid hwb
  have HWC := Lib.hid hwc
  have HGB := Lib.hid hgb
  have HG4 : Hid (gb + 1 = g4) := Lib.hid (by rw [← hg4, ← hwa, ← hgb]; simp)
  have HG5 : Hid (g4 + 1 = g5) := Lib.hid (by rw [← hg5, ← hwb, ← hg4]; simp)
  clear fa fb fc hb4 hb5 hb4c fwc hrc hpg hgs hwa hwb hwc hgb hg4 hg5 h hkb
  generalize hP : dpt g = P at *
  have HP := Lib.hid hP
  clear hP
  go_enter Try.func31, Try.ntmps31
  go_wp2_with fail
  rw [HWA.out, HWB.out, HWC.out, HGB.out, HG4.out, HG5.out]
  rw [← HP.out]
  refine (dint_any g S wc HR.out).mono ?_
  rintro e w3 ⟨rfl, h3, f3⟩
  have hx4 := H4.out.of (f3.block g4 H4.out.lt fun e => by have := PG.out g4 e; have := GS.out; omega)
  have hx5 := H5.out.of (f3.block g5 H5.out.lt fun e => by have := PG.out g5 e; have := GS.out; omega)
  have F3 := Lib.hid (FC.out.then f3)
  have h3size := f3.size
  have S3 := Lib.hid h3size
  have c3 : w3.cell? ⟨g5, 1, none⟩ = some (.int .i64 0) := hx5.cell 1
  have z3 := hx5.frozen 1
  obtain ⟨w4, hw4⟩ : ∃ w4, w3.setCell ⟨g5, 1, none⟩ (.int .i64 S.int.1) = w4 := ⟨_, rfl⟩
  have b5 := hx5.set_ 1 (.int .i64 S.int.1)
  rw [hw4] at b5
  have b4 : Blk w4 g4 58 #[.int .i64 0, .int .i64 0, .string ⟨#[]⟩, .slice none 0 0, .slice none 0 0, .slice none 0 0, .slice none 0 0] := by rw [← hw4]; exact hx4.of (Below.heap_setCell _ _ _ g4 (by have := GS.out; show g4 ≠ g5; omega))
  have h4 : DAt w4 g (S.int.2) := by rw [← hw4]; exact h3.of' fun j hj => Below.heap_setCell _ _ _ j (by have := GS.out; have := PG.out j hj; show j ≠ g5; omega)
  have f4 : Fr (DFt g) w w4 := by rw [← hw4]; exact F3.out.setCell (p := ⟨g5, 1, none⟩) (fun h => absurd h (by have := GS.out; show ¬ g5 < w.heap.size; omega)) _
  have hsame : ∀ j, j ≠ g5 → w4.heap[j]? = w3.heap[j]? := fun j hj => by rw [← hw4]; exact Below.heap_setCell _ _ _ j hj
  have t4 : ThingAt (fun k => w.heap.size ≤ k ∧ k ≠ g4) w4 (⟨1, S.int.1, [], [], [], [], []⟩) (.slice none 0 0) (.slice none 0 0) (.slice none 0 0) (.slice none 0 0) := nil_thing _ _ _ _ _ KB.out (int_bd S) (by simp)
  have HR4 := Lib.hid h4
  have F4 := Lib.hid f4
  have T4 := Lib.hid t4
  have d0 : w4.cell? ⟨g5, 0, none⟩ = some (.int .i64 1) := b5.cell 0
  have d1 : w4.cell? ⟨g5, 1, none⟩ = some (.int .i64 S.int.1) := b5.cell 1
  have d2 : w4.cell? ⟨g5, 2, none⟩ = some (.string ⟨#[]⟩) := b5.cell 2
  have d3 : w4.cell? ⟨g5, 3, none⟩ = some (.slice none 0 0) := b5.cell 3
  have d4 : w4.cell? ⟨g5, 4, none⟩ = some (.slice none 0 0) := b5.cell 4
  have d5 : w4.cell? ⟨g5, 5, none⟩ = some (.slice none 0 0) := b5.cell 5
  have d6 : w4.cell? ⟨g5, 6, none⟩ = some (.slice none 0 0) := b5.cell 6
  have e0 : w4.cell? ⟨g4, 0, none⟩ = some (.int .i64 0) := b4.cell 0
  have e1 : w4.cell? ⟨g4, 1, none⟩ = some (.int .i64 0) := b4.cell 1
  have e2 : w4.cell? ⟨g4, 2, none⟩ = some (.string ⟨#[]⟩) := b4.cell 2
  have e3 : w4.cell? ⟨g4, 3, none⟩ = some (.slice none 0 0) := b4.cell 3
  have e4 : w4.cell? ⟨g4, 4, none⟩ = some (.slice none 0 0) := b4.cell 4
  have e5 : w4.cell? ⟨g4, 5, none⟩ = some (.slice none 0 0) := b4.cell 5
  have e6 : w4.cell? ⟨g4, 6, none⟩ = some (.slice none 0 0) := b4.cell 6
  have y0 := b4.frozen 0
  have y1 := b4.frozen 1
  have y2 := b4.frozen 2
  have y3 := b4.frozen 3
  have y4 := b4.frozen 4
  have y5 := b4.frozen 5
  have y6 := b4.frozen 6
  clear h4 f4 t4 b4 b5 hx4 hx5 f3 h3 h3size hsame
  rw [HP.out]
  go_wp2
  refine bodyPost_ret (v := .agg #[.int .i64 1, .int .i64 S.int.1, .string ⟨#[]⟩, .slice none 0 0, .slice none 0 0, .slice none 0 0, .slice none 0 0]) (by simp [results, Try.results31, go_sem, e0, e1, e2, e3, e4, e5, e6]) rfl ?_
  obtain ⟨q1, q2, q3⟩ := dtk_fin GS.out.1 HR4.out PG.out F4.out T4.out (.int .i64 1) (.int .i64 S.int.1) (.string ⟨#[]⟩) (.slice none 0 0) (.slice none 0 0) (.slice none 0 0) (.slice none 0 0)
  exact ⟨_, _, _, _, rfl, q1, q2, q3⟩
set_option maxRecDepth 100000 in
set_option maxHeartbeats 4000000 in
theorem dtk_2 (g : Nat) (S : RS) (n : Int) (s : List UInt8) (A1 A2 A3 A4 : Option Addr) (n1 k1 n2 k2 n3 k3 n4 k4 : Nat) (hkb : i64 (2)) (w : World) (h : DAt w g S) :
    Calls Try.prog 31 #[dpt g, .agg #[.int .i64 2, .int .i64 n, sv s, .slice A1 n1 k1, .slice A2 n2 k2, .slice A3 n3 k3, .slice A4 n4 k4]] w (DPt g w (⟨2, ((S.count n).1 : Nat), [], [], [], [], []⟩) ((S.count n).2)) := by
  obtain ⟨wa, hwa⟩ : ∃ wa, w.alloc (.cells #[.int .i64 2, .int .i64 n, sv s, .slice A1 n1 k1, .slice A2 n2 k2, .slice A3 n3 k3, .slice A4 n4 k4] 58) = wa := ⟨_, rfl⟩
  obtain ⟨wb, hwb⟩ : ∃ wb, wa.alloc (.cells #[.int .i64 0, .int .i64 0, .string ⟨#[]⟩, .slice none 0 0, .slice none 0 0, .slice none 0 0, .slice none 0 0] 58) = wb := ⟨_, rfl⟩
  obtain ⟨wc, hwc⟩ : ∃ wc, wb.alloc (.cells #[.int .i64 2, .int .i64 0, .string ⟨#[]⟩, .slice none 0 0, .slice none 0 0, .slice none 0 0, .slice none 0 0] 58) = wc := ⟨_, rfl⟩
  obtain ⟨gb, hgb⟩ : ∃ gb, w.heap.size = gb := ⟨_, rfl⟩
  obtain ⟨g4, hg4⟩ : ∃ g4, wa.heap.size = g4 := ⟨_, rfl⟩
  obtain ⟨g5, hg5⟩ : ∃ g5, wb.heap.size = g5 := ⟨_, rfl⟩
  have fa : Fr (DFt g) w wa := by rw [← hwa]; exact (Fr.refl _ w).alloc _
  have fb : Fr No wa wb := by rw [← hwb]; exact (Fr.refl _ wa).alloc _
  have fc : Fr No wb wc := by rw [← hwc]; exact (Fr.refl _ wb).alloc _
  have hb4 : Blk wb g4 58 #[.int .i64 0, .int .i64 0, .string ⟨#[]⟩, .slice none 0 0, .slice none 0 0, .slice none 0 0, .slice none 0 0] := by rw [← hwb, ← hg4]; exact Blk.new wa 58 _
  have hb5 : Blk wc g5 58 #[.int .i64 2, .int .i64 0, .string ⟨#[]⟩, .slice none 0 0, .slice none 0 0, .slice none 0 0, .slice none 0 0] := by rw [← hwc, ← hg5]; exact Blk.new wb 58 _
  have hb4c : Blk wc g4 58 #[.int .i64 0, .int .i64 0, .string ⟨#[]⟩, .slice none 0 0, .slice none 0 0, .slice none 0 0, .slice none 0 0] := hb4.of (fc.block g4 hb4.lt id)
  have fwc : Fr (DFt g) w wc := (fa.then fb.any).then fc.any
  have hrc : DAt wc g S := h.of' fun k hk => by
    have hlt := h.lt' k hk
    have e1 : wa.heap[k]? = w.heap[k]? := by rw [← hwa]; exact Below.heap_alloc w _ k hlt
    rw [fc.block k (by have := fa.size; have := fb.size; omega) id, fb.block k (by have := fa.size; omega) id, e1]
  have hpg : ∀ k, DFt g k → k < w.heap.size := h.lt'
  have hgs : w.heap.size ≤ g4 ∧ g4 < g5 ∧ g5 < wc.heap.size := ⟨by have := fa.size; omega, by have := hb4.lt; omega, hb5.lt⟩
  have HR := Lib.hid hrc
  have H4 := Lib.hid hb4c
  have H5 := Lib.hid hb5
  have FC := Lib.hid fwc
  have PG := Lib.hid hpg
  have GS := Lib.hid hgs
  have KB := Lib.hid hkb
  have HWA := Lib.hid hwa
  have HWB := Lib.hid hwb
  have HWC := Lib.hid hwc
  have HGB := Lib.hid hgb
  have HG4 : Hid (gb + 1 = g4) := Lib.hid (by rw [← hg4, ← hwa, ← hgb]; simp)
  have HG5 : Hid (g4 + 1 = g5) := Lib.hid (by rw [← hg5, ← hwb, ← hg4]; simp)
  have hw64 : wrap64 (((S.count n).1 : Nat) : Int) = (((S.count n).1 : Nat) : Int) := IntWalk.wrap64_in _ (count_bd S n)
  clear fa fb fc hb4 hb5 hb4c fwc hrc hpg hgs hwa hwb hwc hgb hg4 hg5 h hkb
  generalize hP : dpt g = P at *
  have HP := Lib.hid hP
  clear hP
  go_enter Try.func31, Try.ntmps31
  go_wp2_with fail
  rw [HWA.out, HWB.out, HWC.out, HGB.out, HG4.out, HG5.out]
  rw [← HP.out]
  refine (dcnt_any g S n wc HR.out).mono ?_
  rintro e w3 ⟨rfl, h3, f3⟩
  have hx4 := H4.out.of (f3.block g4 H4.out.lt fun e => by have := PG.out g4 e; have := GS.out; omega)
  have hx5 := H5.out.of (f3.block g5 H5.out.lt fun e => by have := PG.out g5 e; have := GS.out; omega)
  have F3 := Lib.hid (FC.out.then f3)
  have h3size := f3.size
  have S3 := Lib.hid h3size
  have c3 : w3.cell? ⟨g5, 1, none⟩ = some (.int .i64 0) := hx5.cell 1
  have z3 := hx5.frozen 1
  obtain ⟨w4, hw4⟩ : ∃ w4, w3.setCell ⟨g5, 1, none⟩ (.int .i64 ((S.count n).1 : Nat)) = w4 := ⟨_, rfl⟩
  have b5 := hx5.set_ 1 (.int .i64 ((S.count n).1 : Nat))
  rw [hw4] at b5
  have b4 : Blk w4 g4 58 #[.int .i64 0, .int .i64 0, .string ⟨#[]⟩, .slice none 0 0, .slice none 0 0, .slice none 0 0, .slice none 0 0] := by rw [← hw4]; exact hx4.of (Below.heap_setCell _ _ _ g4 (by have := GS.out; show g4 ≠ g5; omega))
  have h4 : DAt w4 g ((S.count n).2) := by rw [← hw4]; exact h3.of' fun j hj => Below.heap_setCell _ _ _ j (by have := GS.out; have := PG.out j hj; show j ≠ g5; omega)
  have f4 : Fr (DFt g) w w4 := by rw [← hw4]; exact F3.out.setCell (p := ⟨g5, 1, none⟩) (fun h => absurd h (by have := GS.out; show ¬ g5 < w.heap.size; omega)) _
  have hsame : ∀ j, j ≠ g5 → w4.heap[j]? = w3.heap[j]? := fun j hj => by rw [← hw4]; exact Below.heap_setCell _ _ _ j hj
  have t4 : ThingAt (fun k => w.heap.size ≤ k ∧ k ≠ g4) w4 (⟨2, ((S.count n).1 : Nat), [], [], [], [], []⟩) (.slice none 0 0) (.slice none 0 0) (.slice none 0 0) (.slice none 0 0) := nil_thing _ _ _ _ _ KB.out (count_bd S n) (by simp)
  have HR4 := Lib.hid h4
  have F4 := Lib.hid f4
  have T4 := Lib.hid t4
  have d0 : w4.cell? ⟨g5, 0, none⟩ = some (.int .i64 2) := b5.cell 0
  have d1 : w4.cell? ⟨g5, 1, none⟩ = some (.int .i64 ((S.count n).1 : Nat)) := b5.cell 1
  have d2 : w4.cell? ⟨g5, 2, none⟩ = some (.string ⟨#[]⟩) := b5.cell 2
  have d3 : w4.cell? ⟨g5, 3, none⟩ = some (.slice none 0 0) := b5.cell 3
  have d4 : w4.cell? ⟨g5, 4, none⟩ = some (.slice none 0 0) := b5.cell 4
  have d5 : w4.cell? ⟨g5, 5, none⟩ = some (.slice none 0 0) := b5.cell 5
  have d6 : w4.cell? ⟨g5, 6, none⟩ = some (.slice none 0 0) := b5.cell 6
  have e0 : w4.cell? ⟨g4, 0, none⟩ = some (.int .i64 0) := b4.cell 0
  have e1 : w4.cell? ⟨g4, 1, none⟩ = some (.int .i64 0) := b4.cell 1
  have e2 : w4.cell? ⟨g4, 2, none⟩ = some (.string ⟨#[]⟩) := b4.cell 2
  have e3 : w4.cell? ⟨g4, 3, none⟩ = some (.slice none 0 0) := b4.cell 3
  have e4 : w4.cell? ⟨g4, 4, none⟩ = some (.slice none 0 0) := b4.cell 4
  have e5 : w4.cell? ⟨g4, 5, none⟩ = some (.slice none 0 0) := b4.cell 5
  have e6 : w4.cell? ⟨g4, 6, none⟩ = some (.slice none 0 0) := b4.cell 6
  have y0 := b4.frozen 0
  have y1 := b4.frozen 1
  have y2 := b4.frozen 2
  have y3 := b4.frozen 3
  have y4 := b4.frozen 4
  have y5 := b4.frozen 5
  have y6 := b4.frozen 6
  clear h4 f4 t4 b4 b5 hx4 hx5 f3 h3 h3size hsame
  rw [HP.out]
  go_wp2
  refine bodyPost_ret (v := .agg #[.int .i64 2, .int .i64 ((S.count n).1 : Nat), .string ⟨#[]⟩, .slice none 0 0, .slice none 0 0, .slice none 0 0, .slice none 0 0]) (by simp [results, Try.results31, go_sem, e0, e1, e2, e3, e4, e5, e6]) rfl ?_
  obtain ⟨q1, q2, q3⟩ := dtk_fin GS.out.1 HR4.out PG.out F4.out T4.out (.int .i64 2) (.int .i64 ((S.count n).1 : Nat)) (.string ⟨#[]⟩) (.slice none 0 0) (.slice none 0 0) (.slice none 0 0) (.slice none 0 0)
  exact ⟨_, _, _, _, rfl, q1, q2, q3⟩
set_option maxRecDepth 100000 in
set_option maxHeartbeats 4000000 in
theorem dtk_3 (g : Nat) (S : RS) (n : Int) (s : List UInt8) (A1 A2 A3 A4 : Option Addr) (n1 k1 n2 k2 n3 k3 n4 k4 : Nat) (hkb : i64 (3)) (w : World) (h : DAt w g S) :
    Calls Try.prog 31 #[dpt g, .agg #[.int .i64 3, .int .i64 n, sv s, .slice A1 n1 k1, .slice A2 n2 k2, .slice A3 n3 k3, .slice A4 n4 k4]] w (DPt g w (⟨3, 0, S.text.1, [], [], [], []⟩) (S.text.2)) := by
  obtain ⟨wa, hwa⟩ : ∃ wa, w.alloc (.cells #[.int .i64 3, .int .i64 n, sv s, .slice A1 n1 k1, .slice A2 n2 k2, .slice A3 n3 k3, .slice A4 n4 k4] 58) = wa := ⟨_, rfl⟩
  obtain ⟨wb, hwb⟩ : ∃ wb, wa.alloc (.cells #[.int .i64 0, .int .i64 0, .string ⟨#[]⟩, .slice none 0 0, .slice none 0 0, .slice none 0 0, .slice none 0 0] 58) = wb := ⟨_, rfl⟩
  obtain ⟨wc, hwc⟩ : ∃ wc, wb.alloc (.cells #[.int .i64 3, .int .i64 0, .string ⟨#[]⟩, .slice none 0 0, .slice none 0 0, .slice none 0 0, .slice none 0 0] 58) = wc := ⟨_, rfl⟩
  obtain ⟨gb, hgb⟩ : ∃ gb, w.heap.size = gb := ⟨_, rfl⟩
  obtain ⟨g4, hg4⟩ : ∃ g4, wa.heap.size = g4 := ⟨_, rfl⟩
  obtain ⟨g5, hg5⟩ : ∃ g5, wb.heap.size = g5 := ⟨_, rfl⟩
  have fa : Fr (DFt g) w wa := by rw [← hwa]; exact (Fr.refl _ w).alloc _
  have fb : Fr No wa wb := by rw [← hwb]; exact (Fr.refl _ wa).alloc _
  have fc : Fr No wb wc := by rw [← hwc]; exact (Fr.refl _ wb).alloc _
  have hb4 : Blk wb g4 58 #[.int .i64 0, .int .i64 0, .string ⟨#[]⟩, .slice none 0 0, .slice none 0 0, .slice none 0 0, .slice none 0 0] := by rw [← hwb, ← hg4]; exact Blk.new wa 58 _
  have hb5 : Blk wc g5 58 #[.int .i64 3, .int .i64 0, .string ⟨#[]⟩, .slice none 0 0, .slice none 0 0, .slice none 0 0, .slice none 0 0] := by rw [← hwc, ← hg5]; exact Blk.new wb 58 _
  have hb4c : Blk wc g4 58 #[.int .i64 0, .int .i64 0, .string ⟨#[]⟩, .slice none 0 0, .slice none 0 0, .slice none 0 0, .slice none 0 0] := hb4.of (fc.block g4 hb4.lt id)
  have fwc : Fr (DFt g) w wc := (fa.then fb.any).then fc.any
  have hrc : DAt wc g S := h.of' fun k hk => by
    have hlt := h.lt' k hk
    have e1 : wa.heap[k]? = w.heap[k]? := by rw [← hwa]; exact Below.heap_alloc w _ k hlt
    rw [fc.block k (by have := fa.size; have := fb.size; omega) id, fb.block k (by have := fa.size; omega) id, e1]
  have hpg : ∀ k, DFt g k → k < w.heap.size := h.lt'
  have hgs : w.heap.size ≤ g4 ∧ g4 < g5 ∧ g5 < wc.heap.size := ⟨by have := fa.size; omega, by have := hb4.lt; omega, hb5.lt⟩
  have HR := Lib.hid hrc
  have H4 := Lib.hid hb4c
  have H5 := Lib.hid hb5
  have FC := Lib.hid fwc
  have PG := Lib.hid hpg
  have GS := Lib.hid hgs
  have KB := Lib.hid hkb
  have HWA := Lib.hid hwa
  have HWB := Lib.hid hwb
  have HWC := Lib.hid hwc
  have HGB := Lib.hid hgb
  have HG4 : Hid (gb + 1 = g4) := Lib.hid (by rw [← hg4, ← hwa, ← hgb]; simp)
  have HG5 : Hid (g4 + 1 = g5) := Lib.hid (by rw [← hg5, ← hwb, ← hg4]; simp)
  clear fa fb fc hb4 hb5 hb4c fwc hrc hpg hgs hwa hwb hwc hgb hg4 hg5 h hkb
  generalize hP : dpt g = P at *
  have HP := Lib.hid hP
  clear hP
  go_enter Try.func31, Try.ntmps31
  go_wp2_with fail
  rw [HWA.out, HWB.out, HWC.out, HGB.out, HG4.out, HG5.out]
  rw [← HP.out]
  refine (dtext_r g S wc HR.out).mono ?_
  rintro e w3 ⟨rfl, h3, f3⟩
  have hx4 := H4.out.of (f3.block g4 H4.out.lt fun e => by have := PG.out g4 e; have := GS.out; omega)
  have hx5 := H5.out.of (f3.block g5 H5.out.lt fun e => by have := PG.out g5 e; have := GS.out; omega)
  have F3 := Lib.hid (FC.out.then f3)
  have h3size := f3.size
  have S3 := Lib.hid h3size
  have c3 : w3.cell? ⟨g5, 2, none⟩ = some (.string ⟨#[]⟩) := hx5.cell 2
  have z3 := hx5.frozen 2
  obtain ⟨w4, hw4⟩ : ∃ w4, w3.setCell ⟨g5, 2, none⟩ (sv S.text.1) = w4 := ⟨_, rfl⟩
  have b5 := hx5.set_ 2 (sv S.text.1)
  rw [hw4] at b5
  have b4 : Blk w4 g4 58 #[.int .i64 0, .int .i64 0, .string ⟨#[]⟩, .slice none 0 0, .slice none 0 0, .slice none 0 0, .slice none 0 0] := by rw [← hw4]; exact hx4.of (Below.heap_setCell _ _ _ g4 (by have := GS.out; show g4 ≠ g5; omega))
  have h4 : DAt w4 g (S.text.2) := by rw [← hw4]; exact h3.of' fun j hj => Below.heap_setCell _ _ _ j (by have := GS.out; have := PG.out j hj; show j ≠ g5; omega)
  have f4 : Fr (DFt g) w w4 := by rw [← hw4]; exact F3.out.setCell (p := ⟨g5, 2, none⟩) (fun h => absurd h (by have := GS.out; show ¬ g5 < w.heap.size; omega)) _
  have hsame : ∀ j, j ≠ g5 → w4.heap[j]? = w3.heap[j]? := fun j hj => by rw [← hw4]; exact Below.heap_setCell _ _ _ j hj
  have t4 : ThingAt (fun k => w.heap.size ≤ k ∧ k ≠ g4) w4 (⟨3, 0, S.text.1, [], [], [], []⟩) (.slice none 0 0) (.slice none 0 0) (.slice none 0 0) (.slice none 0 0) := nil_thing _ _ _ _ _ KB.out (i64_small 0 (by omega)) (by have := text_le S; have := HR.out.len; unfold maxLen; omega)
  have HR4 := Lib.hid h4
  have F4 := Lib.hid f4
  have T4 := Lib.hid t4
  have d0 : w4.cell? ⟨g5, 0, none⟩ = some (.int .i64 3) := b5.cell 0
  have d1 : w4.cell? ⟨g5, 1, none⟩ = some (.int .i64 0) := b5.cell 1
  have d2 : w4.cell? ⟨g5, 2, none⟩ = some (sv S.text.1) := b5.cell 2
  have d3 : w4.cell? ⟨g5, 3, none⟩ = some (.slice none 0 0) := b5.cell 3
  have d4 : w4.cell? ⟨g5, 4, none⟩ = some (.slice none 0 0) := b5.cell 4
  have d5 : w4.cell? ⟨g5, 5, none⟩ = some (.slice none 0 0) := b5.cell 5
  have d6 : w4.cell? ⟨g5, 6, none⟩ = some (.slice none 0 0) := b5.cell 6
  have e0 : w4.cell? ⟨g4, 0, none⟩ = some (.int .i64 0) := b4.cell 0
  have e1 : w4.cell? ⟨g4, 1, none⟩ = some (.int .i64 0) := b4.cell 1
  have e2 : w4.cell? ⟨g4, 2, none⟩ = some (.string ⟨#[]⟩) := b4.cell 2
  have e3 : w4.cell? ⟨g4, 3, none⟩ = some (.slice none 0 0) := b4.cell 3
  have e4 : w4.cell? ⟨g4, 4, none⟩ = some (.slice none 0 0) := b4.cell 4
  have e5 : w4.cell? ⟨g4, 5, none⟩ = some (.slice none 0 0) := b4.cell 5
  have e6 : w4.cell? ⟨g4, 6, none⟩ = some (.slice none 0 0) := b4.cell 6
  have y0 := b4.frozen 0
  have y1 := b4.frozen 1
  have y2 := b4.frozen 2
  have y3 := b4.frozen 3
  have y4 := b4.frozen 4
  have y5 := b4.frozen 5
  have y6 := b4.frozen 6
  clear h4 f4 t4 b4 b5 hx4 hx5 f3 h3 h3size hsame
  rw [HP.out]
  go_wp2
  refine bodyPost_ret (v := .agg #[.int .i64 3, .int .i64 0, sv S.text.1, .slice none 0 0, .slice none 0 0, .slice none 0 0, .slice none 0 0]) (by simp [results, Try.results31, go_sem, e0, e1, e2, e3, e4, e5, e6]) rfl ?_
  obtain ⟨q1, q2, q3⟩ := dtk_fin GS.out.1 HR4.out PG.out F4.out T4.out (.int .i64 3) (.int .i64 0) (sv S.text.1) (.slice none 0 0) (.slice none 0 0) (.slice none 0 0) (.slice none 0 0)
  exact ⟨_, _, _, _, rfl, q1, q2, q3⟩
set_option maxRecDepth 100000 in
set_option maxHeartbeats 4000000 in
theorem dtk_4 (g : Nat) (S : RS) (n : Int) (s : List UInt8) (A1 A2 A3 A4 : Option Addr) (n1 k1 n2 k2 n3 k3 n4 k4 : Nat) (hkb : i64 (4)) (w : World) (h : DAt w g S) :
    Calls Try.prog 31 #[dpt g, .agg #[.int .i64 4, .int .i64 n, sv s, .slice A1 n1 k1, .slice A2 n2 k2, .slice A3 n3 k3, .slice A4 n4 k4]] w (DPt g w (⟨4, 0, [], S.texts.1, [], [], []⟩) (S.texts.2)) := by
  obtain ⟨wa, hwa⟩ : ∃ wa, w.alloc (.cells #[.int .i64 4, .int .i64 n, sv s, .slice A1 n1 k1, .slice A2 n2 k2, .slice A3 n3 k3, .slice A4 n4 k4] 58) = wa := ⟨_, rfl⟩
  obtain ⟨wb, hwb⟩ : ∃ wb, wa.alloc (.cells #[.int .i64 0, .int .i64 0, .string ⟨#[]⟩, .slice none 0 0, .slice none 0 0, .slice none 0 0, .slice none 0 0] 58) = wb := ⟨_, rfl⟩
  obtain ⟨wc, hwc⟩ : ∃ wc, wb.alloc (.cells #[.int .i64 4, .int .i64 0, .string ⟨#[]⟩, .slice none 0 0, .slice none 0 0, .slice none 0 0, .slice none 0 0] 58) = wc := ⟨_, rfl⟩
  obtain ⟨gb, hgb⟩ : ∃ gb, w.heap.size = gb := ⟨_, rfl⟩
  obtain ⟨g4, hg4⟩ : ∃ g4, wa.heap.size = g4 := ⟨_, rfl⟩
  obtain ⟨g5, hg5⟩ : ∃ g5, wb.heap.size = g5 := ⟨_, rfl⟩
  have fa : Fr (DFt g) w wa := by rw [← hwa]; exact (Fr.refl _ w).alloc _
  have fb : Fr No wa wb := by rw [← hwb]; exact (Fr.refl _ wa).alloc _
  have fc : Fr No wb wc := by rw [← hwc]; exact (Fr.refl _ wb).alloc _
  have hb4 : Blk wb g4 58 #[.int .i64 0, .int .i64 0, .string ⟨#[]⟩, .slice none 0 0, .slice none 0 0, .slice none 0 0, .slice none 0 0] := by rw [← hwb, ← hg4]; exact Blk.new wa 58 _
  have hb5 : Blk wc g5 58 #[.int .i64 4, .int .i64 0, .string ⟨#[]⟩, .slice none 0 0, .slice none 0 0, .slice none 0 0, .slice none 0 0] := by rw [← hwc, ← hg5]; exact Blk.new wb 58 _
  have hb4c : Blk wc g4 58 #[.int .i64 0, .int .i64 0, .string ⟨#[]⟩, .slice none 0 0, .slice none 0 0, .slice none 0 0, .slice none 0 0] := hb4.of (fc.block g4 hb4.lt id)
  have fwc : Fr (DFt g) w wc := (fa.then fb.any).then fc.any
  have hrc : DAt wc g S := h.of' fun k hk => by
    have hlt := h.lt' k hk
    have e1 : wa.heap[k]? = w.heap[k]? := by rw [← hwa]; exact Below.heap_alloc w _ k hlt
    rw [fc.block k (by have := fa.size; have := fb.size; omega) id, fb.block k (by have := fa.size; omega) id, e1]
  have hpg : ∀ k, DFt g k → k < w.heap.size := h.lt'
  have hgs : w.heap.size ≤ g4 ∧ g4 < g5 ∧ g5 < wc.heap.size := ⟨by have := fa.size; omega, by have := hb4.lt; omega, hb5.lt⟩
  have HR := Lib.hid hrc
  have H4 := Lib.hid hb4c
  have H5 := Lib.hid hb5
  have FC := Lib.hid fwc
  have PG := Lib.hid hpg
  have GS := Lib.hid hgs
  have KB := Lib.hid hkb
  have HWA := Lib.hid hwa
  have HWB := Lib.hid hwb
  have HWC := Lib.hid hwc
  have HGB := Lib.hid hgb
  have HG4 : Hid (gb + 1 = g4) := Lib.hid (by rw [← hg4, ← hwa, ← hgb]; simp)
  have HG5 : Hid (g4 + 1 = g5) := Lib.hid (by rw [← hg5, ← hwb, ← hg4]; simp)
  clear fa fb fc hb4 hb5 hb4c fwc hrc hpg hgs hwa hwb hwc hgb hg4 hg5 h hkb
  generalize hP : dpt g = P at *
  have HP := Lib.hid hP
  clear hP
  go_enter Try.func31, Try.ntmps31
  go_wp2_with fail
  rw [HWA.out, HWB.out, HWC.out, HGB.out, HG4.out, HG5.out]
  rw [← HP.out]
  refine (dtexts_r g S wc HR.out).mono ?_
  rintro e w3 ⟨V, rfl, h3, f3, r3⟩
  have HV3 := Lib.hid r3
  obtain ⟨B, m, q, rfl⟩ := r3.slice
  have r3 := HV3.out
  have hx4 := H4.out.of (f3.block g4 H4.out.lt fun e => by have := PG.out g4 e; have := GS.out; omega)
  have hx5 := H5.out.of (f3.block g5 H5.out.lt fun e => by have := PG.out g5 e; have := GS.out; omega)
  have F3 := Lib.hid (FC.out.then f3)
  have h3size := f3.size
  have S3 := Lib.hid h3size
  have c3 : w3.cell? ⟨g5, 3, none⟩ = some (.slice none 0 0) := hx5.cell 3
  have z3 := hx5.frozen 3
  obtain ⟨w4, hw4⟩ : ∃ w4, w3.setCell ⟨g5, 3, none⟩ (.slice B m q) = w4 := ⟨_, rfl⟩
  have b5 := hx5.set_ 3 (.slice B m q)
  rw [hw4] at b5
  have b4 : Blk w4 g4 58 #[.int .i64 0, .int .i64 0, .string ⟨#[]⟩, .slice none 0 0, .slice none 0 0, .slice none 0 0, .slice none 0 0] := by rw [← hw4]; exact hx4.of (Below.heap_setCell _ _ _ g4 (by have := GS.out; show g4 ≠ g5; omega))
  have h4 : DAt w4 g (S.texts.2) := by rw [← hw4]; exact h3.of' fun j hj => Below.heap_setCell _ _ _ j (by have := GS.out; have := PG.out j hj; show j ≠ g5; omega)
  have f4 : Fr (DFt g) w w4 := by rw [← hw4]; exact F3.out.setCell (p := ⟨g5, 3, none⟩) (fun h => absurd h (by have := GS.out; show ¬ g5 < w.heap.size; omega)) _
  have hsame : ∀ j, j ≠ g5 → w4.heap[j]? = w3.heap[j]? := fun j hj => by rw [← hw4]; exact Below.heap_setCell _ _ _ j hj
  have t4 : ThingAt (fun k => w.heap.size ≤ k ∧ k ≠ g4) w4 (⟨4, 0, [], S.texts.1, [], [], []⟩) (.slice B m q) (.slice none 0 0) (.slice none 0 0) (.slice none 0 0) := ⟨KB.out, i64_small 0 (by omega), by simp, ((r3.bound (by omega)).of (w' := w4) (fun j hj => hsame j (by have := GS.out; have := hj.1; omega)) fun _ _ h => h).mono (fun k hk => ⟨by have := GS.out; have := hk.1; omega, by have := GS.out; have := hk.1; omega⟩), RowE.nil _ _ _ _ _, RowE.nil _ _ _ _ _, RowE.nil _ _ _ _ _⟩
  have HR4 := Lib.hid h4
  have F4 := Lib.hid f4
  have T4 := Lib.hid t4
  have d0 : w4.cell? ⟨g5, 0, none⟩ = some (.int .i64 4) := b5.cell 0
  have d1 : w4.cell? ⟨g5, 1, none⟩ = some (.int .i64 0) := b5.cell 1
  have d2 : w4.cell? ⟨g5, 2, none⟩ = some (.string ⟨#[]⟩) := b5.cell 2
  have d3 : w4.cell? ⟨g5, 3, none⟩ = some (.slice B m q) := b5.cell 3
  have d4 : w4.cell? ⟨g5, 4, none⟩ = some (.slice none 0 0) := b5.cell 4
  have d5 : w4.cell? ⟨g5, 5, none⟩ = some (.slice none 0 0) := b5.cell 5
  have d6 : w4.cell? ⟨g5, 6, none⟩ = some (.slice none 0 0) := b5.cell 6
  have e0 : w4.cell? ⟨g4, 0, none⟩ = some (.int .i64 0) := b4.cell 0
  have e1 : w4.cell? ⟨g4, 1, none⟩ = some (.int .i64 0) := b4.cell 1
  have e2 : w4.cell? ⟨g4, 2, none⟩ = some (.string ⟨#[]⟩) := b4.cell 2
  have e3 : w4.cell? ⟨g4, 3, none⟩ = some (.slice none 0 0) := b4.cell 3
  have e4 : w4.cell? ⟨g4, 4, none⟩ = some (.slice none 0 0) := b4.cell 4
  have e5 : w4.cell? ⟨g4, 5, none⟩ = some (.slice none 0 0) := b4.cell 5
  have e6 : w4.cell? ⟨g4, 6, none⟩ = some (.slice none 0 0) := b4.cell 6
  have y0 := b4.frozen 0
  have y1 := b4.frozen 1
  have y2 := b4.frozen 2
  have y3 := b4.frozen 3
  have y4 := b4.frozen 4
  have y5 := b4.frozen 5
  have y6 := b4.frozen 6
  clear h4 f4 t4 b4 b5 hx4 hx5 f3 h3 h3size hsame r3
  rw [HP.out]
  go_wp2
  refine bodyPost_ret (v := .agg #[.int .i64 4, .int .i64 0, .string ⟨#[]⟩, .slice B m q, .slice none 0 0, .slice none 0 0, .slice none 0 0]) (by simp [results, Try.results31, go_sem, e0, e1, e2, e3, e4, e5, e6]) rfl ?_
  obtain ⟨q1, q2, q3⟩ := dtk_fin GS.out.1 HR4.out PG.out F4.out T4.out (.int .i64 4) (.int .i64 0) (.string ⟨#[]⟩) (.slice B m q) (.slice none 0 0) (.slice none 0 0) (.slice none 0 0)
  exact ⟨_, _, _, _, rfl, q1, q2, q3⟩
set_option maxRecDepth 100000 in
set_option maxHeartbeats 4000000 in
theorem dtk_6 (g : Nat) (S : RS) (n : Int) (s : List UInt8) (A1 A2 A3 A4 : Option Addr) (n1 k1 n2 k2 n3 k3 n4 k4 : Nat) (hkb : i64 (6)) (w : World) (h : DAt w g S) :
    Calls Try.prog 31 #[dpt g, .agg #[.int .i64 6, .int .i64 n, sv s, .slice A1 n1 k1, .slice A2 n2 k2, .slice A3 n3 k3, .slice A4 n4 k4]] w (DPt g w (⟨6, 0, [], [], S.cells.1, [], []⟩) (S.cells.2)) := by
  obtain ⟨wa, hwa⟩ : ∃ wa, w.alloc (.cells #[.int .i64 6, .int .i64 n, sv s, .slice A1 n1 k1, .slice A2 n2 k2, .slice A3 n3 k3, .slice A4 n4 k4] 58) = wa := ⟨_, rfl⟩
  obtain ⟨wb, hwb⟩ : ∃ wb, wa.alloc (.cells #[.int .i64 0, .int .i64 0, .string ⟨#[]⟩, .slice none 0 0, .slice none 0 0, .slice none 0 0, .slice none 0 0] 58) = wb := ⟨_, rfl⟩
  obtain ⟨wc, hwc⟩ : ∃ wc, wb.alloc (.cells #[.int .i64 6, .int .i64 0, .string ⟨#[]⟩, .slice none 0 0, .slice none 0 0, .slice none 0 0, .slice none 0 0] 58) = wc := ⟨_, rfl⟩
  obtain ⟨gb, hgb⟩ : ∃ gb, w.heap.size = gb := ⟨_, rfl⟩
  obtain ⟨g4, hg4⟩ : ∃ g4, wa.heap.size = g4 := ⟨_, rfl⟩
  obtain ⟨g5, hg5⟩ : ∃ g5, wb.heap.size = g5 := ⟨_, rfl⟩
  have fa : Fr (DFt g) w wa := by rw [← hwa]; exact (Fr.refl _ w).alloc _
  have fb : Fr No wa wb := by rw [← hwb]; exact (Fr.refl _ wa).alloc _
  have fc : Fr No wb wc := by rw [← hwc]; exact (Fr.refl _ wb).alloc _
  have hb4 : Blk wb g4 58 #[.int .i64 0, .int .i64 0, .string ⟨#[]⟩, .slice none 0 0, .slice none 0 0, .slice none 0 0, .slice none 0 0] := by rw [← hwb, ← hg4]; exact Blk.new wa 58 _
  have hb5 : Blk wc g5 58 #[.int .i64 6, .int .i64 0, .string ⟨#[]⟩, .slice none 0 0, .slice none 0 0, .slice none 0 0, .slice none 0 0] := by rw [← hwc, ← hg5]; exact Blk.new wb 58 _
  have hb4c : Blk wc g4 58 #[.int .i64 0, .int .i64 0, .string ⟨#[]⟩, .slice none 0 0, .slice none 0 0, .slice none 0 0, .slice none 0 0] := hb4.of (fc.block g4 hb4.lt id)
  have fwc : Fr (DFt g) w wc := (fa.then fb.any).then fc.any
  have hrc : DAt wc g S := h.of' fun k hk => by
    have hlt := h.lt' k hk
    have e1 : wa.heap[k]? = w.heap[k]? := by rw [← hwa]; exact Below.heap_alloc w _ k hlt
    rw [fc.block k (by have := fa.size; have := fb.size; omega) id, fb.block k (by have := fa.size; omega) id, e1]
  have hpg : ∀ k, DFt g k → k < w.heap.size := h.lt'
  have hgs : w.heap.size ≤ g4 ∧ g4 < g5 ∧ g5 < wc.heap.size := ⟨by have := fa.size; omega, by have := hb4.lt; omega, hb5.lt⟩
  have HR := Lib.hid hrc
  have H4 := Lib.hid hb4c
  have H5 := Lib.hid hb5
  have FC := Lib.hid fwc
  have PG := Lib.hid hpg
  have GS := Lib.hid hgs
  have KB := Lib.hid hkb
  have HWA := Lib.hid hwa
  have HWB := Lib.hid hwb
  have HWC := Lib.hid hwc
  have HGB := Lib.hid hgb
  have HG4 : Hid (gb + 1 = g4) := Lib.hid (by rw [← hg4, ← hwa, ← hgb]; simp)
  have HG5 : Hid (g4 + 1 = g5) := Lib.hid (by rw [← hg5, ← hwb, ← hg4]; simp)
  clear fa fb fc hb4 hb5 hb4c fwc hrc hpg hgs hwa hwb hwc hgb hg4 hg5 h hkb
  generalize hP : dpt g = P at *
  have HP := Lib.hid hP
  clear hP
  go_enter Try.func31, Try.ntmps31
  go_wp2_with fail
  rw [HWA.out, HWB.out, HWC.out, HGB.out, HG4.out, HG5.out]
  rw [← HP.out]
  refine (dcells_r g S wc HR.out).mono ?_
  rintro e w3 ⟨V, rfl, h3, f3, r3⟩
  have HV3 := Lib.hid r3
  obtain ⟨B, m, q, rfl⟩ := r3.slice
  have r3 := HV3.out
  have hx4 := H4.out.of (f3.block g4 H4.out.lt fun e => by have := PG.out g4 e; have := GS.out; omega)
  have hx5 := H5.out.of (f3.block g5 H5.out.lt fun e => by have := PG.out g5 e; have := GS.out; omega)
  have F3 := Lib.hid (FC.out.then f3)
  have h3size := f3.size
  have S3 := Lib.hid h3size
  have c3 : w3.cell? ⟨g5, 4, none⟩ = some (.slice none 0 0) := hx5.cell 4
  have z3 := hx5.frozen 4
  obtain ⟨w4, hw4⟩ : ∃ w4, w3.setCell ⟨g5, 4, none⟩ (.slice B m q) = w4 := ⟨_, rfl⟩
  have b5 := hx5.set_ 4 (.slice B m q)
  rw [hw4] at b5
  have b4 : Blk w4 g4 58 #[.int .i64 0, .int .i64 0, .string ⟨#[]⟩, .slice none 0 0, .slice none 0 0, .slice none 0 0, .slice none 0 0] := by rw [← hw4]; exact hx4.of (Below.heap_setCell _ _ _ g4 (by have := GS.out; show g4 ≠ g5; omega))
  have h4 : DAt w4 g (S.cells.2) := by rw [← hw4]; exact h3.of' fun j hj => Below.heap_setCell _ _ _ j (by have := GS.out; have := PG.out j hj; show j ≠ g5; omega)
  have f4 : Fr (DFt g) w w4 := by rw [← hw4]; exact F3.out.setCell (p := ⟨g5, 4, none⟩) (fun h => absurd h (by have := GS.out; show ¬ g5 < w.heap.size; omega)) _
  have hsame : ∀ j, j ≠ g5 → w4.heap[j]? = w3.heap[j]? := fun j hj => by rw [← hw4]; exact Below.heap_setCell _ _ _ j hj
  have t4 : ThingAt (fun k => w.heap.size ≤ k ∧ k ≠ g4) w4 (⟨6, 0, [], [], S.cells.1, [], []⟩) (.slice none 0 0) (.slice B m q) (.slice none 0 0) (.slice none 0 0) := ⟨KB.out, i64_small 0 (by omega), by simp, RowE.nil _ _ _ _ _, ((r3.bound (by omega)).of (w' := w4) (fun j hj => hsame j (by have := GS.out; have := hj.1; omega)) fun _ _ h => h).mono (fun k hk => ⟨by have := GS.out; have := hk.1; omega, by have := GS.out; have := hk.1; omega⟩), RowE.nil _ _ _ _ _, RowE.nil _ _ _ _ _⟩
  have HR4 := Lib.hid h4
  have F4 := Lib.hid f4
  have T4 := Lib.hid t4
  have d0 : w4.cell? ⟨g5, 0, none⟩ = some (.int .i64 6) := b5.cell 0
  have d1 : w4.cell? ⟨g5, 1, none⟩ = some (.int .i64 0) := b5.cell 1
  have d2 : w4.cell? ⟨g5, 2, none⟩ = some (.string ⟨#[]⟩) := b5.cell 2
  have d3 : w4.cell? ⟨g5, 3, none⟩ = some (.slice none 0 0) := b5.cell 3
  have d4 : w4.cell? ⟨g5, 4, none⟩ = some (.slice B m q) := b5.cell 4
  have d5 : w4.cell? ⟨g5, 5, none⟩ = some (.slice none 0 0) := b5.cell 5
  have d6 : w4.cell? ⟨g5, 6, none⟩ = some (.slice none 0 0) := b5.cell 6
  have e0 : w4.cell? ⟨g4, 0, none⟩ = some (.int .i64 0) := b4.cell 0
  have e1 : w4.cell? ⟨g4, 1, none⟩ = some (.int .i64 0) := b4.cell 1
  have e2 : w4.cell? ⟨g4, 2, none⟩ = some (.string ⟨#[]⟩) := b4.cell 2
  have e3 : w4.cell? ⟨g4, 3, none⟩ = some (.slice none 0 0) := b4.cell 3
  have e4 : w4.cell? ⟨g4, 4, none⟩ = some (.slice none 0 0) := b4.cell 4
  have e5 : w4.cell? ⟨g4, 5, none⟩ = some (.slice none 0 0) := b4.cell 5
  have e6 : w4.cell? ⟨g4, 6, none⟩ = some (.slice none 0 0) := b4.cell 6
  have y0 := b4.frozen 0
  have y1 := b4.frozen 1
  have y2 := b4.frozen 2
  have y3 := b4.frozen 3
  have y4 := b4.frozen 4
  have y5 := b4.frozen 5
  have y6 := b4.frozen 6
  clear h4 f4 t4 b4 b5 hx4 hx5 f3 h3 h3size hsame r3
  rw [HP.out]
  go_wp2
  refine bodyPost_ret (v := .agg #[.int .i64 6, .int .i64 0, .string ⟨#[]⟩, .slice none 0 0, .slice B m q, .slice none 0 0, .slice none 0 0]) (by simp [results, Try.results31, go_sem, e0, e1, e2, e3, e4, e5, e6]) rfl ?_
  obtain ⟨q1, q2, q3⟩ := dtk_fin GS.out.1 HR4.out PG.out F4.out T4.out (.int .i64 6) (.int .i64 0) (.string ⟨#[]⟩) (.slice none 0 0) (.slice B m q) (.slice none 0 0) (.slice none 0 0)
  exact ⟨_, _, _, _, rfl, q1, q2, q3⟩
set_option maxRecDepth 100000 in
set_option maxHeartbeats 4000000 in
theorem dtk_8 (g : Nat) (S : RS) (n : Int) (s : List UInt8) (A1 A2 A3 A4 : Option Addr) (n1 k1 n2 k2 n3 k3 n4 k4 : Nat) (hkb : i64 (8)) (w : World) (h : DAt w g S) :
    Calls Try.prog 31 #[dpt g, .agg #[.int .i64 8, .int .i64 n, sv s, .slice A1 n1 k1, .slice A2 n2 k2, .slice A3 n3 k3, .slice A4 n4 k4]] w (DPt g w (⟨8, 0, [], [], [], S.facts.1, []⟩) (S.facts.2)) := by
  obtain ⟨wa, hwa⟩ : ∃ wa, w.alloc (.cells #[.int .i64 8, .int .i64 n, sv s, .slice A1 n1 k1, .slice A2 n2 k2, .slice A3 n3 k3, .slice A4 n4 k4] 58) = wa := ⟨_, rfl⟩
  obtain ⟨wb, hwb⟩ : ∃ wb, wa.alloc (.cells #[.int .i64 0, .int .i64 0, .string ⟨#[]⟩, .slice none 0 0, .slice none 0 0, .slice none 0 0, .slice none 0 0] 58) = wb := ⟨_, rfl⟩
  obtain ⟨wc, hwc⟩ : ∃ wc, wb.alloc (.cells #[.int .i64 8, .int .i64 0, .string ⟨#[]⟩, .slice none 0 0, .slice none 0 0, .slice none 0 0, .slice none 0 0] 58) = wc := ⟨_, rfl⟩
  obtain ⟨gb, hgb⟩ : ∃ gb, w.heap.size = gb := ⟨_, rfl⟩
  obtain ⟨g4, hg4⟩ : ∃ g4, wa.heap.size = g4 := ⟨_, rfl⟩
  obtain ⟨g5, hg5⟩ : ∃ g5, wb.heap.size = g5 := ⟨_, rfl⟩
  have fa : Fr (DFt g) w wa := by rw [← hwa]; exact (Fr.refl _ w).alloc _
  have fb : Fr No wa wb := by rw [← hwb]; exact (Fr.refl _ wa).alloc _
  have fc : Fr No wb wc := by rw [← hwc]; exact (Fr.refl _ wb).alloc _
  have hb4 : Blk wb g4 58 #[.int .i64 0, .int .i64 0, .string ⟨#[]⟩, .slice none 0 0, .slice none 0 0, .slice none 0 0, .slice none 0 0] := by rw [← hwb, ← hg4]; exact Blk.new wa 58 _
  have hb5 : Blk wc g5 58 #[.int .i64 8, .int .i64 0, .string ⟨#[]⟩, .slice none 0 0, .slice none 0 0, .slice none 0 0, .slice none 0 0] := by rw [← hwc, ← hg5]; exact Blk.new wb 58 _
  have hb4c : Blk wc g4 58 #[.int .i64 0, .int .i64 0, .string ⟨#[]⟩, .slice none 0 0, .slice none 0 0, .slice none 0 0, .slice none 0 0] := hb4.of (fc.block g4 hb4.lt id)
  have fwc : Fr (DFt g) w wc := (fa.then fb.any).then fc.any
  have hrc : DAt wc g S := h.of' fun k hk => by
    have hlt := h.lt' k hk
    have e1 : wa.heap[k]? = w.heap[k]? := by rw [← hwa]; exact Below.heap_alloc w _ k hlt
    rw [fc.block k (by have := fa.size; have := fb.size; omega) id, fb.block k (by have := fa.size; omega) id, e1]
  have hpg : ∀ k, DFt g k → k < w.heap.size := h.lt'
  have hgs : w.heap.size ≤ g4 ∧ g4 < g5 ∧ g5 < wc.heap.size := ⟨by have := fa.size; omega, by have := hb4.lt; omega, hb5.lt⟩
  have HR := Lib.hid hrc
  have H4 := Lib.hid hb4c
  have H5 := Lib.hid hb5
  have FC := Lib.hid fwc
  have PG := Lib.hid hpg
  have GS := Lib.hid hgs
  have KB := Lib.hid hkb
  have HWA := Lib.hid hwa
  have HWB := Lib.hid hwb
  have HWC := Lib.hid hwc
  have HGB := Lib.hid hgb
  have HG4 : Hid (gb + 1 = g4) := Lib.hid (by rw [← hg4, ← hwa, ← hgb]; simp)
  have HG5 : Hid (g4 + 1 = g5) := Lib.hid (by rw [← hg5, ← hwb, ← hg4]; simp)
  clear fa fb fc hb4 hb5 hb4c fwc hrc hpg hgs hwa hwb hwc hgb hg4 hg5 h hkb
  generalize hP : dpt g = P at *
  have HP := Lib.hid hP
  clear hP
  go_enter Try.func31, Try.ntmps31
  go_wp2_with fail
  rw [HWA.out, HWB.out, HWC.out, HGB.out, HG4.out, HG5.out]
  rw [← HP.out]
  refine (dfacts_r g S wc HR.out).mono ?_
  rintro e w3 ⟨V, rfl, h3, f3, r3⟩
  have HV3 := Lib.hid r3
  obtain ⟨B, m, q, rfl⟩ := r3.slice
  have r3 := HV3.out
  have hx4 := H4.out.of (f3.block g4 H4.out.lt fun e => by have := PG.out g4 e; have := GS.out; omega)
  have hx5 := H5.out.of (f3.block g5 H5.out.lt fun e => by have := PG.out g5 e; have := GS.out; omega)
  have F3 := Lib.hid (FC.out.then f3)
  have h3size := f3.size
  have S3 := Lib.hid h3size
  have c3 : w3.cell? ⟨g5, 5, none⟩ = some (.slice none 0 0) := hx5.cell 5
  have z3 := hx5.frozen 5
  obtain ⟨w4, hw4⟩ : ∃ w4, w3.setCell ⟨g5, 5, none⟩ (.slice B m q) = w4 := ⟨_, rfl⟩
  have b5 := hx5.set_ 5 (.slice B m q)
  rw [hw4] at b5
  have b4 : Blk w4 g4 58 #[.int .i64 0, .int .i64 0, .string ⟨#[]⟩, .slice none 0 0, .slice none 0 0, .slice none 0 0, .slice none 0 0] := by rw [← hw4]; exact hx4.of (Below.heap_setCell _ _ _ g4 (by have := GS.out; show g4 ≠ g5; omega))
  have h4 : DAt w4 g (S.facts.2) := by rw [← hw4]; exact h3.of' fun j hj => Below.heap_setCell _ _ _ j (by have := GS.out; have := PG.out j hj; show j ≠ g5; omega)
  have f4 : Fr (DFt g) w w4 := by rw [← hw4]; exact F3.out.setCell (p := ⟨g5, 5, none⟩) (fun h => absurd h (by have := GS.out; show ¬ g5 < w.heap.size; omega)) _
  have hsame : ∀ j, j ≠ g5 → w4.heap[j]? = w3.heap[j]? := fun j hj => by rw [← hw4]; exact Below.heap_setCell _ _ _ j hj
  have t4 : ThingAt (fun k => w.heap.size ≤ k ∧ k ≠ g4) w4 (⟨8, 0, [], [], [], S.facts.1, []⟩) (.slice none 0 0) (.slice none 0 0) (.slice B m q) (.slice none 0 0) := ⟨KB.out, i64_small 0 (by omega), by simp, RowE.nil _ _ _ _ _, RowE.nil _ _ _ _ _, (by
    have hb := r3.bound (by omega)
    refine (hb.of (E' := factE (fun k => w.heap.size ≤ k ∧ k ≠ g4) w4) (fun j hj => hsame j (by have := GS.out; have := hj.1; omega)) fun x cs hx => ?_).mono (fun k hk => ⟨by have := GS.out; have := hk.1; omega, by have := GS.out; have := hk.1; omega⟩)
    obtain ⟨dv, mv, e, h1, h2⟩ := hx
    exact ⟨dv, mv, e, ((h1.bound (by omega)).of (w' := w4) (fun j hj => hsame j (by have := GS.out; have := hj.1; omega)) fun _ _ h => h).mono (fun k hk => ⟨by have := GS.out; have := hk.1; omega, by have := GS.out; have := hk.1; omega⟩), ((h2.bound (by omega)).of (w' := w4) (fun j hj => hsame j (by have := GS.out; have := hj.1; omega)) fun _ _ h => h).mono (fun k hk => ⟨by have := GS.out; have := hk.1; omega, by have := GS.out; have := hk.1; omega⟩)⟩), RowE.nil _ _ _ _ _⟩
  have HR4 := Lib.hid h4
  have F4 := Lib.hid f4
  have T4 := Lib.hid t4
  have d0 : w4.cell? ⟨g5, 0, none⟩ = some (.int .i64 8) := b5.cell 0
  have d1 : w4.cell? ⟨g5, 1, none⟩ = some (.int .i64 0) := b5.cell 1
  have d2 : w4.cell? ⟨g5, 2, none⟩ = some (.string ⟨#[]⟩) := b5.cell 2
  have d3 : w4.cell? ⟨g5, 3, none⟩ = some (.slice none 0 0) := b5.cell 3
  have d4 : w4.cell? ⟨g5, 4, none⟩ = some (.slice none 0 0) := b5.cell 4
  have d5 : w4.cell? ⟨g5, 5, none⟩ = some (.slice B m q) := b5.cell 5
  have d6 : w4.cell? ⟨g5, 6, none⟩ = some (.slice none 0 0) := b5.cell 6
  have e0 : w4.cell? ⟨g4, 0, none⟩ = some (.int .i64 0) := b4.cell 0
  have e1 : w4.cell? ⟨g4, 1, none⟩ = some (.int .i64 0) := b4.cell 1
  have e2 : w4.cell? ⟨g4, 2, none⟩ = some (.string ⟨#[]⟩) := b4.cell 2
  have e3 : w4.cell? ⟨g4, 3, none⟩ = some (.slice none 0 0) := b4.cell 3
  have e4 : w4.cell? ⟨g4, 4, none⟩ = some (.slice none 0 0) := b4.cell 4
  have e5 : w4.cell? ⟨g4, 5, none⟩ = some (.slice none 0 0) := b4.cell 5
  have e6 : w4.cell? ⟨g4, 6, none⟩ = some (.slice none 0 0) := b4.cell 6
  have y0 := b4.frozen 0
  have y1 := b4.frozen 1
  have y2 := b4.frozen 2
  have y3 := b4.frozen 3
  have y4 := b4.frozen 4
  have y5 := b4.frozen 5
  have y6 := b4.frozen 6
  clear h4 f4 t4 b4 b5 hx4 hx5 f3 h3 h3size hsame r3
  rw [HP.out]
  go_wp2
  refine bodyPost_ret (v := .agg #[.int .i64 8, .int .i64 0, .string ⟨#[]⟩, .slice none 0 0, .slice none 0 0, .slice B m q, .slice none 0 0]) (by simp [results, Try.results31, go_sem, e0, e1, e2, e3, e4, e5, e6]) rfl ?_
  obtain ⟨q1, q2, q3⟩ := dtk_fin GS.out.1 HR4.out PG.out F4.out T4.out (.int .i64 8) (.int .i64 0) (.string ⟨#[]⟩) (.slice none 0 0) (.slice none 0 0) (.slice B m q) (.slice none 0 0)
  exact ⟨_, _, _, _, rfl, q1, q2, q3⟩
set_option maxRecDepth 100000 in
set_option maxHeartbeats 4000000 in
theorem dtk_5 (g : Nat) (S : RS) (n : Int) (s : List UInt8) (A1 A2 A3 A4 : Option Addr) (n1 k1 n2 k2 n3 k3 n4 k4 : Nat) (hkb : i64 (5)) (w : World) (h : DAt w g S) :
    Calls Try.prog 31 #[dpt g, .agg #[.int .i64 5, .int .i64 n, sv s, .slice A1 n1 k1, .slice A2 n2 k2, .slice A3 n3 k3, .slice A4 n4 k4]] w (DPt g w (⟨5, 0, [], [], [S.cell.1], [], []⟩) (S.cell.2)) := by
  obtain ⟨wa, hwa⟩ : ∃ wa, w.alloc (.cells #[.int .i64 5, .int .i64 n, sv s, .slice A1 n1 k1, .slice A2 n2 k2, .slice A3 n3 k3, .slice A4 n4 k4] 58) = wa := ⟨_, rfl⟩
  obtain ⟨wb, hwb⟩ : ∃ wb, wa.alloc (.cells #[.int .i64 0, .int .i64 0, .string ⟨#[]⟩, .slice none 0 0, .slice none 0 0, .slice none 0 0, .slice none 0 0] 58) = wb := ⟨_, rfl⟩
  obtain ⟨wc, hwc⟩ : ∃ wc, wb.alloc (.cells #[.int .i64 5, .int .i64 0, .string ⟨#[]⟩, .slice none 0 0, .slice none 0 0, .slice none 0 0, .slice none 0 0] 58) = wc := ⟨_, rfl⟩
  obtain ⟨gb, hgb⟩ : ∃ gb, w.heap.size = gb := ⟨_, rfl⟩
  obtain ⟨g4, hg4⟩ : ∃ g4, wa.heap.size = g4 := ⟨_, rfl⟩
  obtain ⟨g5, hg5⟩ : ∃ g5, wb.heap.size = g5 := ⟨_, rfl⟩
  have fa : Fr (DFt g) w wa := by rw [← hwa]; exact (Fr.refl _ w).alloc _
  have fb : Fr No wa wb := by rw [← hwb]; exact (Fr.refl _ wa).alloc _
  have fc : Fr No wb wc := by rw [← hwc]; exact (Fr.refl _ wb).alloc _
  have hb4 : Blk wb g4 58 #[.int .i64 0, .int .i64 0, .string ⟨#[]⟩, .slice none 0 0, .slice none 0 0, .slice none 0 0, .slice none 0 0] := by rw [← hwb, ← hg4]; exact Blk.new wa 58 _
  have hb5 : Blk wc g5 58 #[.int .i64 5, .int .i64 0, .string ⟨#[]⟩, .slice none 0 0, .slice none 0 0, .slice none 0 0, .slice none 0 0] := by rw [← hwc, ← hg5]; exact Blk.new wb 58 _
  have hb4c : Blk wc g4 58 #[.int .i64 0, .int .i64 0, .string ⟨#[]⟩, .slice none 0 0, .slice none 0 0, .slice none 0 0, .slice none 0 0] := hb4.of (fc.block g4 hb4.lt id)
  have fwc : Fr (DFt g) w wc := (fa.then fb.any).then fc.any
  have hrc : DAt wc g S := h.of' fun k hk => by
    have hlt := h.lt' k hk
    have e1 : wa.heap[k]? = w.heap[k]? := by rw [← hwa]; exact Below.heap_alloc w _ k hlt
    rw [fc.block k (by have := fa.size; have := fb.size; omega) id, fb.block k (by have := fa.size; omega) id, e1]
  have hpg : ∀ k, DFt g k → k < w.heap.size := h.lt'
  have hgs : w.heap.size ≤ g4 ∧ g4 < g5 ∧ g5 < wc.heap.size := ⟨by have := fa.size; omega, by have := hb4.lt; omega, hb5.lt⟩
  have HR := Lib.hid hrc
  have H4 := Lib.hid hb4c
  have H5 := Lib.hid hb5
  have FC := Lib.hid fwc
  have PG := Lib.hid hpg
  have GS := Lib.hid hgs
  have KB := Lib.hid hkb
  have HWA := Lib.hid hwa
  have HWB := Lib.hid hwb
  have HWC := Lib.hid hwc
  have HGB := Lib.hid hgb
  have HG4 : Hid (gb + 1 = g4) := Lib.hid (by rw [← hg4, ← hwa, ← hgb]; simp)
  have HG5 : Hid (g4 + 1 = g5) := Lib.hid (by rw [← hg5, ← hwb, ← hg4]; simp)
  clear fa fb fc hb4 hb5 hb4c fwc hrc hpg hgs hwa hwb hwc hgb hg4 hg5 h hkb
  generalize hP : dpt g = P at *
  have HP := Lib.hid hP
  clear hP
  go_enter Try.func31, Try.ntmps31
  go_wp2_with fail
  rw [HWA.out, HWB.out, HWC.out, HGB.out, HG4.out, HG5.out]
  rw [← HP.out]
  refine (dcellr_any g S wc HR.out).mono ?_
  unfold CellP.val
  rintro e w3 ⟨rfl, h3, f3⟩
  have hx4 := H4.out.of (f3.block g4 H4.out.lt fun e => by have := PG.out g4 e; have := GS.out; omega)
  have hx5 := H5.out.of (f3.block g5 H5.out.lt fun e => by have := PG.out g5 e; have := GS.out; omega)
  have F3 := Lib.hid (FC.out.then f3)
  have h3size := f3.size
  have S3 := Lib.hid h3size
  obtain ⟨wd, hwd⟩ : ∃ wd, w3.alloc (.cells #[.int .i64 S.cell.1.kind, .int .i64 S.cell.1.int, sv S.cell.1.text] 93) = wd := ⟨_, rfl⟩
  obtain ⟨gd, hgd⟩ : ∃ gd, w3.heap.size = gd := ⟨_, rfl⟩
  have fd : Fr No w3 wd := by rw [← hwd]; exact (Fr.refl _ w3).alloc _
  have hbd : Blk wd gd 93 #[.int .i64 S.cell.1.kind, .int .i64 S.cell.1.int, sv S.cell.1.text] := by rw [← hwd, ← hgd]; exact Blk.new w3 93 _
  have hd5 := hx5.of (fd.block g5 hx5.lt id)
  have hd4 := hx4.of (fd.block g4 hx4.lt id)
  have h3d : DAt wd g (S.cell.2) := h3.keep fd
  have c3 : wd.cell? ⟨g5, 4, none⟩ = some (.slice none 0 0) := hd5.cell 4
  have z3 := hd5.frozen 4
  obtain ⟨w4, hw4⟩ : ∃ w4, wd.setCell ⟨g5, 4, none⟩ (.slice (some ⟨gd, 0, none⟩) 1 1) = w4 := ⟨_, rfl⟩
  have b5 := hd5.set_ 4 (.slice (some ⟨gd, 0, none⟩) 1 1)
  rw [hw4] at b5
  have b4 : Blk w4 g4 58 #[.int .i64 0, .int .i64 0, .string ⟨#[]⟩, .slice none 0 0, .slice none 0 0, .slice none 0 0, .slice none 0 0] := by rw [← hw4]; exact hd4.of (Below.heap_setCell _ _ _ g4 (by have := GS.out; show g4 ≠ g5; omega))
  have h4 : DAt w4 g (S.cell.2) := by rw [← hw4]; exact h3d.of' fun j hj => Below.heap_setCell _ _ _ j (by have := GS.out; have := PG.out j hj; show j ≠ g5; omega)
  have f4 : Fr (DFt g) w w4 := by rw [← hw4]; exact (F3.out.then fd.any).setCell (p := ⟨g5, 4, none⟩) (fun h => absurd h (by have := GS.out; show ¬ g5 < w.heap.size; omega)) _
  have hsame : ∀ j, j ≠ g5 → w4.heap[j]? = wd.heap[j]? := fun j hj => by rw [← hw4]; exact Below.heap_setCell _ _ _ j hj
  have hgd3 : wc.heap.size ≤ gd := by have := S3.out; omega
  have hbd4 : Blk w4 gd 93 #[.int .i64 S.cell.1.kind, .int .i64 S.cell.1.int, sv S.cell.1.text] := hbd.of (hsame gd (by have := GS.out; omega))
  have hsame3 : ∀ j, j < w3.heap.size → j ≠ g5 → w4.heap[j]? = w3.heap[j]? := fun j hj hne => by rw [hsame j hne]; exact fd.block j hj id
  have t4 : ThingAt (fun k => w.heap.size ≤ k ∧ k ≠ g4) w4 (⟨5, 0, [], [], [S.cell.1], [], []⟩) (.slice none 0 0) (.slice (some ⟨gd, 0, none⟩) 1 1) (.slice none 0 0) (.slice none 0 0) := ⟨KB.out, i64_small 0 (by omega), by simp, RowE.nil _ _ _ _ _, ⟨some ⟨gd, 0, none⟩, 1, rfl, by unfold maxLen; simp, fun _ => ⟨gd, 0, rfl, ⟨by have := GS.out; omega, by have := GS.out; omega⟩, fun j hj => by
      obtain rfl : j = 0 := by simpa using hj
      refine ⟨_, rfl, fun i hi => ?_, ⟨rfl, cell_ok S HR.out.len⟩⟩
      have := hbd4.cell i
      simpa using this⟩⟩, RowE.nil _ _ _ _ _, RowE.nil _ _ _ _ _⟩
  have HR4 := Lib.hid h4
  have F4 := Lib.hid f4
  have T4 := Lib.hid t4
  have d0 : w4.cell? ⟨g5, 0, none⟩ = some (.int .i64 5) := b5.cell 0
  have d1 : w4.cell? ⟨g5, 1, none⟩ = some (.int .i64 0) := b5.cell 1
  have d2 : w4.cell? ⟨g5, 2, none⟩ = some (.string ⟨#[]⟩) := b5.cell 2
  have d3 : w4.cell? ⟨g5, 3, none⟩ = some (.slice none 0 0) := b5.cell 3
  have d4 : w4.cell? ⟨g5, 4, none⟩ = some (.slice (some ⟨gd, 0, none⟩) 1 1) := b5.cell 4
  have d5 : w4.cell? ⟨g5, 5, none⟩ = some (.slice none 0 0) := b5.cell 5
  have d6 : w4.cell? ⟨g5, 6, none⟩ = some (.slice none 0 0) := b5.cell 6
  have e0 : w4.cell? ⟨g4, 0, none⟩ = some (.int .i64 0) := b4.cell 0
  have e1 : w4.cell? ⟨g4, 1, none⟩ = some (.int .i64 0) := b4.cell 1
  have e2 : w4.cell? ⟨g4, 2, none⟩ = some (.string ⟨#[]⟩) := b4.cell 2
  have e3 : w4.cell? ⟨g4, 3, none⟩ = some (.slice none 0 0) := b4.cell 3
  have e4 : w4.cell? ⟨g4, 4, none⟩ = some (.slice none 0 0) := b4.cell 4
  have e5 : w4.cell? ⟨g4, 5, none⟩ = some (.slice none 0 0) := b4.cell 5
  have e6 : w4.cell? ⟨g4, 6, none⟩ = some (.slice none 0 0) := b4.cell 6
  have y0 := b4.frozen 0
  have y1 := b4.frozen 1
  have y2 := b4.frozen 2
  have y3 := b4.frozen 3
  have y4 := b4.frozen 4
  have y5 := b4.frozen 5
  have y6 := b4.frozen 6
  clear h4 f4 t4 b4 b5 hx4 hx5 f3 h3 h3size hsame hsame3 hbd hbd4 hd5 hd4 h3d fd hgd3
  rw [HP.out]
  go_wp2
  refine bodyPost_ret (v := .agg #[.int .i64 5, .int .i64 0, .string ⟨#[]⟩, .slice none 0 0, .slice (some ⟨gd, 0, none⟩) 1 1, .slice none 0 0, .slice none 0 0]) (by simp [results, Try.results31, go_sem, e0, e1, e2, e3, e4, e5, e6]) rfl ?_
  obtain ⟨q1, q2, q3⟩ := dtk_fin GS.out.1 HR4.out PG.out F4.out T4.out (.int .i64 5) (.int .i64 0) (.string ⟨#[]⟩) (.slice none 0 0) (.slice (some ⟨gd, 0, none⟩) 1 1) (.slice none 0 0) (.slice none 0 0)
  exact ⟨_, _, _, _, rfl, q1, q2, q3⟩
set_option maxRecDepth 100000 in
set_option maxHeartbeats 4000000 in
theorem dtk_7 (g : Nat) (S : RS) (n : Int) (s : List UInt8) (A1 A2 A3 A4 : Option Addr) (n1 k1 n2 k2 n3 k3 n4 k4 : Nat) (hkb : i64 (7)) (w : World) (h : DAt w g S) :
    Calls Try.prog 31 #[dpt g, .agg #[.int .i64 7, .int .i64 n, sv s, .slice A1 n1 k1, .slice A2 n2 k2, .slice A3 n3 k3, .slice A4 n4 k4]] w (DPt g w (⟨7, 0, [], [], [], [S.fact.1], []⟩) (S.fact.2)) := by
  obtain ⟨wa, hwa⟩ : ∃ wa, w.alloc (.cells #[.int .i64 7, .int .i64 n, sv s, .slice A1 n1 k1, .slice A2 n2 k2, .slice A3 n3 k3, .slice A4 n4 k4] 58) = wa := ⟨_, rfl⟩
  obtain ⟨wb, hwb⟩ : ∃ wb, wa.alloc (.cells #[.int .i64 0, .int .i64 0, .string ⟨#[]⟩, .slice none 0 0, .slice none 0 0, .slice none 0 0, .slice none 0 0] 58) = wb := ⟨_, rfl⟩
  obtain ⟨wc, hwc⟩ : ∃ wc, wb.alloc (.cells #[.int .i64 7, .int .i64 0, .string ⟨#[]⟩, .slice none 0 0, .slice none 0 0, .slice none 0 0, .slice none 0 0] 58) = wc := ⟨_, rfl⟩
  obtain ⟨gb, hgb⟩ : ∃ gb, w.heap.size = gb := ⟨_, rfl⟩
  obtain ⟨g4, hg4⟩ : ∃ g4, wa.heap.size = g4 := ⟨_, rfl⟩
  obtain ⟨g5, hg5⟩ : ∃ g5, wb.heap.size = g5 := ⟨_, rfl⟩
  have fa : Fr (DFt g) w wa := by rw [← hwa]; exact (Fr.refl _ w).alloc _
  have fb : Fr No wa wb := by rw [← hwb]; exact (Fr.refl _ wa).alloc _
  have fc : Fr No wb wc := by rw [← hwc]; exact (Fr.refl _ wb).alloc _
  have hb4 : Blk wb g4 58 #[.int .i64 0, .int .i64 0, .string ⟨#[]⟩, .slice none 0 0, .slice none 0 0, .slice none 0 0, .slice none 0 0] := by rw [← hwb, ← hg4]; exact Blk.new wa 58 _
  have hb5 : Blk wc g5 58 #[.int .i64 7, .int .i64 0, .string ⟨#[]⟩, .slice none 0 0, .slice none 0 0, .slice none 0 0, .slice none 0 0] := by rw [← hwc, ← hg5]; exact Blk.new wb 58 _
  have hb4c : Blk wc g4 58 #[.int .i64 0, .int .i64 0, .string ⟨#[]⟩, .slice none 0 0, .slice none 0 0, .slice none 0 0, .slice none 0 0] := hb4.of (fc.block g4 hb4.lt id)
  have fwc : Fr (DFt g) w wc := (fa.then fb.any).then fc.any
  have hrc : DAt wc g S := h.of' fun k hk => by
    have hlt := h.lt' k hk
    have e1 : wa.heap[k]? = w.heap[k]? := by rw [← hwa]; exact Below.heap_alloc w _ k hlt
    rw [fc.block k (by have := fa.size; have := fb.size; omega) id, fb.block k (by have := fa.size; omega) id, e1]
  have hpg : ∀ k, DFt g k → k < w.heap.size := h.lt'
  have hgs : w.heap.size ≤ g4 ∧ g4 < g5 ∧ g5 < wc.heap.size := ⟨by have := fa.size; omega, by have := hb4.lt; omega, hb5.lt⟩
  have HR := Lib.hid hrc
  have H4 := Lib.hid hb4c
  have H5 := Lib.hid hb5
  have FC := Lib.hid fwc
  have PG := Lib.hid hpg
  have GS := Lib.hid hgs
  have KB := Lib.hid hkb
  have HWA := Lib.hid hwa
  have HWB := Lib.hid hwb
  have HWC := Lib.hid hwc
  have HGB := Lib.hid hgb
  have HG4 : Hid (gb + 1 = g4) := Lib.hid (by rw [← hg4, ← hwa, ← hgb]; simp)
  have HG5 : Hid (g4 + 1 = g5) := Lib.hid (by rw [← hg5, ← hwb, ← hg4]; simp)
  clear fa fb fc hb4 hb5 hb4c fwc hrc hpg hgs hwa hwb hwc hgb hg4 hg5 h hkb
  generalize hP : dpt g = P at *
  have HP := Lib.hid hP
  clear hP
  go_enter Try.func31, Try.ntmps31
  go_wp2_with fail
  rw [HWA.out, HWB.out, HWC.out, HGB.out, HG4.out, HG5.out]
  rw [← HP.out]
  refine (dfact_r g S wc HR.out).mono ?_
  rintro e w3 ⟨dv, mv, rfl, h3, f3, rd, rm⟩
  have RD := Lib.hid (rd.bound (by omega))
  have RM := Lib.hid (rm.bound (by omega))
  obtain ⟨B1, m1, q1, rfl⟩ := rd.slice
  obtain ⟨B2, m2, q2, rfl⟩ := rm.slice
  have hx4 := H4.out.of (f3.block g4 H4.out.lt fun e => by have := PG.out g4 e; have := GS.out; omega)
  have hx5 := H5.out.of (f3.block g5 H5.out.lt fun e => by have := PG.out g5 e; have := GS.out; omega)
  have F3 := Lib.hid (FC.out.then f3)
  have h3size := f3.size
  have S3 := Lib.hid h3size
  obtain ⟨wd, hwd⟩ : ∃ wd, w3.alloc (.cells #[.slice B1 m1 q1, .slice B2 m2 q2] 99) = wd := ⟨_, rfl⟩
  obtain ⟨gd, hgd⟩ : ∃ gd, w3.heap.size = gd := ⟨_, rfl⟩
  have fd : Fr No w3 wd := by rw [← hwd]; exact (Fr.refl _ w3).alloc _
  have hbd : Blk wd gd 99 #[.slice B1 m1 q1, .slice B2 m2 q2] := by rw [← hwd, ← hgd]; exact Blk.new w3 99 _
  have hd5 := hx5.of (fd.block g5 hx5.lt id)
  have hd4 := hx4.of (fd.block g4 hx4.lt id)
  have h3d : DAt wd g (S.fact.2) := h3.keep fd
  have c3 : wd.cell? ⟨g5, 5, none⟩ = some (.slice none 0 0) := hd5.cell 5
  have z3 := hd5.frozen 5
  obtain ⟨w4, hw4⟩ : ∃ w4, wd.setCell ⟨g5, 5, none⟩ (.slice (some ⟨gd, 0, none⟩) 1 1) = w4 := ⟨_, rfl⟩
  have b5 := hd5.set_ 5 (.slice (some ⟨gd, 0, none⟩) 1 1)
  rw [hw4] at b5
  have b4 : Blk w4 g4 58 #[.int .i64 0, .int .i64 0, .string ⟨#[]⟩, .slice none 0 0, .slice none 0 0, .slice none 0 0, .slice none 0 0] := by rw [← hw4]; exact hd4.of (Below.heap_setCell _ _ _ g4 (by have := GS.out; show g4 ≠ g5; omega))
  have h4 : DAt w4 g (S.fact.2) := by rw [← hw4]; exact h3d.of' fun j hj => Below.heap_setCell _ _ _ j (by have := GS.out; have := PG.out j hj; show j ≠ g5; omega)
  have f4 : Fr (DFt g) w w4 := by rw [← hw4]; exact (F3.out.then fd.any).setCell (p := ⟨g5, 5, none⟩) (fun h => absurd h (by have := GS.out; show ¬ g5 < w.heap.size; omega)) _
  have hsame : ∀ j, j ≠ g5 → w4.heap[j]? = wd.heap[j]? := fun j hj => by rw [← hw4]; exact Below.heap_setCell _ _ _ j hj
  have hgd3 : wc.heap.size ≤ gd := by have := S3.out; omega
  have hbd4 : Blk w4 gd 99 #[.slice B1 m1 q1, .slice B2 m2 q2] := hbd.of (hsame gd (by have := GS.out; omega))
  have hsame3 : ∀ j, j < w3.heap.size → j ≠ g5 → w4.heap[j]? = w3.heap[j]? := fun j hj hne => by rw [hsame j hne]; exact fd.block j hj id
  have t4 : ThingAt (fun k => w.heap.size ≤ k ∧ k ≠ g4) w4 (⟨7, 0, [], [], [], [S.fact.1], []⟩) (.slice none 0 0) (.slice none 0 0) (.slice (some ⟨gd, 0, none⟩) 1 1) (.slice none 0 0) := ⟨KB.out, i64_small 0 (by omega), by simp, RowE.nil _ _ _ _ _, RowE.nil _ _ _ _ _, ⟨some ⟨gd, 0, none⟩, 1, rfl, by unfold maxLen; simp, fun _ => ⟨gd, 0, rfl, ⟨by have := GS.out; omega, by have := GS.out; omega⟩, fun j hj => by
      obtain rfl : j = 0 := by simpa using hj
      refine ⟨_, rfl, fun i hi => ?_, ⟨_, _, rfl, (RD.out.of (fun j hj => hsame3 j hj.2 (by have := GS.out; have := hj.1; omega)) fun _ _ h => h).mono (fun k hk => ⟨by have := GS.out; have := hk.1; omega, by have := GS.out; have := hk.1; omega⟩), (RM.out.of (fun j hj => hsame3 j hj.2 (by have := GS.out; have := hj.1; omega)) fun _ _ h => h).mono (fun k hk => ⟨by have := GS.out; have := hk.1; omega, by have := GS.out; have := hk.1; omega⟩)⟩⟩
      have := hbd4.cell i
      simpa using this⟩⟩, RowE.nil _ _ _ _ _⟩
  have HR4 := Lib.hid h4
  have F4 := Lib.hid f4
  have T4 := Lib.hid t4
  have d0 : w4.cell? ⟨g5, 0, none⟩ = some (.int .i64 7) := b5.cell 0
  have d1 : w4.cell? ⟨g5, 1, none⟩ = some (.int .i64 0) := b5.cell 1
  have d2 : w4.cell? ⟨g5, 2, none⟩ = some (.string ⟨#[]⟩) := b5.cell 2
  have d3 : w4.cell? ⟨g5, 3, none⟩ = some (.slice none 0 0) := b5.cell 3
  have d4 : w4.cell? ⟨g5, 4, none⟩ = some (.slice none 0 0) := b5.cell 4
  have d5 : w4.cell? ⟨g5, 5, none⟩ = some (.slice (some ⟨gd, 0, none⟩) 1 1) := b5.cell 5
  have d6 : w4.cell? ⟨g5, 6, none⟩ = some (.slice none 0 0) := b5.cell 6
  have e0 : w4.cell? ⟨g4, 0, none⟩ = some (.int .i64 0) := b4.cell 0
  have e1 : w4.cell? ⟨g4, 1, none⟩ = some (.int .i64 0) := b4.cell 1
  have e2 : w4.cell? ⟨g4, 2, none⟩ = some (.string ⟨#[]⟩) := b4.cell 2
  have e3 : w4.cell? ⟨g4, 3, none⟩ = some (.slice none 0 0) := b4.cell 3
  have e4 : w4.cell? ⟨g4, 4, none⟩ = some (.slice none 0 0) := b4.cell 4
  have e5 : w4.cell? ⟨g4, 5, none⟩ = some (.slice none 0 0) := b4.cell 5
  have e6 : w4.cell? ⟨g4, 6, none⟩ = some (.slice none 0 0) := b4.cell 6
  have y0 := b4.frozen 0
  have y1 := b4.frozen 1
  have y2 := b4.frozen 2
  have y3 := b4.frozen 3
  have y4 := b4.frozen 4
  have y5 := b4.frozen 5
  have y6 := b4.frozen 6
  clear h4 f4 t4 b4 b5 hx4 hx5 f3 h3 h3size hsame hsame3 hbd hbd4 hd5 hd4 h3d fd hgd3 rd rm
  rw [HP.out]
  go_wp2
  refine bodyPost_ret (v := .agg #[.int .i64 7, .int .i64 0, .string ⟨#[]⟩, .slice none 0 0, .slice none 0 0, .slice (some ⟨gd, 0, none⟩) 1 1, .slice none 0 0]) (by simp [results, Try.results31, go_sem, e0, e1, e2, e3, e4, e5, e6]) rfl ?_
  obtain ⟨q1, q2, q3⟩ := dtk_fin GS.out.1 HR4.out PG.out F4.out T4.out (.int .i64 7) (.int .i64 0) (.string ⟨#[]⟩) (.slice none 0 0) (.slice none 0 0) (.slice (some ⟨gd, 0, none⟩) 1 1) (.slice none 0 0)
  exact ⟨_, _, _, _, rfl, q1, q2, q3⟩
end Go.Proofs.Ytjhjcdfhfjeogaa
