/- normal: a thing with what its kind has alone. -/
import Derived.Test.YtcncnponhhcjhaaG3
namespace Go.Proofs.Ytcncnponhhcjhaa
open Go.RowKit Go.Maps
set_option linter.unusedVariables false

theorem ThingAt.mono {K K' : Nat → Prop} {w : World} {t : ThingP} {lv cv fv mv : Value} (h : ThingAt K w t lv cv fv mv) (hk : ∀ k, K k → K' k) : ThingAt K' w t lv cv fv mv :=
  ⟨h.kb, h.nb, h.sb, h.l.mono hk, h.c.mono hk, (h.f.mono hk).of (fun _ _ => rfl) fun x cs hx => by
    obtain ⟨dv, mv, e, h1, h2⟩ := hx
    exact ⟨dv, mv, e, h1.mono hk, h2.mono hk⟩, h.m.mono hk⟩
theorem i64_mod (n : Int) : i64 (n % 256) := by unfold i64; omega
/-- A call that tells a thing, beside what was there. -/
def NPt (B : Nat) (w : World) (t : ThingP) (e : Ending) (w' : World) : Prop :=
  ∃ lv cv fv mv, e = .returned (.agg (tcells t lv cv fv mv).toArray) ∧ ThingAt (fun k => (k < B ∨ w.heap.size ≤ k) ∧ k < w'.heap.size) w' t lv cv fv mv ∧ Below w.heap.size w w'
theorem norm_fin {B : Nat} {w w4 : World} {t : ThingP} {lv cv fv mv : Value} {g4 : Nat} (hg : w.heap.size ≤ g4) (hf : Fr No w w4) (ht : ThingAt (fun k => ((k < B ∨ w.heap.size ≤ k) ∧ k < w4.heap.size) ∧ k ≠ g4) w4 t lv cv fv mv) (u0 u1 u2 u3 u4 u5 u6 : Value) :
    ThingAt (fun k => (k < B ∨ w.heap.size ≤ k) ∧ k < (set7 w4 g4 u0 u1 u2 u3 u4 u5 u6).heap.size) (set7 w4 g4 u0 u1 u2 u3 u4 u5 u6) t lv cv fv mv ∧ Below w.heap.size w (set7 w4 g4 u0 u1 u2 u3 u4 u5 u6) := by
  have h2 := ht.of (w' := set7 w4 g4 u0 u1 u2 u3 u4 u5 u6) fun k hk => set7_heap _ _ _ _ _ _ _ _ _ k hk.2
  have hs : Fr (fun _ => True) w4 (set7 w4 g4 u0 u1 u2 u3 u4 u5 u6) := by
    unfold set7
    exact (((((((Fr.refl _ w4).setCell (p := ⟨g4, 0, none⟩) (fun _ => trivial) _).setCell (p := ⟨g4, 1, none⟩) (fun _ => trivial) _).setCell (p := ⟨g4, 2, none⟩) (fun _ => trivial) _).setCell (p := ⟨g4, 3, none⟩) (fun _ => trivial) _).setCell (p := ⟨g4, 4, none⟩) (fun _ => trivial) _).setCell (p := ⟨g4, 5, none⟩) (fun _ => trivial) _).setCell (p := ⟨g4, 6, none⟩) (fun _ => trivial) _
  refine ⟨h2.mono fun k hk => ⟨hk.1.1, Nat.lt_of_lt_of_le hk.1.2 hs.size⟩, (set7_fr (p := none) hf.any g4 hg _ _ _ _ _ _ _).below_of (Nat.le_refl _) fun k hk => ?_⟩
  exact absurd hk (by unfold RFt; simp)
set_option maxRecDepth 100000 in
set_option maxHeartbeats 4000000 in
theorem norm_0 (B : Nat) (n : Int) (s : List UInt8) (l : List (List UInt8)) (cl : List CellP) (fl : List FactP) (ml : List (List UInt8)) (A1 A2 A3 A4 : Option Addr) (n1 k1 n2 k2 n3 k3 n4 k4 : Nat) (w : World) (hB : B ≤ w.heap.size) (ht : ThingAt (fun k => k < B) w ⟨0, n, s, l, cl, fl, ml⟩ (.slice A1 n1 k1) (.slice A2 n2 k2) (.slice A3 n3 k3) (.slice A4 n4 k4)) :
    Calls Try.prog 24 #[.agg #[.int .i64 0, .int .i64 n, sv s, .slice A1 n1 k1, .slice A2 n2 k2, .slice A3 n3 k3, .slice A4 n4 k4]] w (NPt B w (⟨0, n % 256, [], [], [], [], []⟩)) := by
  obtain ⟨wa, hwa⟩ : ∃ wa, w.alloc (.cells #[.int .i64 0, .int .i64 n, sv s, .slice A1 n1 k1, .slice A2 n2 k2, .slice A3 n3 k3, .slice A4 n4 k4] 58) = wa := ⟨_, rfl⟩
  obtain ⟨wb, hwb⟩ : ∃ wb, wa.alloc (.cells #[.int .i64 0, .int .i64 0, .string ⟨#[]⟩, .slice none 0 0, .slice none 0 0, .slice none 0 0, .slice none 0 0] 58) = wb := ⟨_, rfl⟩
  obtain ⟨wc, hwc⟩ : ∃ wc, wb.alloc (.cells #[.int .i64 0, .int .i64 0, .string ⟨#[]⟩, .slice none 0 0, .slice none 0 0, .slice none 0 0, .slice none 0 0] 58) = wc := ⟨_, rfl⟩
  obtain ⟨gb, hgb⟩ : ∃ gb, w.heap.size = gb := ⟨_, rfl⟩
  obtain ⟨g4, hg4⟩ : ∃ g4, wa.heap.size = g4 := ⟨_, rfl⟩
  obtain ⟨g5, hg5⟩ : ∃ g5, wb.heap.size = g5 := ⟨_, rfl⟩
  have fa : Fr No w wa := by rw [← hwa]; exact (Fr.refl _ w).alloc _
  have fb : Fr No wa wb := by rw [← hwb]; exact (Fr.refl _ wa).alloc _
  have fc : Fr No wb wc := by rw [← hwc]; exact (Fr.refl _ wb).alloc _
  have hb0 : Blk wa gb 58 #[.int .i64 0, .int .i64 n, sv s, .slice A1 n1 k1, .slice A2 n2 k2, .slice A3 n3 k3, .slice A4 n4 k4] := by rw [← hwa, ← hgb]; exact Blk.new w 58 _
  have hb4 : Blk wb g4 58 #[.int .i64 0, .int .i64 0, .string ⟨#[]⟩, .slice none 0 0, .slice none 0 0, .slice none 0 0, .slice none 0 0] := by rw [← hwb, ← hg4]; exact Blk.new wa 58 _
  have hb5 : Blk wc g5 58 #[.int .i64 0, .int .i64 0, .string ⟨#[]⟩, .slice none 0 0, .slice none 0 0, .slice none 0 0, .slice none 0 0] := by rw [← hwc, ← hg5]; exact Blk.new wb 58 _
  have hb4c : Blk wc g4 58 #[.int .i64 0, .int .i64 0, .string ⟨#[]⟩, .slice none 0 0, .slice none 0 0, .slice none 0 0, .slice none 0 0] := hb4.of (fc.block g4 hb4.lt id)
  have hb0c := hb0.of ((fb.then fc).block gb hb0.lt id)
  have fwc : Fr No w wc := (fa.then fb).then fc
  have hgs : w.heap.size ≤ gb ∧ gb < g4 ∧ g4 < g5 ∧ g5 < wc.heap.size := ⟨by omega, by have := hb0.lt; omega, by have := hb4.lt; omega, hb5.lt⟩
  have H0 := Lib.hid hb0c
  have H4 := Lib.hid hb4c
  have H5 := Lib.hid hb5
  have FC := Lib.hid fwc
  have GS := Lib.hid hgs
  have HT := Lib.hid ht
  have HB := Lib.hid hB
  have HWA := Lib.hid hwa
  have HWB := Lib.hid hwb
  have HWC := Lib.hid hwc
  have HGB := Lib.hid hgb
  have HG4 : Hid (gb + 1 = g4) := Lib.hid (by rw [← hg4, ← hwa, ← hgb]; simp)
  have HG5 : Hid (g4 + 1 = g5) := Lib.hid (by rw [← hg5, ← hwb, ← hg4]; simp)
  have hu8 : IntKind.u8.wrap n = n % 256 := by rw [IntKind.wrap_u8]
  have hw64 : wrap64 (n % 256) = n % 256 := IntWalk.wrap64_in _ (by omega)
  clear fa fb fc hb0 hb4 hb5 hb4c hb0c fwc hgs hwa hwb hwc hgb hg4 hg5 ht hB
  go_enter Try.func24, Try.ntmps24
  go_upto_region 6 with fail
  rw [HWA.out, HWB.out, HWC.out, HGB.out, HG4.out, HG5.out]
  have a1 : wc.cell? ⟨gb, 1, none⟩ = some (.int .i64 n) := H0.out.cell 1
  have a2 : wc.cell? ⟨gb, 2, none⟩ = some (sv s) := H0.out.cell 2
  have a3 : wc.cell? ⟨gb, 3, none⟩ = some (.slice A1 n1 k1) := H0.out.cell 3
  have a4 : wc.cell? ⟨gb, 4, none⟩ = some (.slice A2 n2 k2) := H0.out.cell 4
  have a5 : wc.cell? ⟨gb, 5, none⟩ = some (.slice A3 n3 k3) := H0.out.cell 5
  have a6 : wc.cell? ⟨gb, 6, none⟩ = some (.slice A4 n4 k4) := H0.out.cell 6
  have c3 : wc.cell? ⟨g5, 1, none⟩ = some (.int .i64 0) := H5.out.cell 1
  have z3 := H5.out.frozen 1
  obtain ⟨w4, hw4⟩ : ∃ w4, wc.setCell ⟨g5, 1, none⟩ (.int .i64 (n % 256)) = w4 := ⟨_, rfl⟩
  have b5 := H5.out.set_ 1 (.int .i64 (n % 256))
  rw [hw4] at b5
  have f04 : Fr (fun _ => True) wc w4 := by rw [← hw4]; exact (Fr.refl _ wc).setCell (p := ⟨g5, 1, none⟩) (fun _ => trivial) _
  have b4 : Blk w4 g4 58 #[.int .i64 0, .int .i64 0, .string ⟨#[]⟩, .slice none 0 0, .slice none 0 0, .slice none 0 0, .slice none 0 0] := by rw [← hw4]; exact H4.out.of (Below.heap_setCell _ _ _ g4 (by have := GS.out; show g4 ≠ g5; omega))
  have f4 : Fr No w w4 := by rw [← hw4]; exact FC.out.setCell (p := ⟨g5, 1, none⟩) (fun h => absurd h (by have := GS.out; show ¬ g5 < w.heap.size; omega)) _
  have hin : ∀ j, j < B → ((j < B ∨ w.heap.size ≤ j) ∧ j < w4.heap.size) ∧ j ≠ g4 := fun j hj => ⟨⟨Or.inl hj, by have := f4.size; have := HB.out; omega⟩, by have := GS.out; have := HB.out; omega⟩
  have hrw : ∀ j, j < B → w4.heap[j]? = w.heap[j]? := fun j hj => f4.block j (Nat.lt_of_lt_of_le hj HB.out) id
  have t4 : ThingAt (fun k => ((k < B ∨ w.heap.size ≤ k) ∧ k < w4.heap.size) ∧ k ≠ g4) w4 (⟨0, n % 256, [], [], [], [], []⟩) (.slice none 0 0) (.slice none 0 0) (.slice none 0 0) (.slice none 0 0) := nil_thing _ _ _ _ _ HT.out.kb (i64_mod n) (by simp)
  have F4 := Lib.hid f4
  have T4 := Lib.hid t4
  have d0 : w4.cell? ⟨g5, 0, none⟩ = some (.int .i64 0) := b5.cell 0
  have d1 : w4.cell? ⟨g5, 1, none⟩ = some (.int .i64 (n % 256)) := b5.cell 1
  have d2 : w4.cell? ⟨g5, 2, none⟩ = some (.string ⟨#[]⟩) := b5.cell 2
  have d3 : w4.cell? ⟨g5, 3, none⟩ = some (.slice none 0 0) := b5.cell 3
  have d4 : w4.cell? ⟨g5, 4, none⟩ = some (.slice none 0 0) := b5.cell 4
  have d5 : w4.cell? ⟨g5, 5, none⟩ = some (.slice none 0 0) := b5.cell 5
  have d6 : w4.cell? ⟨g5, 6, none⟩ = some (.slice none 0 0) := b5.cell 6
  have e0 : w4.cell? ⟨g4, 0, none⟩ = some (.int .i64 0) := b4.cell 0
  have e1 : w4.cell? ⟨g4, 1, none⟩ = some (.int .i64 0) := b4.cell 1
  have e2 : w4.cell? ⟨g4, 2, none⟩ = some (.string ⟨#[]⟩) := b4.cell 2
  have e3 : w4.cell? ⟨g4, 3, none⟩ = some (.slice none 0 0) := b4.cell 3
  have e4 : w4.cell? ⟨g4, 4, none⟩ = some (.slice none 0 0) := b4.cell 4
  have e5 : w4.cell? ⟨g4, 5, none⟩ = some (.slice none 0 0) := b4.cell 5
  have e6 : w4.cell? ⟨g4, 6, none⟩ = some (.slice none 0 0) := b4.cell 6
  have y0 := b4.frozen 0
  have y1 := b4.frozen 1
  have y2 := b4.frozen 2
  have y3 := b4.frozen 3
  have y4 := b4.frozen 4
  have y5 := b4.frozen 5
  have y6 := b4.frozen 6
  clear f4 t4 b4 b5 f04 hin hrw
  go_wp2
  refine bodyPost_ret (v := .agg #[.int .i64 0, .int .i64 (n % 256), .string ⟨#[]⟩, .slice none 0 0, .slice none 0 0, .slice none 0 0, .slice none 0 0]) (by simp [results, Try.results24, go_sem, e0, e1, e2, e3, e4, e5, e6]) rfl ?_
  obtain ⟨q1, q2⟩ := norm_fin (by have := GS.out; omega) F4.out T4.out (.int .i64 0) (.int .i64 (n % 256)) (.string ⟨#[]⟩) (.slice none 0 0) (.slice none 0 0) (.slice none 0 0) (.slice none 0 0)
  exact ⟨_, _, _, _, rfl, q1, q2⟩
set_option maxRecDepth 100000 in
set_option maxHeartbeats 4000000 in
theorem norm_1 (B : Nat) (n : Int) (s : List UInt8) (l : List (List UInt8)) (cl : List CellP) (fl : List FactP) (ml : List (List UInt8)) (A1 A2 A3 A4 : Option Addr) (n1 k1 n2 k2 n3 k3 n4 k4 : Nat) (w : World) (hB : B ≤ w.heap.size) (ht : ThingAt (fun k => k < B) w ⟨1, n, s, l, cl, fl, ml⟩ (.slice A1 n1 k1) (.slice A2 n2 k2) (.slice A3 n3 k3) (.slice A4 n4 k4)) :
    Calls Try.prog 24 #[.agg #[.int .i64 1, .int .i64 n, sv s, .slice A1 n1 k1, .slice A2 n2 k2, .slice A3 n3 k3, .slice A4 n4 k4]] w (NPt B w (⟨1, n, [], [], [], [], []⟩)) := by
  obtain ⟨wa, hwa⟩ : ∃ wa, w.alloc (.cells #[.int .i64 1, .int .i64 n, sv s, .slice A1 n1 k1, .slice A2 n2 k2, .slice A3 n3 k3, .slice A4 n4 k4] 58) = wa := ⟨_, rfl⟩
  obtain ⟨wb, hwb⟩ : ∃ wb, wa.alloc (.cells #[.int .i64 0, .int .i64 0, .string ⟨#[]⟩, .slice none 0 0, .slice none 0 0, .slice none 0 0, .slice none 0 0] 58) = wb := ⟨_, rfl⟩
  obtain ⟨wc, hwc⟩ : ∃ wc, wb.alloc (.cells #[.int .i64 1, .int .i64 0, .string ⟨#[]⟩, .slice none 0 0, .slice none 0 0, .slice none 0 0, .slice none 0 0] 58) = wc := ⟨_, rfl⟩
  obtain ⟨gb, hgb⟩ : ∃ gb, w.heap.size = gb := ⟨_, rfl⟩
  obtain ⟨g4, hg4⟩ : ∃ g4, wa.heap.size = g4 := ⟨_, rfl⟩
  obtain ⟨g5, hg5⟩ : ∃ g5, wb.heap.size = g5 := ⟨_, rfl⟩
  have fa : Fr No w wa := by rw [← hwa]; exact (Fr.refl _ w).alloc _
  have fb : Fr No wa wb := by rw [← hwb]; exact (Fr.refl _ wa).alloc _
  have fc : Fr No wb wc := by rw [← hwc]; exact (Fr.refl _ wb).alloc _
  have hb0 : Blk wa gb 58 #[.int .i64 1, .int .i64 n, sv s, .slice A1 n1 k1, .slice A2 n2 k2, .slice A3 n3 k3, .slice A4 n4 k4] := by rw [← hwa, ← hgb]; exact Blk.new w 58 _
  have hb4 : Blk wb g4 58 #[.int .i64 0, .int .i64 0, .string ⟨#[]⟩, .slice none 0 0, .slice none 0 0, .slice none 0 0, .slice none 0 0] := by rw [← hwb, ← hg4]; exact Blk.new wa 58 _
  have hb5 : Blk wc g5 58 #[.int .i64 1, .int .i64 0, .string ⟨#[]⟩, .slice none 0 0, .slice none 0 0, .slice none 0 0, .slice none 0 0] := by rw [← hwc, ← hg5]; exact Blk.new wb 58 _
  have hb4c : Blk wc g4 58 #[.int .i64 0, .int .i64 0, .string ⟨#[]⟩, .slice none 0 0, .slice none 0 0, .slice none 0 0, .slice none 0 0] := hb4.of (fc.block g4 hb4.lt id)
  have hb0c := hb0.of ((fb.then fc).block gb hb0.lt id)
  have fwc : Fr No w wc := (fa.then fb).then fc
  have hgs : w.heap.size ≤ gb ∧ gb < g4 ∧ g4 < g5 ∧ g5 < wc.heap.size := ⟨by omega, by have := hb0.lt; omega, by have := hb4.lt; omega, hb5.lt⟩
  have H0 := Lib.hid hb0c
  have H4 := Lib.hid hb4c
  have H5 := Lib.hid hb5
  have FC := Lib.hid fwc
  have GS := Lib.hid hgs
  have HT := Lib.hid ht
  have HB := Lib.hid hB
  have HWA := Lib.hid hwa
  have HWB := Lib.hid hwb
  have HWC := Lib.hid hwc
  have HGB := Lib.hid hgb
  have HG4 : Hid (gb + 1 = g4) := Lib.hid (by rw [← hg4, ← hwa, ← hgb]; simp)
  have HG5 : Hid (g4 + 1 = g5) := Lib.hid (by rw [← hg5, ← hwb, ← hg4]; simp)
  clear fa fb fc hb0 hb4 hb5 hb4c hb0c fwc hgs hwa hwb hwc hgb hg4 hg5 ht hB
  go_enter Try.func24, Try.ntmps24
  go_upto_region 9 with fail
  rw [HWA.out, HWB.out, HWC.out, HGB.out, HG4.out, HG5.out]
  have a1 : wc.cell? ⟨gb, 1, none⟩ = some (.int .i64 n) := H0.out.cell 1
  have a2 : wc.cell? ⟨gb, 2, none⟩ = some (sv s) := H0.out.cell 2
  have a3 : wc.cell? ⟨gb, 3, none⟩ = some (.slice A1 n1 k1) := H0.out.cell 3
  have a4 : wc.cell? ⟨gb, 4, none⟩ = some (.slice A2 n2 k2) := H0.out.cell 4
  have a5 : wc.cell? ⟨gb, 5, none⟩ = some (.slice A3 n3 k3) := H0.out.cell 5
  have a6 : wc.cell? ⟨gb, 6, none⟩ = some (.slice A4 n4 k4) := H0.out.cell 6
  have c3 : wc.cell? ⟨g5, 1, none⟩ = some (.int .i64 0) := H5.out.cell 1
  have z3 := H5.out.frozen 1
  obtain ⟨w4, hw4⟩ : ∃ w4, wc.setCell ⟨g5, 1, none⟩ (.int .i64 n) = w4 := ⟨_, rfl⟩
  have b5 := H5.out.set_ 1 (.int .i64 n)
  rw [hw4] at b5
  have f04 : Fr (fun _ => True) wc w4 := by rw [← hw4]; exact (Fr.refl _ wc).setCell (p := ⟨g5, 1, none⟩) (fun _ => trivial) _
  have b4 : Blk w4 g4 58 #[.int .i64 0, .int .i64 0, .string ⟨#[]⟩, .slice none 0 0, .slice none 0 0, .slice none 0 0, .slice none 0 0] := by rw [← hw4]; exact H4.out.of (Below.heap_setCell _ _ _ g4 (by have := GS.out; show g4 ≠ g5; omega))
  have f4 : Fr No w w4 := by rw [← hw4]; exact FC.out.setCell (p := ⟨g5, 1, none⟩) (fun h => absurd h (by have := GS.out; show ¬ g5 < w.heap.size; omega)) _
  have hin : ∀ j, j < B → ((j < B ∨ w.heap.size ≤ j) ∧ j < w4.heap.size) ∧ j ≠ g4 := fun j hj => ⟨⟨Or.inl hj, by have := f4.size; have := HB.out; omega⟩, by have := GS.out; have := HB.out; omega⟩
  have hrw : ∀ j, j < B → w4.heap[j]? = w.heap[j]? := fun j hj => f4.block j (Nat.lt_of_lt_of_le hj HB.out) id
  have t4 : ThingAt (fun k => ((k < B ∨ w.heap.size ≤ k) ∧ k < w4.heap.size) ∧ k ≠ g4) w4 (⟨1, n, [], [], [], [], []⟩) (.slice none 0 0) (.slice none 0 0) (.slice none 0 0) (.slice none 0 0) := nil_thing _ _ _ _ _ HT.out.kb HT.out.nb (by simp)
  have F4 := Lib.hid f4
  have T4 := Lib.hid t4
  have d0 : w4.cell? ⟨g5, 0, none⟩ = some (.int .i64 1) := b5.cell 0
  have d1 : w4.cell? ⟨g5, 1, none⟩ = some (.int .i64 n) := b5.cell 1
  have d2 : w4.cell? ⟨g5, 2, none⟩ = some (.string ⟨#[]⟩) := b5.cell 2
  have d3 : w4.cell? ⟨g5, 3, none⟩ = some (.slice none 0 0) := b5.cell 3
  have d4 : w4.cell? ⟨g5, 4, none⟩ = some (.slice none 0 0) := b5.cell 4
  have d5 : w4.cell? ⟨g5, 5, none⟩ = some (.slice none 0 0) := b5.cell 5
  have d6 : w4.cell? ⟨g5, 6, none⟩ = some (.slice none 0 0) := b5.cell 6
  have e0 : w4.cell? ⟨g4, 0, none⟩ = some (.int .i64 0) := b4.cell 0
  have e1 : w4.cell? ⟨g4, 1, none⟩ = some (.int .i64 0) := b4.cell 1
  have e2 : w4.cell? ⟨g4, 2, none⟩ = some (.string ⟨#[]⟩) := b4.cell 2
  have e3 : w4.cell? ⟨g4, 3, none⟩ = some (.slice none 0 0) := b4.cell 3
  have e4 : w4.cell? ⟨g4, 4, none⟩ = some (.slice none 0 0) := b4.cell 4
  have e5 : w4.cell? ⟨g4, 5, none⟩ = some (.slice none 0 0) := b4.cell 5
  have e6 : w4.cell? ⟨g4, 6, none⟩ = some (.slice none 0 0) := b4.cell 6
  have y0 := b4.frozen 0
  have y1 := b4.frozen 1
  have y2 := b4.frozen 2
  have y3 := b4.frozen 3
  have y4 := b4.frozen 4
  have y5 := b4.frozen 5
  have y6 := b4.frozen 6
  clear f4 t4 b4 b5 f04 hin hrw
  go_wp2
  refine bodyPost_ret (v := .agg #[.int .i64 1, .int .i64 n, .string ⟨#[]⟩, .slice none 0 0, .slice none 0 0, .slice none 0 0, .slice none 0 0]) (by simp [results, Try.results24, go_sem, e0, e1, e2, e3, e4, e5, e6]) rfl ?_
  obtain ⟨q1, q2⟩ := norm_fin (by have := GS.out; omega) F4.out T4.out (.int .i64 1) (.int .i64 n) (.string ⟨#[]⟩) (.slice none 0 0) (.slice none 0 0) (.slice none 0 0) (.slice none 0 0)
  exact ⟨_, _, _, _, rfl, q1, q2⟩
set_option maxRecDepth 100000 in
set_option maxHeartbeats 4000000 in
theorem norm_2 (B : Nat) (n : Int) (s : List UInt8) (l : List (List UInt8)) (cl : List CellP) (fl : List FactP) (ml : List (List UInt8)) (A1 A2 A3 A4 : Option Addr) (n1 k1 n2 k2 n3 k3 n4 k4 : Nat) (w : World) (hB : B ≤ w.heap.size) (ht : ThingAt (fun k => k < B) w ⟨2, n, s, l, cl, fl, ml⟩ (.slice A1 n1 k1) (.slice A2 n2 k2) (.slice A3 n3 k3) (.slice A4 n4 k4)) :
    Calls Try.prog 24 #[.agg #[.int .i64 2, .int .i64 n, sv s, .slice A1 n1 k1, .slice A2 n2 k2, .slice A3 n3 k3, .slice A4 n4 k4]] w (NPt B w (⟨2, n, [], [], [], [], []⟩)) := by
  obtain ⟨wa, hwa⟩ : ∃ wa, w.alloc (.cells #[.int .i64 2, .int .i64 n, sv s, .slice A1 n1 k1, .slice A2 n2 k2, .slice A3 n3 k3, .slice A4 n4 k4] 58) = wa := ⟨_, rfl⟩
  obtain ⟨wb, hwb⟩ : ∃ wb, wa.alloc (.cells #[.int .i64 0, .int .i64 0, .string ⟨#[]⟩, .slice none 0 0, .slice none 0 0, .slice none 0 0, .slice none 0 0] 58) = wb := ⟨_, rfl⟩
  obtain ⟨wc, hwc⟩ : ∃ wc, wb.alloc (.cells #[.int .i64 2, .int .i64 0, .string ⟨#[]⟩, .slice none 0 0, .slice none 0 0, .slice none 0 0, .slice none 0 0] 58) = wc := ⟨_, rfl⟩
  obtain ⟨gb, hgb⟩ : ∃ gb, w.heap.size = gb := ⟨_, rfl⟩
  obtain ⟨g4, hg4⟩ : ∃ g4, wa.heap.size = g4 := ⟨_, rfl⟩
  obtain ⟨g5, hg5⟩ : ∃ g5, wb.heap.size = g5 := ⟨_, rfl⟩
  have fa : Fr No w wa := by rw [← hwa]; exact (Fr.refl _ w).alloc _
  have fb : Fr No wa wb := by rw [← hwb]; exact (Fr.refl _ wa).alloc _
  have fc : Fr No wb wc := by rw [← hwc]; exact (Fr.refl _ wb).alloc _
  have hb0 : Blk wa gb 58 #[.int .i64 2, .int .i64 n, sv s, .slice A1 n1 k1, .slice A2 n2 k2, .slice A3 n3 k3, .slice A4 n4 k4] := by rw [← hwa, ← hgb]; exact Blk.new w 58 _
  have hb4 : Blk wb g4 58 #[.int .i64 0, .int .i64 0, .string ⟨#[]⟩, .slice none 0 0, .slice none 0 0, .slice none 0 0, .slice none 0 0] := by rw [← hwb, ← hg4]; exact Blk.new wa 58 _
  have hb5 : Blk wc g5 58 #[.int .i64 2, .int .i64 0, .string ⟨#[]⟩, .slice none 0 0, .slice none 0 0, .slice none 0 0, .slice none 0 0] := by rw [← hwc, ← hg5]; exact Blk.new wb 58 _
  have hb4c : Blk wc g4 58 #[.int .i64 0, .int .i64 0, .string ⟨#[]⟩, .slice none 0 0, .slice none 0 0, .slice none 0 0, .slice none 0 0] := hb4.of (fc.block g4 hb4.lt id)
  have hb0c := hb0.of ((fb.then fc).block gb hb0.lt id)
  have fwc : Fr No w wc := (fa.then fb).then fc
  have hgs : w.heap.size ≤ gb ∧ gb < g4 ∧ g4 < g5 ∧ g5 < wc.heap.size := ⟨by omega, by have := hb0.lt; omega, by have := hb4.lt; omega, hb5.lt⟩
  have H0 := Lib.hid hb0c
  have H4 := Lib.hid hb4c
  have H5 := Lib.hid hb5
  have FC := Lib.hid fwc
  have GS := Lib.hid hgs
  have HT := Lib.hid ht
  have HB := Lib.hid hB
  have HWA := Lib.hid hwa
  have HWB := Lib.hid hwb
  have HWC := Lib.hid hwc
  have HGB := Lib.hid hgb
  have HG4 : Hid (gb + 1 = g4) := Lib.hid (by rw [← hg4, ← hwa, ← hgb]; simp)
  have HG5 : Hid (g4 + 1 = g5) := Lib.hid (by rw [← hg5, ← hwb, ← hg4]; simp)
  clear fa fb fc hb0 hb4 hb5 hb4c hb0c fwc hgs hwa hwb hwc hgb hg4 hg5 ht hB
  go_enter Try.func24, Try.ntmps24
  go_upto_region 9 with fail
  rw [HWA.out, HWB.out, HWC.out, HGB.out, HG4.out, HG5.out]
  have a1 : wc.cell? ⟨gb, 1, none⟩ = some (.int .i64 n) := H0.out.cell 1
  have a2 : wc.cell? ⟨gb, 2, none⟩ = some (sv s) := H0.out.cell 2
  have a3 : wc.cell? ⟨gb, 3, none⟩ = some (.slice A1 n1 k1) := H0.out.cell 3
  have a4 : wc.cell? ⟨gb, 4, none⟩ = some (.slice A2 n2 k2) := H0.out.cell 4
  have a5 : wc.cell? ⟨gb, 5, none⟩ = some (.slice A3 n3 k3) := H0.out.cell 5
  have a6 : wc.cell? ⟨gb, 6, none⟩ = some (.slice A4 n4 k4) := H0.out.cell 6
  have c3 : wc.cell? ⟨g5, 1, none⟩ = some (.int .i64 0) := H5.out.cell 1
  have z3 := H5.out.frozen 1
  obtain ⟨w4, hw4⟩ : ∃ w4, wc.setCell ⟨g5, 1, none⟩ (.int .i64 n) = w4 := ⟨_, rfl⟩
  have b5 := H5.out.set_ 1 (.int .i64 n)
  rw [hw4] at b5
  have f04 : Fr (fun _ => True) wc w4 := by rw [← hw4]; exact (Fr.refl _ wc).setCell (p := ⟨g5, 1, none⟩) (fun _ => trivial) _
  have b4 : Blk w4 g4 58 #[.int .i64 0, .int .i64 0, .string ⟨#[]⟩, .slice none 0 0, .slice none 0 0, .slice none 0 0, .slice none 0 0] := by rw [← hw4]; exact H4.out.of (Below.heap_setCell _ _ _ g4 (by have := GS.out; show g4 ≠ g5; omega))
  have f4 : Fr No w w4 := by rw [← hw4]; exact FC.out.setCell (p := ⟨g5, 1, none⟩) (fun h => absurd h (by have := GS.out; show ¬ g5 < w.heap.size; omega)) _
  have hin : ∀ j, j < B → ((j < B ∨ w.heap.size ≤ j) ∧ j < w4.heap.size) ∧ j ≠ g4 := fun j hj => ⟨⟨Or.inl hj, by have := f4.size; have := HB.out; omega⟩, by have := GS.out; have := HB.out; omega⟩
  have hrw : ∀ j, j < B → w4.heap[j]? = w.heap[j]? := fun j hj => f4.block j (Nat.lt_of_lt_of_le hj HB.out) id
  have t4 : ThingAt (fun k => ((k < B ∨ w.heap.size ≤ k) ∧ k < w4.heap.size) ∧ k ≠ g4) w4 (⟨2, n, [], [], [], [], []⟩) (.slice none 0 0) (.slice none 0 0) (.slice none 0 0) (.slice none 0 0) := nil_thing _ _ _ _ _ HT.out.kb HT.out.nb (by simp)
  have F4 := Lib.hid f4
  have T4 := Lib.hid t4
  have d0 : w4.cell? ⟨g5, 0, none⟩ = some (.int .i64 2) := b5.cell 0
  have d1 : w4.cell? ⟨g5, 1, none⟩ = some (.int .i64 n) := b5.cell 1
  have d2 : w4.cell? ⟨g5, 2, none⟩ = some (.string ⟨#[]⟩) := b5.cell 2
  have d3 : w4.cell? ⟨g5, 3, none⟩ = some (.slice none 0 0) := b5.cell 3
  have d4 : w4.cell? ⟨g5, 4, none⟩ = some (.slice none 0 0) := b5.cell 4
  have d5 : w4.cell? ⟨g5, 5, none⟩ = some (.slice none 0 0) := b5.cell 5
  have d6 : w4.cell? ⟨g5, 6, none⟩ = some (.slice none 0 0) := b5.cell 6
  have e0 : w4.cell? ⟨g4, 0, none⟩ = some (.int .i64 0) := b4.cell 0
  have e1 : w4.cell? ⟨g4, 1, none⟩ = some (.int .i64 0) := b4.cell 1
  have e2 : w4.cell? ⟨g4, 2, none⟩ = some (.string ⟨#[]⟩) := b4.cell 2
  have e3 : w4.cell? ⟨g4, 3, none⟩ = some (.slice none 0 0) := b4.cell 3
  have e4 : w4.cell? ⟨g4, 4, none⟩ = some (.slice none 0 0) := b4.cell 4
  have e5 : w4.cell? ⟨g4, 5, none⟩ = some (.slice none 0 0) := b4.cell 5
  have e6 : w4.cell? ⟨g4, 6, none⟩ = some (.slice none 0 0) := b4.cell 6
  have y0 := b4.frozen 0
  have y1 := b4.frozen 1
  have y2 := b4.frozen 2
  have y3 := b4.frozen 3
  have y4 := b4.frozen 4
  have y5 := b4.frozen 5
  have y6 := b4.frozen 6
  clear f4 t4 b4 b5 f04 hin hrw
  go_wp2
  refine bodyPost_ret (v := .agg #[.int .i64 2, .int .i64 n, .string ⟨#[]⟩, .slice none 0 0, .slice none 0 0, .slice none 0 0, .slice none 0 0]) (by simp [results, Try.results24, go_sem, e0, e1, e2, e3, e4, e5, e6]) rfl ?_
  obtain ⟨q1, q2⟩ := norm_fin (by have := GS.out; omega) F4.out T4.out (.int .i64 2) (.int .i64 n) (.string ⟨#[]⟩) (.slice none 0 0) (.slice none 0 0) (.slice none 0 0) (.slice none 0 0)
  exact ⟨_, _, _, _, rfl, q1, q2⟩
set_option maxRecDepth 100000 in
set_option maxHeartbeats 4000000 in
theorem norm_3 (B : Nat) (n : Int) (s : List UInt8) (l : List (List UInt8)) (cl : List CellP) (fl : List FactP) (ml : List (List UInt8)) (A1 A2 A3 A4 : Option Addr) (n1 k1 n2 k2 n3 k3 n4 k4 : Nat) (w : World) (hB : B ≤ w.heap.size) (ht : ThingAt (fun k => k < B) w ⟨3, n, s, l, cl, fl, ml⟩ (.slice A1 n1 k1) (.slice A2 n2 k2) (.slice A3 n3 k3) (.slice A4 n4 k4)) :
    Calls Try.prog 24 #[.agg #[.int .i64 3, .int .i64 n, sv s, .slice A1 n1 k1, .slice A2 n2 k2, .slice A3 n3 k3, .slice A4 n4 k4]] w (NPt B w (⟨3, 0, s, [], [], [], []⟩)) := by
  obtain ⟨wa, hwa⟩ : ∃ wa, w.alloc (.cells #[.int .i64 3, .int .i64 n, sv s, .slice A1 n1 k1, .slice A2 n2 k2, .slice A3 n3 k3, .slice A4 n4 k4] 58) = wa := ⟨_, rfl⟩
  obtain ⟨wb, hwb⟩ : ∃ wb, wa.alloc (.cells #[.int .i64 0, .int .i64 0, .string ⟨#[]⟩, .slice none 0 0, .slice none 0 0, .slice none 0 0, .slice none 0 0] 58) = wb := ⟨_, rfl⟩
  obtain ⟨wc, hwc⟩ : ∃ wc, wb.alloc (.cells #[.int .i64 3, .int .i64 0, .string ⟨#[]⟩, .slice none 0 0, .slice none 0 0, .slice none 0 0, .slice none 0 0] 58) = wc := ⟨_, rfl⟩
  obtain ⟨gb, hgb⟩ : ∃ gb, w.heap.size = gb := ⟨_, rfl⟩
  obtain ⟨g4, hg4⟩ : ∃ g4, wa.heap.size = g4 := ⟨_, rfl⟩
  obtain ⟨g5, hg5⟩ : ∃ g5, wb.heap.size = g5 := ⟨_, rfl⟩
  have fa : Fr No w wa := by rw [← hwa]; exact (Fr.refl _ w).alloc _
  have fb : Fr No wa wb := by rw [← hwb]; exact (Fr.refl _ wa).alloc _
  have fc : Fr No wb wc := by rw [← hwc]; exact (Fr.refl _ wb).alloc _
  have hb0 : Blk wa gb 58 #[.int .i64 3, .int .i64 n, sv s, .slice A1 n1 k1, .slice A2 n2 k2, .slice A3 n3 k3, .slice A4 n4 k4] := by rw [← hwa, ← hgb]; exact Blk.new w 58 _
  have hb4 : Blk wb g4 58 #[.int .i64 0, .int .i64 0, .string ⟨#[]⟩, .slice none 0 0, .slice none 0 0, .slice none 0 0, .slice none 0 0] := by rw [← hwb, ← hg4]; exact Blk.new wa 58 _
  have hb5 : Blk wc g5 58 #[.int .i64 3, .int .i64 0, .string ⟨#[]⟩, .slice none 0 0, .slice none 0 0, .slice none 0 0, .slice none 0 0] := by rw [← hwc, ← hg5]; exact Blk.new wb 58 _
  have hb4c : Blk wc g4 58 #[.int .i64 0, .int .i64 0, .string ⟨#[]⟩, .slice none 0 0, .slice none 0 0, .slice none 0 0, .slice none 0 0] := hb4.of (fc.block g4 hb4.lt id)
  have hb0c := hb0.of ((fb.then fc).block gb hb0.lt id)
  have fwc : Fr No w wc := (fa.then fb).then fc
  have hgs : w.heap.size ≤ gb ∧ gb < g4 ∧ g4 < g5 ∧ g5 < wc.heap.size := ⟨by omega, by have := hb0.lt; omega, by have := hb4.lt; omega, hb5.lt⟩
  have H0 := Lib.hid hb0c
  have H4 := Lib.hid hb4c
  have H5 := Lib.hid hb5
  have FC := Lib.hid fwc
  have GS := Lib.hid hgs
  have HT := Lib.hid ht
  have HB := Lib.hid hB
  have HWA := Lib.hid hwa
  have HWB := Lib.hid hwb
  have HWC := Lib.hid hwc
  have HGB := Lib.hid hgb
  have HG4 : Hid (gb + 1 = g4) := Lib.hid (by rw [← hg4, ← hwa, ← hgb]; simp)
  have HG5 : Hid (g4 + 1 = g5) := Lib.hid (by rw [← hg5, ← hwb, ← hg4]; simp)
  clear fa fb fc hb0 hb4 hb5 hb4c hb0c fwc hgs hwa hwb hwc hgb hg4 hg5 ht hB
  go_enter Try.func24, Try.ntmps24
  go_upto_region 11 with fail
  rw [HWA.out, HWB.out, HWC.out, HGB.out, HG4.out, HG5.out]
  have a1 : wc.cell? ⟨gb, 1, none⟩ = some (.int .i64 n) := H0.out.cell 1
  have a2 : wc.cell? ⟨gb, 2, none⟩ = some (sv s) := H0.out.cell 2
  have a3 : wc.cell? ⟨gb, 3, none⟩ = some (.slice A1 n1 k1) := H0.out.cell 3
  have a4 : wc.cell? ⟨gb, 4, none⟩ = some (.slice A2 n2 k2) := H0.out.cell 4
  have a5 : wc.cell? ⟨gb, 5, none⟩ = some (.slice A3 n3 k3) := H0.out.cell 5
  have a6 : wc.cell? ⟨gb, 6, none⟩ = some (.slice A4 n4 k4) := H0.out.cell 6
  have c3 : wc.cell? ⟨g5, 2, none⟩ = some (.string ⟨#[]⟩) := H5.out.cell 2
  have z3 := H5.out.frozen 2
  obtain ⟨w4, hw4⟩ : ∃ w4, wc.setCell ⟨g5, 2, none⟩ (sv s) = w4 := ⟨_, rfl⟩
  have b5 := H5.out.set_ 2 (sv s)
  rw [hw4] at b5
  have f04 : Fr (fun _ => True) wc w4 := by rw [← hw4]; exact (Fr.refl _ wc).setCell (p := ⟨g5, 2, none⟩) (fun _ => trivial) _
  have b4 : Blk w4 g4 58 #[.int .i64 0, .int .i64 0, .string ⟨#[]⟩, .slice none 0 0, .slice none 0 0, .slice none 0 0, .slice none 0 0] := by rw [← hw4]; exact H4.out.of (Below.heap_setCell _ _ _ g4 (by have := GS.out; show g4 ≠ g5; omega))
  have f4 : Fr No w w4 := by rw [← hw4]; exact FC.out.setCell (p := ⟨g5, 2, none⟩) (fun h => absurd h (by have := GS.out; show ¬ g5 < w.heap.size; omega)) _
  have hin : ∀ j, j < B → ((j < B ∨ w.heap.size ≤ j) ∧ j < w4.heap.size) ∧ j ≠ g4 := fun j hj => ⟨⟨Or.inl hj, by have := f4.size; have := HB.out; omega⟩, by have := GS.out; have := HB.out; omega⟩
  have hrw : ∀ j, j < B → w4.heap[j]? = w.heap[j]? := fun j hj => f4.block j (Nat.lt_of_lt_of_le hj HB.out) id
  have t4 : ThingAt (fun k => ((k < B ∨ w.heap.size ≤ k) ∧ k < w4.heap.size) ∧ k ≠ g4) w4 (⟨3, 0, s, [], [], [], []⟩) (.slice none 0 0) (.slice none 0 0) (.slice none 0 0) (.slice none 0 0) := nil_thing _ _ _ _ _ HT.out.kb (i64_small 0 (by omega)) HT.out.sb
  have F4 := Lib.hid f4
  have T4 := Lib.hid t4
  have d0 : w4.cell? ⟨g5, 0, none⟩ = some (.int .i64 3) := b5.cell 0
  have d1 : w4.cell? ⟨g5, 1, none⟩ = some (.int .i64 0) := b5.cell 1
  have d2 : w4.cell? ⟨g5, 2, none⟩ = some (sv s) := b5.cell 2
  have d3 : w4.cell? ⟨g5, 3, none⟩ = some (.slice none 0 0) := b5.cell 3
  have d4 : w4.cell? ⟨g5, 4, none⟩ = some (.slice none 0 0) := b5.cell 4
  have d5 : w4.cell? ⟨g5, 5, none⟩ = some (.slice none 0 0) := b5.cell 5
  have d6 : w4.cell? ⟨g5, 6, none⟩ = some (.slice none 0 0) := b5.cell 6
  have e0 : w4.cell? ⟨g4, 0, none⟩ = some (.int .i64 0) := b4.cell 0
  have e1 : w4.cell? ⟨g4, 1, none⟩ = some (.int .i64 0) := b4.cell 1
  have e2 : w4.cell? ⟨g4, 2, none⟩ = some (.string ⟨#[]⟩) := b4.cell 2
  have e3 : w4.cell? ⟨g4, 3, none⟩ = some (.slice none 0 0) := b4.cell 3
  have e4 : w4.cell? ⟨g4, 4, none⟩ = some (.slice none 0 0) := b4.cell 4
  have e5 : w4.cell? ⟨g4, 5, none⟩ = some (.slice none 0 0) := b4.cell 5
  have e6 : w4.cell? ⟨g4, 6, none⟩ = some (.slice none 0 0) := b4.cell 6
  have y0 := b4.frozen 0
  have y1 := b4.frozen 1
  have y2 := b4.frozen 2
  have y3 := b4.frozen 3
  have y4 := b4.frozen 4
  have y5 := b4.frozen 5
  have y6 := b4.frozen 6
  clear f4 t4 b4 b5 f04 hin hrw
  go_wp2
  refine bodyPost_ret (v := .agg #[.int .i64 3, .int .i64 0, sv s, .slice none 0 0, .slice none 0 0, .slice none 0 0, .slice none 0 0]) (by simp [results, Try.results24, go_sem, e0, e1, e2, e3, e4, e5, e6]) rfl ?_
  obtain ⟨q1, q2⟩ := norm_fin (by have := GS.out; omega) F4.out T4.out (.int .i64 3) (.int .i64 0) (sv s) (.slice none 0 0) (.slice none 0 0) (.slice none 0 0) (.slice none 0 0)
  exact ⟨_, _, _, _, rfl, q1, q2⟩
set_option maxRecDepth 100000 in
set_option maxHeartbeats 4000000 in
theorem norm_4 (B : Nat) (n : Int) (s : List UInt8) (l : List (List UInt8)) (cl : List CellP) (fl : List FactP) (ml : List (List UInt8)) (A1 A2 A3 A4 : Option Addr) (n1 k1 n2 k2 n3 k3 n4 k4 : Nat) (w : World) (hB : B ≤ w.heap.size) (ht : ThingAt (fun k => k < B) w ⟨4, n, s, l, cl, fl, ml⟩ (.slice A1 n1 k1) (.slice A2 n2 k2) (.slice A3 n3 k3) (.slice A4 n4 k4)) :
    Calls Try.prog 24 #[.agg #[.int .i64 4, .int .i64 n, sv s, .slice A1 n1 k1, .slice A2 n2 k2, .slice A3 n3 k3, .slice A4 n4 k4]] w (NPt B w (⟨4, 0, [], l, [], [], []⟩)) := by
  obtain ⟨wa, hwa⟩ : ∃ wa, w.alloc (.cells #[.int .i64 4, .int .i64 n, sv s, .slice A1 n1 k1, .slice A2 n2 k2, .slice A3 n3 k3, .slice A4 n4 k4] 58) = wa := ⟨_, rfl⟩
  obtain ⟨wb, hwb⟩ : ∃ wb, wa.alloc (.cells #[.int .i64 0, .int .i64 0, .string ⟨#[]⟩, .slice none 0 0, .slice none 0 0, .slice none 0 0, .slice none 0 0] 58) = wb := ⟨_, rfl⟩
  obtain ⟨wc, hwc⟩ : ∃ wc, wb.alloc (.cells #[.int .i64 4, .int .i64 0, .string ⟨#[]⟩, .slice none 0 0, .slice none 0 0, .slice none 0 0, .slice none 0 0] 58) = wc := ⟨_, rfl⟩
  obtain ⟨gb, hgb⟩ : ∃ gb, w.heap.size = gb := ⟨_, rfl⟩
  obtain ⟨g4, hg4⟩ : ∃ g4, wa.heap.size = g4 := ⟨_, rfl⟩
  obtain ⟨g5, hg5⟩ : ∃ g5, wb.heap.size = g5 := ⟨_, rfl⟩
  have fa : Fr No w wa := by rw [← hwa]; exact (Fr.refl _ w).alloc _
  have fb : Fr No wa wb := by rw [← hwb]; exact (Fr.refl _ wa).alloc _
  have fc : Fr No wb wc := by rw [← hwc]; exact (Fr.refl _ wb).alloc _
  have hb0 : Blk wa gb 58 #[.int .i64 4, .int .i64 n, sv s, .slice A1 n1 k1, .slice A2 n2 k2, .slice A3 n3 k3, .slice A4 n4 k4] := by rw [← hwa, ← hgb]; exact Blk.new w 58 _
  have hb4 : Blk wb g4 58 #[.int .i64 0, .int .i64 0, .string ⟨#[]⟩, .slice none 0 0, .slice none 0 0, .slice none 0 0, .slice none 0 0] := by rw [← hwb, ← hg4]; exact Blk.new wa 58 _
  have hb5 : Blk wc g5 58 #[.int .i64 4, .int .i64 0, .string ⟨#[]⟩, .slice none 0 0, .slice none 0 0, .slice none 0 0, .slice none 0 0] := by rw [← hwc, ← hg5]; exact Blk.new wb 58 _
  have hb4c : Blk wc g4 58 #[.int .i64 0, .int .i64 0, .string ⟨#[]⟩, .slice none 0 0, .slice none 0 0, .slice none 0 0, .slice none 0 0] := hb4.of (fc.block g4 hb4.lt id)
  have hb0c := hb0.of ((fb.then fc).block gb hb0.lt id)
  have fwc : Fr No w wc := (fa.then fb).then fc
  have hgs : w.heap.size ≤ gb ∧ gb < g4 ∧ g4 < g5 ∧ g5 < wc.heap.size := ⟨by omega, by have := hb0.lt; omega, by have := hb4.lt; omega, hb5.lt⟩
  have H0 := Lib.hid hb0c
  have H4 := Lib.hid hb4c
  have H5 := Lib.hid hb5
  have FC := Lib.hid fwc
  have GS := Lib.hid hgs
  have HT := Lib.hid ht
  have HB := Lib.hid hB
  have HWA := Lib.hid hwa
  have HWB := Lib.hid hwb
  have HWC := Lib.hid hwc
  have HGB := Lib.hid hgb
  have HG4 : Hid (gb + 1 = g4) := Lib.hid (by rw [← hg4, ← hwa, ← hgb]; simp)
  have HG5 : Hid (g4 + 1 = g5) := Lib.hid (by rw [← hg5, ← hwb, ← hg4]; simp)
  clear fa fb fc hb0 hb4 hb5 hb4c hb0c fwc hgs hwa hwb hwc hgb hg4 hg5 ht hB
  go_enter Try.func24, Try.ntmps24
  go_upto_region 13 with fail
  rw [HWA.out, HWB.out, HWC.out, HGB.out, HG4.out, HG5.out]
  have a1 : wc.cell? ⟨gb, 1, none⟩ = some (.int .i64 n) := H0.out.cell 1
  have a2 : wc.cell? ⟨gb, 2, none⟩ = some (sv s) := H0.out.cell 2
  have a3 : wc.cell? ⟨gb, 3, none⟩ = some (.slice A1 n1 k1) := H0.out.cell 3
  have a4 : wc.cell? ⟨gb, 4, none⟩ = some (.slice A2 n2 k2) := H0.out.cell 4
  have a5 : wc.cell? ⟨gb, 5, none⟩ = some (.slice A3 n3 k3) := H0.out.cell 5
  have a6 : wc.cell? ⟨gb, 6, none⟩ = some (.slice A4 n4 k4) := H0.out.cell 6
  have c3 : wc.cell? ⟨g5, 3, none⟩ = some (.slice none 0 0) := H5.out.cell 3
  have z3 := H5.out.frozen 3
  obtain ⟨w4, hw4⟩ : ∃ w4, wc.setCell ⟨g5, 3, none⟩ (.slice A1 n1 k1) = w4 := ⟨_, rfl⟩
  have b5 := H5.out.set_ 3 (.slice A1 n1 k1)
  rw [hw4] at b5
  have f04 : Fr (fun _ => True) wc w4 := by rw [← hw4]; exact (Fr.refl _ wc).setCell (p := ⟨g5, 3, none⟩) (fun _ => trivial) _
  have b4 : Blk w4 g4 58 #[.int .i64 0, .int .i64 0, .string ⟨#[]⟩, .slice none 0 0, .slice none 0 0, .slice none 0 0, .slice none 0 0] := by rw [← hw4]; exact H4.out.of (Below.heap_setCell _ _ _ g4 (by have := GS.out; show g4 ≠ g5; omega))
  have f4 : Fr No w w4 := by rw [← hw4]; exact FC.out.setCell (p := ⟨g5, 3, none⟩) (fun h => absurd h (by have := GS.out; show ¬ g5 < w.heap.size; omega)) _
  have hin : ∀ j, j < B → ((j < B ∨ w.heap.size ≤ j) ∧ j < w4.heap.size) ∧ j ≠ g4 := fun j hj => ⟨⟨Or.inl hj, by have := f4.size; have := HB.out; omega⟩, by have := GS.out; have := HB.out; omega⟩
  have hrw : ∀ j, j < B → w4.heap[j]? = w.heap[j]? := fun j hj => f4.block j (Nat.lt_of_lt_of_le hj HB.out) id
  have t4 : ThingAt (fun k => ((k < B ∨ w.heap.size ≤ k) ∧ k < w4.heap.size) ∧ k ≠ g4) w4 (⟨4, 0, [], l, [], [], []⟩) (.slice A1 n1 k1) (.slice none 0 0) (.slice none 0 0) (.slice none 0 0) := ⟨HT.out.kb, i64_small 0 (by omega), by simp, (HT.out.l.of (w' := w4) hrw fun _ _ h => h).mono hin, RowE.nil _ _ _ _ _, RowE.nil _ _ _ _ _, RowE.nil _ _ _ _ _⟩
  have F4 := Lib.hid f4
  have T4 := Lib.hid t4
  have d0 : w4.cell? ⟨g5, 0, none⟩ = some (.int .i64 4) := b5.cell 0
  have d1 : w4.cell? ⟨g5, 1, none⟩ = some (.int .i64 0) := b5.cell 1
  have d2 : w4.cell? ⟨g5, 2, none⟩ = some (.string ⟨#[]⟩) := b5.cell 2
  have d3 : w4.cell? ⟨g5, 3, none⟩ = some (.slice A1 n1 k1) := b5.cell 3
  have d4 : w4.cell? ⟨g5, 4, none⟩ = some (.slice none 0 0) := b5.cell 4
  have d5 : w4.cell? ⟨g5, 5, none⟩ = some (.slice none 0 0) := b5.cell 5
  have d6 : w4.cell? ⟨g5, 6, none⟩ = some (.slice none 0 0) := b5.cell 6
  have e0 : w4.cell? ⟨g4, 0, none⟩ = some (.int .i64 0) := b4.cell 0
  have e1 : w4.cell? ⟨g4, 1, none⟩ = some (.int .i64 0) := b4.cell 1
  have e2 : w4.cell? ⟨g4, 2, none⟩ = some (.string ⟨#[]⟩) := b4.cell 2
  have e3 : w4.cell? ⟨g4, 3, none⟩ = some (.slice none 0 0) := b4.cell 3
  have e4 : w4.cell? ⟨g4, 4, none⟩ = some (.slice none 0 0) := b4.cell 4
  have e5 : w4.cell? ⟨g4, 5, none⟩ = some (.slice none 0 0) := b4.cell 5
  have e6 : w4.cell? ⟨g4, 6, none⟩ = some (.slice none 0 0) := b4.cell 6
  have y0 := b4.frozen 0
  have y1 := b4.frozen 1
  have y2 := b4.frozen 2
  have y3 := b4.frozen 3
  have y4 := b4.frozen 4
  have y5 := b4.frozen 5
  have y6 := b4.frozen 6
  clear f4 t4 b4 b5 f04 hin hrw
  go_wp2
  refine bodyPost_ret (v := .agg #[.int .i64 4, .int .i64 0, .string ⟨#[]⟩, .slice A1 n1 k1, .slice none 0 0, .slice none 0 0, .slice none 0 0]) (by simp [results, Try.results24, go_sem, e0, e1, e2, e3, e4, e5, e6]) rfl ?_
  obtain ⟨q1, q2⟩ := norm_fin (by have := GS.out; omega) F4.out T4.out (.int .i64 4) (.int .i64 0) (.string ⟨#[]⟩) (.slice A1 n1 k1) (.slice none 0 0) (.slice none 0 0) (.slice none 0 0)
  exact ⟨_, _, _, _, rfl, q1, q2⟩
set_option maxRecDepth 100000 in
set_option maxHeartbeats 4000000 in
theorem norm_6 (B : Nat) (n : Int) (s : List UInt8) (l : List (List UInt8)) (cl : List CellP) (fl : List FactP) (ml : List (List UInt8)) (A1 A2 A3 A4 : Option Addr) (n1 k1 n2 k2 n3 k3 n4 k4 : Nat) (w : World) (hB : B ≤ w.heap.size) (ht : ThingAt (fun k => k < B) w ⟨6, n, s, l, cl, fl, ml⟩ (.slice A1 n1 k1) (.slice A2 n2 k2) (.slice A3 n3 k3) (.slice A4 n4 k4)) :
    Calls Try.prog 24 #[.agg #[.int .i64 6, .int .i64 n, sv s, .slice A1 n1 k1, .slice A2 n2 k2, .slice A3 n3 k3, .slice A4 n4 k4]] w (NPt B w (⟨6, 0, [], [], cl, [], []⟩)) := by
  obtain ⟨wa, hwa⟩ : ∃ wa, w.alloc (.cells #[.int .i64 6, .int .i64 n, sv s, .slice A1 n1 k1, .slice A2 n2 k2, .slice A3 n3 k3, .slice A4 n4 k4] 58) = wa := ⟨_, rfl⟩
  obtain ⟨wb, hwb⟩ : ∃ wb, wa.alloc (.cells #[.int .i64 0, .int .i64 0, .string ⟨#[]⟩, .slice none 0 0, .slice none 0 0, .slice none 0 0, .slice none 0 0] 58) = wb := ⟨_, rfl⟩
  obtain ⟨wc, hwc⟩ : ∃ wc, wb.alloc (.cells #[.int .i64 6, .int .i64 0, .string ⟨#[]⟩, .slice none 0 0, .slice none 0 0, .slice none 0 0, .slice none 0 0] 58) = wc := ⟨_, rfl⟩
  obtain ⟨gb, hgb⟩ : ∃ gb, w.heap.size = gb := ⟨_, rfl⟩
  obtain ⟨g4, hg4⟩ : ∃ g4, wa.heap.size = g4 := ⟨_, rfl⟩
  obtain ⟨g5, hg5⟩ : ∃ g5, wb.heap.size = g5 := ⟨_, rfl⟩
  have fa : Fr No w wa := by rw [← hwa]; exact (Fr.refl _ w).alloc _
  have fb : Fr No wa wb := by rw [← hwb]; exact (Fr.refl _ wa).alloc _
  have fc : Fr No wb wc := by rw [← hwc]; exact (Fr.refl _ wb).alloc _
  have hb0 : Blk wa gb 58 #[.int .i64 6, .int .i64 n, sv s, .slice A1 n1 k1, .slice A2 n2 k2, .slice A3 n3 k3, .slice A4 n4 k4] := by rw [← hwa, ← hgb]; exact Blk.new w 58 _
  have hb4 : Blk wb g4 58 #[.int .i64 0, .int .i64 0, .string ⟨#[]⟩, .slice none 0 0, .slice none 0 0, .slice none 0 0, .slice none 0 0] := by rw [← hwb, ← hg4]; exact Blk.new wa 58 _
  have hb5 : Blk wc g5 58 #[.int .i64 6, .int .i64 0, .string ⟨#[]⟩, .slice none 0 0, .slice none 0 0, .slice none 0 0, .slice none 0 0] := by rw [← hwc, ← hg5]; exact Blk.new wb 58 _
  have hb4c : Blk wc g4 58 #[.int .i64 0, .int .i64 0, .string ⟨#[]⟩, .slice none 0 0, .slice none 0 0, .slice none 0 0, .slice none 0 0] := hb4.of (fc.block g4 hb4.lt id)
  have hb0c := hb0.of ((fb.then fc).block gb hb0.lt id)
  have fwc : Fr No w wc := (fa.then fb).then fc
  have hgs : w.heap.size ≤ gb ∧ gb < g4 ∧ g4 < g5 ∧ g5 < wc.heap.size := ⟨by omega, by have := hb0.lt; omega, by have := hb4.lt; omega, hb5.lt⟩
  have H0 := Lib.hid hb0c
  have H4 := Lib.hid hb4c
  have H5 := Lib.hid hb5
  have FC := Lib.hid fwc
  have GS := Lib.hid hgs
  have HT := Lib.hid ht
  have HB := Lib.hid hB
  have HWA := Lib.hid hwa
  have HWB := Lib.hid hwb
  have HWC := Lib.hid hwc
  have HGB := Lib.hid hgb
  have HG4 : Hid (gb + 1 = g4) := Lib.hid (by rw [← hg4, ← hwa, ← hgb]; simp)
  have HG5 : Hid (g4 + 1 = g5) := Lib.hid (by rw [← hg5, ← hwb, ← hg4]; simp)
  clear fa fb fc hb0 hb4 hb5 hb4c hb0c fwc hgs hwa hwb hwc hgb hg4 hg5 ht hB
  go_enter Try.func24, Try.ntmps24
  go_upto_region 17 with fail
  rw [HWA.out, HWB.out, HWC.out, HGB.out, HG4.out, HG5.out]
  have a1 : wc.cell? ⟨gb, 1, none⟩ = some (.int .i64 n) := H0.out.cell 1
  have a2 : wc.cell? ⟨gb, 2, none⟩ = some (sv s) := H0.out.cell 2
  have a3 : wc.cell? ⟨gb, 3, none⟩ = some (.slice A1 n1 k1) := H0.out.cell 3
  have a4 : wc.cell? ⟨gb, 4, none⟩ = some (.slice A2 n2 k2) := H0.out.cell 4
  have a5 : wc.cell? ⟨gb, 5, none⟩ = some (.slice A3 n3 k3) := H0.out.cell 5
  have a6 : wc.cell? ⟨gb, 6, none⟩ = some (.slice A4 n4 k4) := H0.out.cell 6
  have c3 : wc.cell? ⟨g5, 4, none⟩ = some (.slice none 0 0) := H5.out.cell 4
  have z3 := H5.out.frozen 4
  obtain ⟨w4, hw4⟩ : ∃ w4, wc.setCell ⟨g5, 4, none⟩ (.slice A2 n2 k2) = w4 := ⟨_, rfl⟩
  have b5 := H5.out.set_ 4 (.slice A2 n2 k2)
  rw [hw4] at b5
  have f04 : Fr (fun _ => True) wc w4 := by rw [← hw4]; exact (Fr.refl _ wc).setCell (p := ⟨g5, 4, none⟩) (fun _ => trivial) _
  have b4 : Blk w4 g4 58 #[.int .i64 0, .int .i64 0, .string ⟨#[]⟩, .slice none 0 0, .slice none 0 0, .slice none 0 0, .slice none 0 0] := by rw [← hw4]; exact H4.out.of (Below.heap_setCell _ _ _ g4 (by have := GS.out; show g4 ≠ g5; omega))
  have f4 : Fr No w w4 := by rw [← hw4]; exact FC.out.setCell (p := ⟨g5, 4, none⟩) (fun h => absurd h (by have := GS.out; show ¬ g5 < w.heap.size; omega)) _
  have hin : ∀ j, j < B → ((j < B ∨ w.heap.size ≤ j) ∧ j < w4.heap.size) ∧ j ≠ g4 := fun j hj => ⟨⟨Or.inl hj, by have := f4.size; have := HB.out; omega⟩, by have := GS.out; have := HB.out; omega⟩
  have hrw : ∀ j, j < B → w4.heap[j]? = w.heap[j]? := fun j hj => f4.block j (Nat.lt_of_lt_of_le hj HB.out) id
  have t4 : ThingAt (fun k => ((k < B ∨ w.heap.size ≤ k) ∧ k < w4.heap.size) ∧ k ≠ g4) w4 (⟨6, 0, [], [], cl, [], []⟩) (.slice none 0 0) (.slice A2 n2 k2) (.slice none 0 0) (.slice none 0 0) := ⟨HT.out.kb, i64_small 0 (by omega), by simp, RowE.nil _ _ _ _ _, (HT.out.c.of (w' := w4) hrw fun _ _ h => h).mono hin, RowE.nil _ _ _ _ _, RowE.nil _ _ _ _ _⟩
  have F4 := Lib.hid f4
  have T4 := Lib.hid t4
  have d0 : w4.cell? ⟨g5, 0, none⟩ = some (.int .i64 6) := b5.cell 0
  have d1 : w4.cell? ⟨g5, 1, none⟩ = some (.int .i64 0) := b5.cell 1
  have d2 : w4.cell? ⟨g5, 2, none⟩ = some (.string ⟨#[]⟩) := b5.cell 2
  have d3 : w4.cell? ⟨g5, 3, none⟩ = some (.slice none 0 0) := b5.cell 3
  have d4 : w4.cell? ⟨g5, 4, none⟩ = some (.slice A2 n2 k2) := b5.cell 4
  have d5 : w4.cell? ⟨g5, 5, none⟩ = some (.slice none 0 0) := b5.cell 5
  have d6 : w4.cell? ⟨g5, 6, none⟩ = some (.slice none 0 0) := b5.cell 6
  have e0 : w4.cell? ⟨g4, 0, none⟩ = some (.int .i64 0) := b4.cell 0
  have e1 : w4.cell? ⟨g4, 1, none⟩ = some (.int .i64 0) := b4.cell 1
  have e2 : w4.cell? ⟨g4, 2, none⟩ = some (.string ⟨#[]⟩) := b4.cell 2
  have e3 : w4.cell? ⟨g4, 3, none⟩ = some (.slice none 0 0) := b4.cell 3
  have e4 : w4.cell? ⟨g4, 4, none⟩ = some (.slice none 0 0) := b4.cell 4
  have e5 : w4.cell? ⟨g4, 5, none⟩ = some (.slice none 0 0) := b4.cell 5
  have e6 : w4.cell? ⟨g4, 6, none⟩ = some (.slice none 0 0) := b4.cell 6
  have y0 := b4.frozen 0
  have y1 := b4.frozen 1
  have y2 := b4.frozen 2
  have y3 := b4.frozen 3
  have y4 := b4.frozen 4
  have y5 := b4.frozen 5
  have y6 := b4.frozen 6
  clear f4 t4 b4 b5 f04 hin hrw
  go_wp2
  refine bodyPost_ret (v := .agg #[.int .i64 6, .int .i64 0, .string ⟨#[]⟩, .slice none 0 0, .slice A2 n2 k2, .slice none 0 0, .slice none 0 0]) (by simp [results, Try.results24, go_sem, e0, e1, e2, e3, e4, e5, e6]) rfl ?_
  obtain ⟨q1, q2⟩ := norm_fin (by have := GS.out; omega) F4.out T4.out (.int .i64 6) (.int .i64 0) (.string ⟨#[]⟩) (.slice none 0 0) (.slice A2 n2 k2) (.slice none 0 0) (.slice none 0 0)
  exact ⟨_, _, _, _, rfl, q1, q2⟩
set_option maxRecDepth 100000 in
set_option maxHeartbeats 4000000 in
theorem norm_8 (B : Nat) (n : Int) (s : List UInt8) (l : List (List UInt8)) (cl : List CellP) (fl : List FactP) (ml : List (List UInt8)) (A1 A2 A3 A4 : Option Addr) (n1 k1 n2 k2 n3 k3 n4 k4 : Nat) (w : World) (hB : B ≤ w.heap.size) (ht : ThingAt (fun k => k < B) w ⟨8, n, s, l, cl, fl, ml⟩ (.slice A1 n1 k1) (.slice A2 n2 k2) (.slice A3 n3 k3) (.slice A4 n4 k4)) :
    Calls Try.prog 24 #[.agg #[.int .i64 8, .int .i64 n, sv s, .slice A1 n1 k1, .slice A2 n2 k2, .slice A3 n3 k3, .slice A4 n4 k4]] w (NPt B w (⟨8, 0, [], [], [], fl, []⟩)) := by
  obtain ⟨wa, hwa⟩ : ∃ wa, w.alloc (.cells #[.int .i64 8, .int .i64 n, sv s, .slice A1 n1 k1, .slice A2 n2 k2, .slice A3 n3 k3, .slice A4 n4 k4] 58) = wa := ⟨_, rfl⟩
  obtain ⟨wb, hwb⟩ : ∃ wb, wa.alloc (.cells #[.int .i64 0, .int .i64 0, .string ⟨#[]⟩, .slice none 0 0, .slice none 0 0, .slice none 0 0, .slice none 0 0] 58) = wb := ⟨_, rfl⟩
  obtain ⟨wc, hwc⟩ : ∃ wc, wb.alloc (.cells #[.int .i64 8, .int .i64 0, .string ⟨#[]⟩, .slice none 0 0, .slice none 0 0, .slice none 0 0, .slice none 0 0] 58) = wc := ⟨_, rfl⟩
  obtain ⟨gb, hgb⟩ : ∃ gb, w.heap.size = gb := ⟨_, rfl⟩
  obtain ⟨g4, hg4⟩ : ∃ g4, wa.heap.size = g4 := ⟨_, rfl⟩
  obtain ⟨g5, hg5⟩ : ∃ g5, wb.heap.size = g5 := ⟨_, rfl⟩
  have fa : Fr No w wa := by rw [← hwa]; exact (Fr.refl _ w).alloc _
  have fb : Fr No wa wb := by rw [← hwb]; exact (Fr.refl _ wa).alloc _
  have fc : Fr No wb wc := by rw [← hwc]; exact (Fr.refl _ wb).alloc _
  have hb0 : Blk wa gb 58 #[.int .i64 8, .int .i64 n, sv s, .slice A1 n1 k1, .slice A2 n2 k2, .slice A3 n3 k3, .slice A4 n4 k4] := by rw [← hwa, ← hgb]; exact Blk.new w 58 _
  have hb4 : Blk wb g4 58 #[.int .i64 0, .int .i64 0, .string ⟨#[]⟩, .slice none 0 0, .slice none 0 0, .slice none 0 0, .slice none 0 0] := by rw [← hwb, ← hg4]; exact Blk.new wa 58 _
  have hb5 : Blk wc g5 58 #[.int .i64 8, .int .i64 0, .string ⟨#[]⟩, .slice none 0 0, .slice none 0 0, .slice none 0 0, .slice none 0 0] := by rw [← hwc, ← hg5]; exact Blk.new wb 58 _
  have hb4c : Blk wc g4 58 #[.int .i64 0, .int .i64 0, .string ⟨#[]⟩, .slice none 0 0, .slice none 0 0, .slice none 0 0, .slice none 0 0] := hb4.of (fc.block g4 hb4.lt id)
  have hb0c := hb0.of ((fb.then fc).block gb hb0.lt id)
  have fwc : Fr No w wc := (fa.then fb).then fc
  have hgs : w.heap.size ≤ gb ∧ gb < g4 ∧ g4 < g5 ∧ g5 < wc.heap.size := ⟨by omega, by have := hb0.lt; omega, by have := hb4.lt; omega, hb5.lt⟩
  have H0 := Lib.hid hb0c
  have H4 := Lib.hid hb4c
  have H5 := Lib.hid hb5
  have FC := Lib.hid fwc
  have GS := Lib.hid hgs
  have HT := Lib.hid ht
  have HB := Lib.hid hB
  have HWA := Lib.hid hwa
  have HWB := Lib.hid hwb
  have HWC := Lib.hid hwc
  have HGB := Lib.hid hgb
  have HG4 : Hid (gb + 1 = g4) := Lib.hid (by rw [← hg4, ← hwa, ← hgb]; simp)
  have HG5 : Hid (g4 + 1 = g5) := Lib.hid (by rw [← hg5, ← hwb, ← hg4]; simp)
  clear fa fb fc hb0 hb4 hb5 hb4c hb0c fwc hgs hwa hwb hwc hgb hg4 hg5 ht hB
  go_enter Try.func24, Try.ntmps24
  go_upto_region 21 with fail
  rw [HWA.out, HWB.out, HWC.out, HGB.out, HG4.out, HG5.out]
  have a1 : wc.cell? ⟨gb, 1, none⟩ = some (.int .i64 n) := H0.out.cell 1
  have a2 : wc.cell? ⟨gb, 2, none⟩ = some (sv s) := H0.out.cell 2
  have a3 : wc.cell? ⟨gb, 3, none⟩ = some (.slice A1 n1 k1) := H0.out.cell 3
  have a4 : wc.cell? ⟨gb, 4, none⟩ = some (.slice A2 n2 k2) := H0.out.cell 4
  have a5 : wc.cell? ⟨gb, 5, none⟩ = some (.slice A3 n3 k3) := H0.out.cell 5
  have a6 : wc.cell? ⟨gb, 6, none⟩ = some (.slice A4 n4 k4) := H0.out.cell 6
  have c3 : wc.cell? ⟨g5, 5, none⟩ = some (.slice none 0 0) := H5.out.cell 5
  have z3 := H5.out.frozen 5
  obtain ⟨w4, hw4⟩ : ∃ w4, wc.setCell ⟨g5, 5, none⟩ (.slice A3 n3 k3) = w4 := ⟨_, rfl⟩
  have b5 := H5.out.set_ 5 (.slice A3 n3 k3)
  rw [hw4] at b5
  have f04 : Fr (fun _ => True) wc w4 := by rw [← hw4]; exact (Fr.refl _ wc).setCell (p := ⟨g5, 5, none⟩) (fun _ => trivial) _
  have b4 : Blk w4 g4 58 #[.int .i64 0, .int .i64 0, .string ⟨#[]⟩, .slice none 0 0, .slice none 0 0, .slice none 0 0, .slice none 0 0] := by rw [← hw4]; exact H4.out.of (Below.heap_setCell _ _ _ g4 (by have := GS.out; show g4 ≠ g5; omega))
  have f4 : Fr No w w4 := by rw [← hw4]; exact FC.out.setCell (p := ⟨g5, 5, none⟩) (fun h => absurd h (by have := GS.out; show ¬ g5 < w.heap.size; omega)) _
  have hin : ∀ j, j < B → ((j < B ∨ w.heap.size ≤ j) ∧ j < w4.heap.size) ∧ j ≠ g4 := fun j hj => ⟨⟨Or.inl hj, by have := f4.size; have := HB.out; omega⟩, by have := GS.out; have := HB.out; omega⟩
  have hrw : ∀ j, j < B → w4.heap[j]? = w.heap[j]? := fun j hj => f4.block j (Nat.lt_of_lt_of_le hj HB.out) id
  have t4 : ThingAt (fun k => ((k < B ∨ w.heap.size ≤ k) ∧ k < w4.heap.size) ∧ k ≠ g4) w4 (⟨8, 0, [], [], [], fl, []⟩) (.slice none 0 0) (.slice none 0 0) (.slice A3 n3 k3) (.slice none 0 0) := ⟨HT.out.kb, i64_small 0 (by omega), by simp, RowE.nil _ _ _ _ _, RowE.nil _ _ _ _ _, ((HT.out.f.factOf (w' := w4) hrw).mono hin |>.of (fun _ _ => rfl) fun x cs hx => by
    obtain ⟨dv, mv, e, h1, h2⟩ := hx
    exact ⟨dv, mv, e, h1.mono hin, h2.mono hin⟩), RowE.nil _ _ _ _ _⟩
  have F4 := Lib.hid f4
  have T4 := Lib.hid t4
  have d0 : w4.cell? ⟨g5, 0, none⟩ = some (.int .i64 8) := b5.cell 0
  have d1 : w4.cell? ⟨g5, 1, none⟩ = some (.int .i64 0) := b5.cell 1
  have d2 : w4.cell? ⟨g5, 2, none⟩ = some (.string ⟨#[]⟩) := b5.cell 2
  have d3 : w4.cell? ⟨g5, 3, none⟩ = some (.slice none 0 0) := b5.cell 3
  have d4 : w4.cell? ⟨g5, 4, none⟩ = some (.slice none 0 0) := b5.cell 4
  have d5 : w4.cell? ⟨g5, 5, none⟩ = some (.slice A3 n3 k3) := b5.cell 5
  have d6 : w4.cell? ⟨g5, 6, none⟩ = some (.slice none 0 0) := b5.cell 6
  have e0 : w4.cell? ⟨g4, 0, none⟩ = some (.int .i64 0) := b4.cell 0
  have e1 : w4.cell? ⟨g4, 1, none⟩ = some (.int .i64 0) := b4.cell 1
  have e2 : w4.cell? ⟨g4, 2, none⟩ = some (.string ⟨#[]⟩) := b4.cell 2
  have e3 : w4.cell? ⟨g4, 3, none⟩ = some (.slice none 0 0) := b4.cell 3
  have e4 : w4.cell? ⟨g4, 4, none⟩ = some (.slice none 0 0) := b4.cell 4
  have e5 : w4.cell? ⟨g4, 5, none⟩ = some (.slice none 0 0) := b4.cell 5
  have e6 : w4.cell? ⟨g4, 6, none⟩ = some (.slice none 0 0) := b4.cell 6
  have y0 := b4.frozen 0
  have y1 := b4.frozen 1
  have y2 := b4.frozen 2
  have y3 := b4.frozen 3
  have y4 := b4.frozen 4
  have y5 := b4.frozen 5
  have y6 := b4.frozen 6
  clear f4 t4 b4 b5 f04 hin hrw
  go_wp2
  refine bodyPost_ret (v := .agg #[.int .i64 8, .int .i64 0, .string ⟨#[]⟩, .slice none 0 0, .slice none 0 0, .slice A3 n3 k3, .slice none 0 0]) (by simp [results, Try.results24, go_sem, e0, e1, e2, e3, e4, e5, e6]) rfl ?_
  obtain ⟨q1, q2⟩ := norm_fin (by have := GS.out; omega) F4.out T4.out (.int .i64 8) (.int .i64 0) (.string ⟨#[]⟩) (.slice none 0 0) (.slice none 0 0) (.slice A3 n3 k3) (.slice none 0 0)
  exact ⟨_, _, _, _, rfl, q1, q2⟩
set_option maxRecDepth 100000 in
set_option maxHeartbeats 4000000 in
theorem norm_5 (B : Nat) (n : Int) (s : List UInt8) (l : List (List UInt8)) (cl : List CellP) (fl : List FactP) (ml : List (List UInt8)) (A1 A2 A3 A4 : Option Addr) (n1 k1 n2 k2 n3 k3 n4 k4 : Nat) (w : World) (hB : B ≤ w.heap.size) (ht : ThingAt (fun k => k < B) w ⟨5, n, s, l, cl, fl, ml⟩ (.slice A1 n1 k1) (.slice A2 n2 k2) (.slice A3 n3 k3) (.slice A4 n4 k4)) :
    Calls Try.prog 24 #[.agg #[.int .i64 5, .int .i64 n, sv s, .slice A1 n1 k1, .slice A2 n2 k2, .slice A3 n3 k3, .slice A4 n4 k4]] w (NPt B w (⟨5, 0, [], [], [one cl], [], []⟩)) := by
  obtain ⟨wa, hwa⟩ : ∃ wa, w.alloc (.cells #[.int .i64 5, .int .i64 n, sv s, .slice A1 n1 k1, .slice A2 n2 k2, .slice A3 n3 k3, .slice A4 n4 k4] 58) = wa := ⟨_, rfl⟩
  obtain ⟨wb, hwb⟩ : ∃ wb, wa.alloc (.cells #[.int .i64 0, .int .i64 0, .string ⟨#[]⟩, .slice none 0 0, .slice none 0 0, .slice none 0 0, .slice none 0 0] 58) = wb := ⟨_, rfl⟩
  obtain ⟨wc, hwc⟩ : ∃ wc, wb.alloc (.cells #[.int .i64 5, .int .i64 0, .string ⟨#[]⟩, .slice none 0 0, .slice none 0 0, .slice none 0 0, .slice none 0 0] 58) = wc := ⟨_, rfl⟩
  obtain ⟨gb, hgb⟩ : ∃ gb, w.heap.size = gb := ⟨_, rfl⟩
  obtain ⟨g4, hg4⟩ : ∃ g4, wa.heap.size = g4 := ⟨_, rfl⟩
  obtain ⟨g5, hg5⟩ : ∃ g5, wb.heap.size = g5 := ⟨_, rfl⟩
  have fa : Fr No w wa := by rw [← hwa]; exact (Fr.refl _ w).alloc _
  have fb : Fr No wa wb := by rw [← hwb]; exact (Fr.refl _ wa).alloc _
  have fc : Fr No wb wc := by rw [← hwc]; exact (Fr.refl _ wb).alloc _
  have hb0 : Blk wa gb 58 #[.int .i64 5, .int .i64 n, sv s, .slice A1 n1 k1, .slice A2 n2 k2, .slice A3 n3 k3, .slice A4 n4 k4] := by rw [← hwa, ← hgb]; exact Blk.new w 58 _
  have hb4 : Blk wb g4 58 #[.int .i64 0, .int .i64 0, .string ⟨#[]⟩, .slice none 0 0, .slice none 0 0, .slice none 0 0, .slice none 0 0] := by rw [← hwb, ← hg4]; exact Blk.new wa 58 _
  have hb5 : Blk wc g5 58 #[.int .i64 5, .int .i64 0, .string ⟨#[]⟩, .slice none 0 0, .slice none 0 0, .slice none 0 0, .slice none 0 0] := by rw [← hwc, ← hg5]; exact Blk.new wb 58 _
  have hb4c : Blk wc g4 58 #[.int .i64 0, .int .i64 0, .string ⟨#[]⟩, .slice none 0 0, .slice none 0 0, .slice none 0 0, .slice none 0 0] := hb4.of (fc.block g4 hb4.lt id)
  have hb0c := hb0.of ((fb.then fc).block gb hb0.lt id)
  have fwc : Fr No w wc := (fa.then fb).then fc
  have hgs : w.heap.size ≤ gb ∧ gb < g4 ∧ g4 < g5 ∧ g5 < wc.heap.size := ⟨by omega, by have := hb0.lt; omega, by have := hb4.lt; omega, hb5.lt⟩
  have H0 := Lib.hid hb0c
  have H4 := Lib.hid hb4c
  have H5 := Lib.hid hb5
  have FC := Lib.hid fwc
  have GS := Lib.hid hgs
  have HT := Lib.hid ht
  have HB := Lib.hid hB
  have HWA := Lib.hid hwa
  have HWB := Lib.hid hwb
  have HWC := Lib.hid hwc
  have HGB := Lib.hid hgb
  have HG4 : Hid (gb + 1 = g4) := Lib.hid (by rw [← hg4, ← hwa, ← hgb]; simp)
  have HG5 : Hid (g4 + 1 = g5) := Lib.hid (by rw [← hg5, ← hwb, ← hg4]; simp)
  clear fa fb fc hb0 hb4 hb5 hb4c hb0c fwc hgs hwa hwb hwc hgb hg4 hg5 ht hB
  go_enter Try.func24, Try.ntmps24
  go_wp2_with fail
  rw [HWA.out, HWB.out, HWC.out, HGB.out, HG4.out, HG5.out]
  refine (one_any (fun k => k < B) _ cl wc (HT.out.c.of (fun j hj => FC.out.block j (Nat.lt_of_lt_of_le hj HB.out) id) fun _ _ h => h)).mono ?_
  unfold CellP.val
  rintro e w3 ⟨rfl, f3⟩
  have hx4 := H4.out.of (f3.block g4 H4.out.lt)
  have hx5 := H5.out.of (f3.block g5 H5.out.lt)
  obtain ⟨wd, hwd⟩ : ∃ wd, w3.alloc (.cells #[.int .i64 (one cl).kind, .int .i64 (one cl).int, sv (one cl).text] 93) = wd := ⟨_, rfl⟩
  obtain ⟨gd, hgd⟩ : ∃ gd, w3.heap.size = gd := ⟨_, rfl⟩
  have fd : Fr No w3 wd := by rw [← hwd]; exact (Fr.refl _ w3).alloc _
  have hbd : Blk wd gd 93 #[.int .i64 (one cl).kind, .int .i64 (one cl).int, sv (one cl).text] := by rw [← hwd, ← hgd]; exact Blk.new w3 93 _
  have hd5 := hx5.of (fd.block g5 hx5.lt id)
  have hd4 := hx4.of (fd.block g4 hx4.lt id)
  have c3 : wd.cell? ⟨g5, 4, none⟩ = some (.slice none 0 0) := hd5.cell 4
  have z3 := hd5.frozen 4
  obtain ⟨w4, hw4⟩ : ∃ w4, wd.setCell ⟨g5, 4, none⟩ (.slice (some ⟨gd, 0, none⟩) 1 1) = w4 := ⟨_, rfl⟩
  have b5 := hd5.set_ 4 (.slice (some ⟨gd, 0, none⟩) 1 1)
  rw [hw4] at b5
  have b4 : Blk w4 g4 58 #[.int .i64 0, .int .i64 0, .string ⟨#[]⟩, .slice none 0 0, .slice none 0 0, .slice none 0 0, .slice none 0 0] := by rw [← hw4]; exact hd4.of (Below.heap_setCell _ _ _ g4 (by have := GS.out; show g4 ≠ g5; omega))
  have f4 : Fr No w w4 := by rw [← hw4]; exact ((FC.out.then (Fr.of_below f3)).then fd).setCell (p := ⟨g5, 4, none⟩) (fun h => absurd h (by have := GS.out; show ¬ g5 < w.heap.size; omega)) _
  have hsame : ∀ j, j ≠ g5 → w4.heap[j]? = wd.heap[j]? := fun j hj => by rw [← hw4]; exact Below.heap_setCell _ _ _ j hj
  have hgd3 : wc.heap.size ≤ gd := by have := f3.size; omega
  have hbd4 : Blk w4 gd 93 #[.int .i64 (one cl).kind, .int .i64 (one cl).int, sv (one cl).text] := hbd.of (hsame gd (by have := GS.out; omega))
  have hgl := hbd4.lt
  have hin : ∀ j, j < B → ((j < B ∨ w.heap.size ≤ j) ∧ j < w4.heap.size) ∧ j ≠ g4 := fun j hj => ⟨⟨Or.inl hj, by have := f4.size; have := HB.out; omega⟩, by have := GS.out; have := HB.out; omega⟩
  have hrw : ∀ j, j < B → w4.heap[j]? = w.heap[j]? := fun j hj => f4.block j (Nat.lt_of_lt_of_le hj HB.out) id
  have t4 : ThingAt (fun k => ((k < B ∨ w.heap.size ≤ k) ∧ k < w4.heap.size) ∧ k ≠ g4) w4 (⟨5, 0, [], [], [one cl], [], []⟩) (.slice none 0 0) (.slice (some ⟨gd, 0, none⟩) 1 1) (.slice none 0 0) (.slice none 0 0) := ⟨HT.out.kb, i64_small 0 (by omega), by simp, RowE.nil _ _ _ _ _, ⟨some ⟨gd, 0, none⟩, 1, rfl, by unfold maxLen; simp, fun _ => ⟨gd, 0, rfl, ⟨⟨Or.inr (by have := FC.out.size; omega), hgl⟩, by have := GS.out; omega⟩, fun j hj => by
      obtain rfl : j = 0 := by simpa using hj
      refine ⟨_, rfl, fun i hi => ?_, ⟨rfl, one_ok HT.out.c⟩⟩
      have := hbd4.cell i
      simpa using this⟩⟩, RowE.nil _ _ _ _ _, RowE.nil _ _ _ _ _⟩
  have F4 := Lib.hid f4
  have T4 := Lib.hid t4
  have d0 : w4.cell? ⟨g5, 0, none⟩ = some (.int .i64 5) := b5.cell 0
  have d1 : w4.cell? ⟨g5, 1, none⟩ = some (.int .i64 0) := b5.cell 1
  have d2 : w4.cell? ⟨g5, 2, none⟩ = some (.string ⟨#[]⟩) := b5.cell 2
  have d3 : w4.cell? ⟨g5, 3, none⟩ = some (.slice none 0 0) := b5.cell 3
  have d4 : w4.cell? ⟨g5, 4, none⟩ = some (.slice (some ⟨gd, 0, none⟩) 1 1) := b5.cell 4
  have d5 : w4.cell? ⟨g5, 5, none⟩ = some (.slice none 0 0) := b5.cell 5
  have d6 : w4.cell? ⟨g5, 6, none⟩ = some (.slice none 0 0) := b5.cell 6
  have e0 : w4.cell? ⟨g4, 0, none⟩ = some (.int .i64 0) := b4.cell 0
  have e1 : w4.cell? ⟨g4, 1, none⟩ = some (.int .i64 0) := b4.cell 1
  have e2 : w4.cell? ⟨g4, 2, none⟩ = some (.string ⟨#[]⟩) := b4.cell 2
  have e3 : w4.cell? ⟨g4, 3, none⟩ = some (.slice none 0 0) := b4.cell 3
  have e4 : w4.cell? ⟨g4, 4, none⟩ = some (.slice none 0 0) := b4.cell 4
  have e5 : w4.cell? ⟨g4, 5, none⟩ = some (.slice none 0 0) := b4.cell 5
  have e6 : w4.cell? ⟨g4, 6, none⟩ = some (.slice none 0 0) := b4.cell 6
  have y0 := b4.frozen 0
  have y1 := b4.frozen 1
  have y2 := b4.frozen 2
  have y3 := b4.frozen 3
  have y4 := b4.frozen 4
  have y5 := b4.frozen 5
  have y6 := b4.frozen 6
  clear f4 t4 b4 b5 hsame hbd hbd4 hd5 hd4 fd hgd3 hx4 hx5 f3 hgl hin hrw
  go_wp2
  refine bodyPost_ret (v := .agg #[.int .i64 5, .int .i64 0, .string ⟨#[]⟩, .slice none 0 0, .slice (some ⟨gd, 0, none⟩) 1 1, .slice none 0 0, .slice none 0 0]) (by simp [results, Try.results24, go_sem, e0, e1, e2, e3, e4, e5, e6]) rfl ?_
  obtain ⟨q1, q2⟩ := norm_fin (by have := GS.out; omega) F4.out T4.out (.int .i64 5) (.int .i64 0) (.string ⟨#[]⟩) (.slice none 0 0) (.slice (some ⟨gd, 0, none⟩) 1 1) (.slice none 0 0) (.slice none 0 0)
  exact ⟨_, _, _, _, rfl, q1, q2⟩
set_option maxRecDepth 100000 in
set_option maxHeartbeats 4000000 in
theorem norm_7 (B : Nat) (n : Int) (s : List UInt8) (l : List (List UInt8)) (cl : List CellP) (fl : List FactP) (ml : List (List UInt8)) (A1 A2 A3 A4 : Option Addr) (n1 k1 n2 k2 n3 k3 n4 k4 : Nat) (w : World) (hB : B ≤ w.heap.size) (ht : ThingAt (fun k => k < B) w ⟨7, n, s, l, cl, fl, ml⟩ (.slice A1 n1 k1) (.slice A2 n2 k2) (.slice A3 n3 k3) (.slice A4 n4 k4)) :
    Calls Try.prog 24 #[.agg #[.int .i64 7, .int .i64 n, sv s, .slice A1 n1 k1, .slice A2 n2 k2, .slice A3 n3 k3, .slice A4 n4 k4]] w (NPt B w (⟨7, 0, [], [], [], [any fl], []⟩)) := by
  obtain ⟨wa, hwa⟩ : ∃ wa, w.alloc (.cells #[.int .i64 7, .int .i64 n, sv s, .slice A1 n1 k1, .slice A2 n2 k2, .slice A3 n3 k3, .slice A4 n4 k4] 58) = wa := ⟨_, rfl⟩
  obtain ⟨wb, hwb⟩ : ∃ wb, wa.alloc (.cells #[.int .i64 0, .int .i64 0, .string ⟨#[]⟩, .slice none 0 0, .slice none 0 0, .slice none 0 0, .slice none 0 0] 58) = wb := ⟨_, rfl⟩
  obtain ⟨wc, hwc⟩ : ∃ wc, wb.alloc (.cells #[.int .i64 7, .int .i64 0, .string ⟨#[]⟩, .slice none 0 0, .slice none 0 0, .slice none 0 0, .slice none 0 0] 58) = wc := ⟨_, rfl⟩
  obtain ⟨gb, hgb⟩ : ∃ gb, w.heap.size = gb := ⟨_, rfl⟩
  obtain ⟨g4, hg4⟩ : ∃ g4, wa.heap.size = g4 := ⟨_, rfl⟩
  obtain ⟨g5, hg5⟩ : ∃ g5, wb.heap.size = g5 := ⟨_, rfl⟩
  have fa : Fr No w wa := by rw [← hwa]; exact (Fr.refl _ w).alloc _
  have fb : Fr No wa wb := by rw [← hwb]; exact (Fr.refl _ wa).alloc _
  have fc : Fr No wb wc := by rw [← hwc]; exact (Fr.refl _ wb).alloc _
  have hb0 : Blk wa gb 58 #[.int .i64 7, .int .i64 n, sv s, .slice A1 n1 k1, .slice A2 n2 k2, .slice A3 n3 k3, .slice A4 n4 k4] := by rw [← hwa, ← hgb]; exact Blk.new w 58 _
  have hb4 : Blk wb g4 58 #[.int .i64 0, .int .i64 0, .string ⟨#[]⟩, .slice none 0 0, .slice none 0 0, .slice none 0 0, .slice none 0 0] := by rw [← hwb, ← hg4]; exact Blk.new wa 58 _
  have hb5 : Blk wc g5 58 #[.int .i64 7, .int .i64 0, .string ⟨#[]⟩, .slice none 0 0, .slice none 0 0, .slice none 0 0, .slice none 0 0] := by rw [← hwc, ← hg5]; exact Blk.new wb 58 _
  have hb4c : Blk wc g4 58 #[.int .i64 0, .int .i64 0, .string ⟨#[]⟩, .slice none 0 0, .slice none 0 0, .slice none 0 0, .slice none 0 0] := hb4.of (fc.block g4 hb4.lt id)
  have hb0c := hb0.of ((fb.then fc).block gb hb0.lt id)
  have fwc : Fr No w wc := (fa.then fb).then fc
  have hgs : w.heap.size ≤ gb ∧ gb < g4 ∧ g4 < g5 ∧ g5 < wc.heap.size := ⟨by omega, by have := hb0.lt; omega, by have := hb4.lt; omega, hb5.lt⟩
  have H0 := Lib.hid hb0c
  have H4 := Lib.hid hb4c
  have H5 := Lib.hid hb5
  have FC := Lib.hid fwc
  have GS := Lib.hid hgs
  have HT := Lib.hid ht
  have HB := Lib.hid hB
  have HWA := Lib.hid hwa
  have HWB := Lib.hid hwb
  have HWC := Lib.hid hwc
  have HGB := Lib.hid hgb
  have HG4 : Hid (gb + 1 = g4) := Lib.hid (by rw [← hg4, ← hwa, ← hgb]; simp)
  have HG5 : Hid (g4 + 1 = g5) := Lib.hid (by rw [← hg5, ← hwb, ← hg4]; simp)
  clear fa fb fc hb0 hb4 hb5 hb4c hb0c fwc hgs hwa hwb hwc hgb hg4 hg5 ht hB
  go_enter Try.func24, Try.ntmps24
  go_wp2_with fail
  rw [HWA.out, HWB.out, HWC.out, HGB.out, HG4.out, HG5.out]
  refine (any_any (fun k => k < B) _ fl wc (HT.out.f.factOf (fun j hj => FC.out.block j (Nat.lt_of_lt_of_le hj HB.out) id))).mono ?_
  rintro e w3 ⟨dv, mv, rfl, rd, rm, f3⟩
  have RD := Lib.hid rd
  have RM := Lib.hid rm
  obtain ⟨B1, m1, q1, rfl⟩ := rd.slice
  obtain ⟨B2, m2, q2, rfl⟩ := rm.slice
  have hx4 := H4.out.of (f3.block g4 H4.out.lt)
  have hx5 := H5.out.of (f3.block g5 H5.out.lt)
  obtain ⟨wd, hwd⟩ : ∃ wd, w3.alloc (.cells #[.slice B1 m1 q1, .slice B2 m2 q2] 99) = wd := ⟨_, rfl⟩
  obtain ⟨gd, hgd⟩ : ∃ gd, w3.heap.size = gd := ⟨_, rfl⟩
  have fd : Fr No w3 wd := by rw [← hwd]; exact (Fr.refl _ w3).alloc _
  have hbd : Blk wd gd 99 #[.slice B1 m1 q1, .slice B2 m2 q2] := by rw [← hwd, ← hgd]; exact Blk.new w3 99 _
  have hd5 := hx5.of (fd.block g5 hx5.lt id)
  have hd4 := hx4.of (fd.block g4 hx4.lt id)
  have c3 : wd.cell? ⟨g5, 5, none⟩ = some (.slice none 0 0) := hd5.cell 5
  have z3 := hd5.frozen 5
  obtain ⟨w4, hw4⟩ : ∃ w4, wd.setCell ⟨g5, 5, none⟩ (.slice (some ⟨gd, 0, none⟩) 1 1) = w4 := ⟨_, rfl⟩
  have b5 := hd5.set_ 5 (.slice (some ⟨gd, 0, none⟩) 1 1)
  rw [hw4] at b5
  have b4 : Blk w4 g4 58 #[.int .i64 0, .int .i64 0, .string ⟨#[]⟩, .slice none 0 0, .slice none 0 0, .slice none 0 0, .slice none 0 0] := by rw [← hw4]; exact hd4.of (Below.heap_setCell _ _ _ g4 (by have := GS.out; show g4 ≠ g5; omega))
  have f4 : Fr No w w4 := by rw [← hw4]; exact ((FC.out.then (Fr.of_below f3)).then fd).setCell (p := ⟨g5, 5, none⟩) (fun h => absurd h (by have := GS.out; show ¬ g5 < w.heap.size; omega)) _
  have hsame : ∀ j, j ≠ g5 → w4.heap[j]? = wd.heap[j]? := fun j hj => by rw [← hw4]; exact Below.heap_setCell _ _ _ j hj
  have hgd3 : wc.heap.size ≤ gd := by have := f3.size; omega
  have hbd4 : Blk w4 gd 99 #[.slice B1 m1 q1, .slice B2 m2 q2] := hbd.of (hsame gd (by have := GS.out; omega))
  have hgl := hbd4.lt
  have hin : ∀ j, j < B → ((j < B ∨ w.heap.size ≤ j) ∧ j < w4.heap.size) ∧ j ≠ g4 := fun j hj => ⟨⟨Or.inl hj, by have := f4.size; have := HB.out; omega⟩, by have := GS.out; have := HB.out; omega⟩
  have hrw : ∀ j, j < B → w4.heap[j]? = w.heap[j]? := fun j hj => f4.block j (Nat.lt_of_lt_of_le hj HB.out) id
  have t4 : ThingAt (fun k => ((k < B ∨ w.heap.size ≤ k) ∧ k < w4.heap.size) ∧ k ≠ g4) w4 (⟨7, 0, [], [], [], [any fl], []⟩) (.slice none 0 0) (.slice none 0 0) (.slice (some ⟨gd, 0, none⟩) 1 1) (.slice none 0 0) := ⟨HT.out.kb, i64_small 0 (by omega), by simp, RowE.nil _ _ _ _ _, RowE.nil _ _ _ _ _, ⟨some ⟨gd, 0, none⟩, 1, rfl, by unfold maxLen; simp, fun _ => ⟨gd, 0, rfl, ⟨⟨Or.inr (by have := FC.out.size; omega), hgl⟩, by have := GS.out; omega⟩, fun j hj => by
      obtain rfl : j = 0 := by simpa using hj
      refine ⟨_, rfl, fun i hi => ?_, ⟨_, _, rfl, (RD.out.of (w' := w4) (fun j hj => (hrw j hj).trans (FC.out.block j (Nat.lt_of_lt_of_le hj HB.out) id).symm) fun _ _ h => h).mono hin, (RM.out.of (w' := w4) (fun j hj => (hrw j hj).trans (FC.out.block j (Nat.lt_of_lt_of_le hj HB.out) id).symm) fun _ _ h => h).mono hin⟩⟩
      have := hbd4.cell i
      simpa using this⟩⟩, RowE.nil _ _ _ _ _⟩
  have F4 := Lib.hid f4
  have T4 := Lib.hid t4
  have d0 : w4.cell? ⟨g5, 0, none⟩ = some (.int .i64 7) := b5.cell 0
  have d1 : w4.cell? ⟨g5, 1, none⟩ = some (.int .i64 0) := b5.cell 1
  have d2 : w4.cell? ⟨g5, 2, none⟩ = some (.string ⟨#[]⟩) := b5.cell 2
  have d3 : w4.cell? ⟨g5, 3, none⟩ = some (.slice none 0 0) := b5.cell 3
  have d4 : w4.cell? ⟨g5, 4, none⟩ = some (.slice none 0 0) := b5.cell 4
  have d5 : w4.cell? ⟨g5, 5, none⟩ = some (.slice (some ⟨gd, 0, none⟩) 1 1) := b5.cell 5
  have d6 : w4.cell? ⟨g5, 6, none⟩ = some (.slice none 0 0) := b5.cell 6
  have e0 : w4.cell? ⟨g4, 0, none⟩ = some (.int .i64 0) := b4.cell 0
  have e1 : w4.cell? ⟨g4, 1, none⟩ = some (.int .i64 0) := b4.cell 1
  have e2 : w4.cell? ⟨g4, 2, none⟩ = some (.string ⟨#[]⟩) := b4.cell 2
  have e3 : w4.cell? ⟨g4, 3, none⟩ = some (.slice none 0 0) := b4.cell 3
  have e4 : w4.cell? ⟨g4, 4, none⟩ = some (.slice none 0 0) := b4.cell 4
  have e5 : w4.cell? ⟨g4, 5, none⟩ = some (.slice none 0 0) := b4.cell 5
  have e6 : w4.cell? ⟨g4, 6, none⟩ = some (.slice none 0 0) := b4.cell 6
  have y0 := b4.frozen 0
  have y1 := b4.frozen 1
  have y2 := b4.frozen 2
  have y3 := b4.frozen 3
  have y4 := b4.frozen 4
  have y5 := b4.frozen 5
  have y6 := b4.frozen 6
  clear f4 t4 b4 b5 hsame hbd hbd4 hd5 hd4 fd hgd3 hx4 hx5 f3 hgl hin hrw rd rm
  go_wp2
  refine bodyPost_ret (v := .agg #[.int .i64 7, .int .i64 0, .string ⟨#[]⟩, .slice none 0 0, .slice none 0 0, .slice (some ⟨gd, 0, none⟩) 1 1, .slice none 0 0]) (by simp [results, Try.results24, go_sem, e0, e1, e2, e3, e4, e5, e6]) rfl ?_
  obtain ⟨q1, q2⟩ := norm_fin (by have := GS.out; omega) F4.out T4.out (.int .i64 7) (.int .i64 0) (.string ⟨#[]⟩) (.slice none 0 0) (.slice none 0 0) (.slice (some ⟨gd, 0, none⟩) 1 1) (.slice none 0 0)
  exact ⟨_, _, _, _, rfl, q1, q2⟩
set_option maxRecDepth 100000 in
set_option maxHeartbeats 4000000 in
theorem norm_x (B : Nat) (k n : Int) (s : List UInt8) (l : List (List UInt8)) (cl : List CellP) (fl : List FactP) (ml : List (List UInt8)) (A1 A2 A3 A4 : Option Addr) (n1 k1 n2 k2 n3 k3 n4 k4 : Nat) (w : World) (hB : B ≤ w.heap.size) (ht : ThingAt (fun k => k < B) w ⟨k, n, s, l, cl, fl, ml⟩ (.slice A1 n1 k1) (.slice A2 n2 k2) (.slice A3 n3 k3) (.slice A4 n4 k4)) (hx : k < 0 ∨ 8 < k) :
    Calls Try.prog 24 #[.agg #[.int .i64 k, .int .i64 n, sv s, .slice A1 n1 k1, .slice A2 n2 k2, .slice A3 n3 k3, .slice A4 n4 k4]] w (NPt B w (⟨k, 0, [], l, [], [], ml⟩)) := by
  obtain ⟨wa, hwa⟩ : ∃ wa, w.alloc (.cells #[.int .i64 k, .int .i64 n, sv s, .slice A1 n1 k1, .slice A2 n2 k2, .slice A3 n3 k3, .slice A4 n4 k4] 58) = wa := ⟨_, rfl⟩
  obtain ⟨wb, hwb⟩ : ∃ wb, wa.alloc (.cells #[.int .i64 0, .int .i64 0, .string ⟨#[]⟩, .slice none 0 0, .slice none 0 0, .slice none 0 0, .slice none 0 0] 58) = wb := ⟨_, rfl⟩
  obtain ⟨wc, hwc⟩ : ∃ wc, wb.alloc (.cells #[.int .i64 k, .int .i64 0, .string ⟨#[]⟩, .slice none 0 0, .slice none 0 0, .slice none 0 0, .slice none 0 0] 58) = wc := ⟨_, rfl⟩
  obtain ⟨gb, hgb⟩ : ∃ gb, w.heap.size = gb := ⟨_, rfl⟩
  obtain ⟨g4, hg4⟩ : ∃ g4, wa.heap.size = g4 := ⟨_, rfl⟩
  obtain ⟨g5, hg5⟩ : ∃ g5, wb.heap.size = g5 := ⟨_, rfl⟩
  have fa : Fr No w wa := by rw [← hwa]; exact (Fr.refl _ w).alloc _
  have fb : Fr No wa wb := by rw [← hwb]; exact (Fr.refl _ wa).alloc _
  have fc : Fr No wb wc := by rw [← hwc]; exact (Fr.refl _ wb).alloc _
  have hb0 : Blk wa gb 58 #[.int .i64 k, .int .i64 n, sv s, .slice A1 n1 k1, .slice A2 n2 k2, .slice A3 n3 k3, .slice A4 n4 k4] := by rw [← hwa, ← hgb]; exact Blk.new w 58 _
  have hb4 : Blk wb g4 58 #[.int .i64 0, .int .i64 0, .string ⟨#[]⟩, .slice none 0 0, .slice none 0 0, .slice none 0 0, .slice none 0 0] := by rw [← hwb, ← hg4]; exact Blk.new wa 58 _
  have hb5 : Blk wc g5 58 #[.int .i64 k, .int .i64 0, .string ⟨#[]⟩, .slice none 0 0, .slice none 0 0, .slice none 0 0, .slice none 0 0] := by rw [← hwc, ← hg5]; exact Blk.new wb 58 _
  have hb4c : Blk wc g4 58 #[.int .i64 0, .int .i64 0, .string ⟨#[]⟩, .slice none 0 0, .slice none 0 0, .slice none 0 0, .slice none 0 0] := hb4.of (fc.block g4 hb4.lt id)
  have hb0c := hb0.of ((fb.then fc).block gb hb0.lt id)
  have fwc : Fr No w wc := (fa.then fb).then fc
  have hgs : w.heap.size ≤ gb ∧ gb < g4 ∧ g4 < g5 ∧ g5 < wc.heap.size := ⟨by omega, by have := hb0.lt; omega, by have := hb4.lt; omega, hb5.lt⟩
  have H0 := Lib.hid hb0c
  have H4 := Lib.hid hb4c
  have H5 := Lib.hid hb5
  have FC := Lib.hid fwc
  have GS := Lib.hid hgs
  have HT := Lib.hid ht
  have HB := Lib.hid hB
  have HWA := Lib.hid hwa
  have HWB := Lib.hid hwb
  have HWC := Lib.hid hwc
  have HGB := Lib.hid hgb
  have HG4 : Hid (gb + 1 = g4) := Lib.hid (by rw [← hg4, ← hwa, ← hgb]; simp)
  have HG5 : Hid (g4 + 1 = g5) := Lib.hid (by rw [← hg5, ← hwb, ← hg4]; simp)
  have e00 : (k == 0) = false := by rw [beq_eq_false_iff_ne]; omega
  have e10 : (k == 1) = false := by rw [beq_eq_false_iff_ne]; omega
  have e20 : (k == 2) = false := by rw [beq_eq_false_iff_ne]; omega
  have e30 : (k == 3) = false := by rw [beq_eq_false_iff_ne]; omega
  have e40 : (k == 4) = false := by rw [beq_eq_false_iff_ne]; omega
  have e50 : (k == 5) = false := by rw [beq_eq_false_iff_ne]; omega
  have e60 : (k == 6) = false := by rw [beq_eq_false_iff_ne]; omega
  have e70 : (k == 7) = false := by rw [beq_eq_false_iff_ne]; omega
  have e80 : (k == 8) = false := by rw [beq_eq_false_iff_ne]; omega
  clear hx
  clear fa fb fc hb0 hb4 hb5 hb4c hb0c fwc hgs hwa hwb hwc hgb hg4 hg5 ht hB
  go_enter Try.func24, Try.ntmps24
  go_upto_region 3 with fail
  rw [HWA.out, HWB.out, HWC.out, HGB.out, HG4.out, HG5.out]
  have a1 : wc.cell? ⟨gb, 1, none⟩ = some (.int .i64 n) := H0.out.cell 1
  have a2 : wc.cell? ⟨gb, 2, none⟩ = some (sv s) := H0.out.cell 2
  have a3 : wc.cell? ⟨gb, 3, none⟩ = some (.slice A1 n1 k1) := H0.out.cell 3
  have a4 : wc.cell? ⟨gb, 4, none⟩ = some (.slice A2 n2 k2) := H0.out.cell 4
  have a5 : wc.cell? ⟨gb, 5, none⟩ = some (.slice A3 n3 k3) := H0.out.cell 5
  have a6 : wc.cell? ⟨gb, 6, none⟩ = some (.slice A4 n4 k4) := H0.out.cell 6
  have c3 : wc.cell? ⟨g5, 3, none⟩ = some (.slice none 0 0) := H5.out.cell 3
  have z3 := H5.out.frozen 3
  obtain ⟨we, hwe⟩ : ∃ we, wc.setCell ⟨g5, 3, none⟩ (.slice A1 n1 k1) = we := ⟨_, rfl⟩
  have be5 := H5.out.set_ 3 (.slice A1 n1 k1)
  rw [hwe] at be5
  have hse : ∀ j, j ≠ g5 → we.heap[j]? = wc.heap[j]? := fun j hj => by rw [← hwe]; exact Below.heap_setCell _ _ _ j hj
  have g6 : we.cell? ⟨gb, 6, none⟩ = some (.slice A4 n4 k4) := (H0.out.of (hse gb (by have := GS.out; omega))).cell 6
  have c6 : we.cell? ⟨g5, 6, none⟩ = some (.slice none 0 0) := be5.cell 6
  have z6 := be5.frozen 6
  obtain ⟨w4, hw4⟩ : ∃ w4, we.setCell ⟨g5, 6, none⟩ (.slice A4 n4 k4) = w4 := ⟨_, rfl⟩
  have b5 := be5.set_ 6 (.slice A4 n4 k4)
  rw [hw4] at b5
  have b4 : Blk w4 g4 58 #[.int .i64 0, .int .i64 0, .string ⟨#[]⟩, .slice none 0 0, .slice none 0 0, .slice none 0 0, .slice none 0 0] := by rw [← hw4]; exact (H4.out.of (hse g4 (by have := GS.out; omega))).of (Below.heap_setCell _ _ _ g4 (by have := GS.out; show g4 ≠ g5; omega))
  have f4 : Fr No w w4 := by
    rw [← hw4, ← hwe]
    exact (FC.out.setCell (p := ⟨g5, 3, none⟩) (fun h => absurd h (by have := GS.out; show ¬ g5 < w.heap.size; omega)) _).setCell (p := ⟨g5, 6, none⟩) (fun h => absurd h (by have := GS.out; show ¬ g5 < w.heap.size; omega)) _
  have hin : ∀ j, j < B → ((j < B ∨ w.heap.size ≤ j) ∧ j < w4.heap.size) ∧ j ≠ g4 := fun j hj => ⟨⟨Or.inl hj, by have := f4.size; have := HB.out; omega⟩, by have := GS.out; have := HB.out; omega⟩
  have hrw : ∀ j, j < B → w4.heap[j]? = w.heap[j]? := fun j hj => f4.block j (Nat.lt_of_lt_of_le hj HB.out) id
  have t4 : ThingAt (fun k => ((k < B ∨ w.heap.size ≤ k) ∧ k < w4.heap.size) ∧ k ≠ g4) w4 (⟨k, 0, [], l, [], [], ml⟩) (.slice A1 n1 k1) (.slice none 0 0) (.slice none 0 0) (.slice A4 n4 k4) := ⟨HT.out.kb, i64_small 0 (by omega), by simp, (HT.out.l.of (w' := w4) hrw fun _ _ h => h).mono hin, RowE.nil _ _ _ _ _, RowE.nil _ _ _ _ _, (HT.out.m.of (w' := w4) hrw fun _ _ h => h).mono hin⟩
  have F4 := Lib.hid f4
  have T4 := Lib.hid t4
  have d0 : w4.cell? ⟨g5, 0, none⟩ = some (.int .i64 k) := b5.cell 0
  have d1 : w4.cell? ⟨g5, 1, none⟩ = some (.int .i64 0) := b5.cell 1
  have d2 : w4.cell? ⟨g5, 2, none⟩ = some (.string ⟨#[]⟩) := b5.cell 2
  have d3 : w4.cell? ⟨g5, 3, none⟩ = some (.slice A1 n1 k1) := b5.cell 3
  have d4 : w4.cell? ⟨g5, 4, none⟩ = some (.slice none 0 0) := b5.cell 4
  have d5 : w4.cell? ⟨g5, 5, none⟩ = some (.slice none 0 0) := b5.cell 5
  have d6 : w4.cell? ⟨g5, 6, none⟩ = some (.slice A4 n4 k4) := b5.cell 6
  have e0 : w4.cell? ⟨g4, 0, none⟩ = some (.int .i64 0) := b4.cell 0
  have e1 : w4.cell? ⟨g4, 1, none⟩ = some (.int .i64 0) := b4.cell 1
  have e2 : w4.cell? ⟨g4, 2, none⟩ = some (.string ⟨#[]⟩) := b4.cell 2
  have e3 : w4.cell? ⟨g4, 3, none⟩ = some (.slice none 0 0) := b4.cell 3
  have e4 : w4.cell? ⟨g4, 4, none⟩ = some (.slice none 0 0) := b4.cell 4
  have e5 : w4.cell? ⟨g4, 5, none⟩ = some (.slice none 0 0) := b4.cell 5
  have e6 : w4.cell? ⟨g4, 6, none⟩ = some (.slice none 0 0) := b4.cell 6
  have y0 := b4.frozen 0
  have y1 := b4.frozen 1
  have y2 := b4.frozen 2
  have y3 := b4.frozen 3
  have y4 := b4.frozen 4
  have y5 := b4.frozen 5
  have y6 := b4.frozen 6
  clear f4 t4 b4 b5 hse be5 hin hrw
  go_wp2
  refine bodyPost_ret (v := .agg #[.int .i64 k, .int .i64 0, .string ⟨#[]⟩, .slice A1 n1 k1, .slice none 0 0, .slice none 0 0, .slice A4 n4 k4]) (by simp [results, Try.results24, go_sem, e0, e1, e2, e3, e4, e5, e6]) rfl ?_
  obtain ⟨q1, q2⟩ := norm_fin (by have := GS.out; omega) F4.out T4.out (.int .i64 k) (.int .i64 0) (.string ⟨#[]⟩) (.slice A1 n1 k1) (.slice none 0 0) (.slice none 0 0) (.slice A4 n4 k4)
  exact ⟨_, _, _, _, rfl, q1, q2⟩

theorem norm_any (B : Nat) (t : ThingP) (lv cv fv mv : Value) (w : World) (hB : B ≤ w.heap.size) (ht : ThingAt (fun k => k < B) w t lv cv fv mv) :
    Calls Try.prog 24 #[.agg (tcells t lv cv fv mv).toArray] w (NPt B w (normal t)) := by
  obtain ⟨A1, n1, k1, rfl⟩ := ht.l.slice
  obtain ⟨A2, n2, k2, rfl⟩ := ht.c.slice
  obtain ⟨A3, n3, k3, rfl⟩ := ht.f.slice
  obtain ⟨A4, n4, k4, rfl⟩ := ht.m.slice
  obtain ⟨k, n, s, l, cl, fl, ml⟩ := t
  by_cases h0 : k = 0
  · subst h0; exact norm_0 B n s l cl fl ml A1 A2 A3 A4 n1 k1 n2 k2 n3 k3 n4 k4 w hB ht
  by_cases h1 : k = 1
  · subst h1; exact norm_1 B n s l cl fl ml A1 A2 A3 A4 n1 k1 n2 k2 n3 k3 n4 k4 w hB ht
  by_cases h2 : k = 2
  · subst h2; exact norm_2 B n s l cl fl ml A1 A2 A3 A4 n1 k1 n2 k2 n3 k3 n4 k4 w hB ht
  by_cases h3 : k = 3
  · subst h3; exact norm_3 B n s l cl fl ml A1 A2 A3 A4 n1 k1 n2 k2 n3 k3 n4 k4 w hB ht
  by_cases h4 : k = 4
  · subst h4; exact norm_4 B n s l cl fl ml A1 A2 A3 A4 n1 k1 n2 k2 n3 k3 n4 k4 w hB ht
  by_cases h5 : k = 5
  · subst h5; exact norm_5 B n s l cl fl ml A1 A2 A3 A4 n1 k1 n2 k2 n3 k3 n4 k4 w hB ht
  by_cases h6 : k = 6
  · subst h6; exact norm_6 B n s l cl fl ml A1 A2 A3 A4 n1 k1 n2 k2 n3 k3 n4 k4 w hB ht
  by_cases h7 : k = 7
  · subst h7; exact norm_7 B n s l cl fl ml A1 A2 A3 A4 n1 k1 n2 k2 n3 k3 n4 k4 w hB ht
  by_cases h8 : k = 8
  · subst h8; exact norm_8 B n s l cl fl ml A1 A2 A3 A4 n1 k1 n2 k2 n3 k3 n4 k4 w hB ht
  have e : normal ⟨k, n, s, l, cl, fl, ml⟩ = ⟨k, 0, [], l, [], [], ml⟩ := by
    unfold normal
    simp only [h0, h1, h2, h3, h4, h5, h6, h7, h8, if_false]
  rw [e]
  exact norm_x B k n s l cl fl ml A1 A2 A3 A4 n1 k1 n2 k2 n3 k3 n4 k4 w hB ht (by omega)
end Go.Proofs.Ytcncnponhhcjhaa
