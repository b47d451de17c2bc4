/- take, by the document's reader: the last kind, and all. -/
import Derived.Test.YtjhjcdfhfjeogaaP9
import Derived.Deep.DeepCutAuto
namespace Go.Proofs.Ytjhjcdfhfjeogaa
open Go.RowKit Go.Maps
set_option linter.unusedVariables false

set_option maxRecDepth 100000 in
set_option maxHeartbeats 4000000 in
theorem dtk_x (g : Nat) (S : RS) (k n : Int) (s : List UInt8) (A1 A2 A3 A4 : Option Addr) (n1 k1 n2 k2 n3 k3 n4 k4 : Nat) (hkb : i64 (k)) (w : World) (h : DAt w g S) (hx : k < 0 ∨ 8 < k) :
    Calls Try.prog 31 #[dpt g, .agg #[.int .i64 k, .int .i64 n, sv s, .slice A1 n1 k1, .slice A2 n2 k2, .slice A3 n3 k3, .slice A4 n4 k4]] w (DPt g w (⟨k, 0, [], S.schema.1.1, [], [], S.schema.1.2⟩) (S.schema.2)) := by
  obtain ⟨wa, hwa⟩ : ∃ wa, w.alloc (.cells #[.int .i64 k, .int .i64 n, sv s, .slice A1 n1 k1, .slice A2 n2 k2, .slice A3 n3 k3, .slice A4 n4 k4] 58) = wa := ⟨_, rfl⟩
  obtain ⟨wb, hwb⟩ : ∃ wb, wa.alloc (.cells #[.int .i64 0, .int .i64 0, .string ⟨#[]⟩, .slice none 0 0, .slice none 0 0, .slice none 0 0, .slice none 0 0] 58) = wb := ⟨_, rfl⟩
  obtain ⟨wc, hwc⟩ : ∃ wc, wb.alloc (.cells #[.int .i64 k, .int .i64 0, .string ⟨#[]⟩, .slice none 0 0, .slice none 0 0, .slice none 0 0, .slice none 0 0] 58) = wc := ⟨_, rfl⟩
  obtain ⟨gb, hgb⟩ : ∃ gb, w.heap.size = gb := ⟨_, rfl⟩
  obtain ⟨g4, hg4⟩ : ∃ g4, wa.heap.size = g4 := ⟨_, rfl⟩
  obtain ⟨g5, hg5⟩ : ∃ g5, wb.heap.size = g5 := ⟨_, rfl⟩
  have fa : Fr (DFt g) w wa := by rw [← hwa]; exact (Fr.refl _ w).alloc _
  have fb : Fr No wa wb := by rw [← hwb]; exact (Fr.refl _ wa).alloc _
  have fc : Fr No wb wc := by rw [← hwc]; exact (Fr.refl _ wb).alloc _
  have hb4 : Blk wb g4 58 #[.int .i64 0, .int .i64 0, .string ⟨#[]⟩, .slice none 0 0, .slice none 0 0, .slice none 0 0, .slice none 0 0] := by rw [← hwb, ← hg4]; exact Blk.new wa 58 _
  have hb5 : Blk wc g5 58 #[.int .i64 k, .int .i64 0, .string ⟨#[]⟩, .slice none 0 0, .slice none 0 0, .slice none 0 0, .slice none 0 0] := by rw [← hwc, ← hg5]; exact Blk.new wb 58 _
  have hb4c : Blk wc g4 58 #[.int .i64 0, .int .i64 0, .string ⟨#[]⟩, .slice none 0 0, .slice none 0 0, .slice none 0 0, .slice none 0 0] := hb4.of (fc.block g4 hb4.lt id)
  have fwc : Fr (DFt g) w wc := (fa.then fb.any).then fc.any
  have hrc : DAt wc g S := h.of' fun k hk => by
    have hlt := h.lt' k hk
    have e1 : wa.heap[k]? = w.heap[k]? := by rw [← hwa]; exact Below.heap_alloc w _ k hlt
    rw [fc.block k (by have := fa.size; have := fb.size; omega) id, fb.block k (by have := fa.size; omega) id, e1]
  have hpg : ∀ k, DFt g k → k < w.heap.size := h.lt'
  have hgs : w.heap.size ≤ g4 ∧ g4 < g5 ∧ g5 < wc.heap.size := ⟨by have := fa.size; omega, by have := hb4.lt; omega, hb5.lt⟩
  have HR := Lib.hid hrc
  have H4 := Lib.hid hb4c
  have H5 := Lib.hid hb5
  have FC := Lib.hid fwc
  have PG := Lib.hid hpg
  have GS := Lib.hid hgs
  have KB := Lib.hid hkb
  have HWA := Lib.hid hwa
  have HWB := Lib.hid hwb
  have HWC := Lib.hid hwc
  have HGB := Lib.hid hgb
  have HG4 : Hid (gb + 1 = g4) := Lib.hid (by rw [← hg4, ← hwa, ← hgb]; simp)
  have HG5 : Hid (g4 + 1 = g5) := Lib.hid (by rw [← hg5, ← hwb, ← hg4]; simp)
  have e00 : (k == 0) = false := by rw [beq_eq_false_iff_ne]; omega
  have e10 : (k == 1) = false := by rw [beq_eq_false_iff_ne]; omega
  have e20 : (k == 2) = false := by rw [beq_eq_false_iff_ne]; omega
  have e30 : (k == 3) = false := by rw [beq_eq_false_iff_ne]; omega
  have e40 : (k == 4) = false := by rw [beq_eq_false_iff_ne]; omega
  have e50 : (k == 5) = false := by rw [beq_eq_false_iff_ne]; omega
  have e60 : (k == 6) = false := by rw [beq_eq_false_iff_ne]; omega
  have e70 : (k == 7) = false := by rw [beq_eq_false_iff_ne]; omega
  have e80 : (k == 8) = false := by rw [beq_eq_false_iff_ne]; omega
  clear hx
  have PB5 : Hid (g < w.heap.size) := Lib.hid h.lt
  have HSC : Hid (S.schema = (if S.texts.2.texts.2.fault = 0 then (S.texts.1, S.texts.2.texts.1) else ([], []), S.texts.2.texts.2)) := Lib.hid rfl
  have HT2 : Hid (S.texts.2.texts = (if (seq RS.text (S.texts.2.many 4).1 (S.texts.2.many 4).2).2.fault = 0 then (seq RS.text (S.texts.2.many 4).1 (S.texts.2.many 4).2).1 else [], (seq RS.text (S.texts.2.many 4).1 (S.texts.2.many 4).2).2)) := Lib.hid rfl
  clear fa fb fc hb4 hb5 hb4c fwc hrc hpg hgs hwa hwb hwc hgb hg4 hg5 h hkb
  unfold dpt
  go_enter Try.func31, Try.ntmps31
  go_wp2_with fail
  rw [HWA.out, HWB.out, HWC.out, HGB.out, HG4.out, HG5.out]
  have HCA := dtexts_r g S wc HR.out
  unfold dpt at HCA
  refine HCA.mono ?_
  clear HCA
  rintro e w3 ⟨V1, rfl, h3, f3, r3⟩
  have R3 := Lib.hid (show RowE (fun k => wc.heap.size ≤ k ∧ k < w3.heap.size) w3 1 strE V1 S.texts.1 from r3.bound (by omega))
  obtain ⟨B1, m1, q1, rfl⟩ := r3.slice
  have hx4 := H4.out.of (f3.block g4 H4.out.lt fun e => by have := PG.out g4 e; have := GS.out; omega)
  have hx5 := H5.out.of (f3.block g5 H5.out.lt fun e => by have := PG.out g5 e; have := GS.out; omega)
  have F3 := Lib.hid (FC.out.then f3)
  have S3 := Lib.hid f3.size
  have c3 : w3.cell? ⟨g5, 3, none⟩ = some (.slice none 0 0) := hx5.cell 3
  have z3 := hx5.frozen 3
  obtain ⟨we, hwe⟩ : ∃ we, w3.setCell ⟨g5, 3, none⟩ (.slice B1 m1 q1) = we := ⟨_, rfl⟩
  have be5 : Blk we g5 58 #[.int .i64 k, .int .i64 0, .string ⟨#[]⟩, .slice B1 m1 q1, .slice none 0 0, .slice none 0 0, .slice none 0 0] := by rw [← hwe]; exact hx5.set_ 3 (.slice B1 m1 q1)
  have hse : ∀ j, j ≠ g5 → we.heap[j]? = w3.heap[j]? := fun j hj => by rw [← hwe]; exact Below.heap_setCell _ _ _ j hj
  have be4 := hx4.of (hse g4 (by have := GS.out; omega))
  have he : DAt we g S.texts.2 := h3.of (hse g (by have := GS.out; have := PB5.out; omega))
  have fe : Fr (DFt g) w we := by rw [← hwe]; exact F3.out.setCell (p := ⟨g5, 3, none⟩) (fun h => absurd h (by have := GS.out; show ¬ g5 < w.heap.size; omega)) _
  have re : RowE (fun k => wc.heap.size ≤ k ∧ k < we.heap.size) we 1 strE (.slice B1 m1 q1) S.texts.1 := (R3.out.of (fun j hj => hse j (by have := GS.out; omega)) fun _ _ h => h).mono fun k hk => ⟨hk.1, by rw [← hwe]; simpa [World.setCell] using hk.2⟩
  have HEA := Lib.hid he
  have FE := Lib.hid fe
  have RE := Lib.hid re
  have BE5 := Lib.hid be5
  have BE4 := Lib.hid be4
  have SE : Hid (wc.heap.size ≤ we.heap.size) := Lib.hid (by rw [← hwe]; simpa [World.setCell] using S3.out)
  have HWE := Lib.hid hwe
  clear he fe re be5 be4 hx4 hx5 f3 h3 r3 hse hwe
  go_wp2_with fail
  rw [HWE.out]
  have HCB := dtexts_r g S.texts.2 we HEA.out
  unfold dpt at HCB
  refine HCB.mono ?_
  clear HCB
  rintro e w6 ⟨V2, rfl, h6, f6, r6⟩
  have R6 := Lib.hid (show RowE (fun k => we.heap.size ≤ k ∧ k < w6.heap.size) w6 1 strE V2 S.texts.2.texts.1 from r6.bound (by omega))
  obtain ⟨B2, m2, q2, rfl⟩ := r6.slice
  have hx4 := BE4.out.of (f6.block g4 BE4.out.lt fun e => by have := PG.out g4 e; have := GS.out; omega)
  have hx5 := BE5.out.of (f6.block g5 BE5.out.lt fun e => by have := PG.out g5 e; have := GS.out; omega)
  have R3' : Hid (RowE (fun k => wc.heap.size ≤ k ∧ k < we.heap.size) w6 1 strE (.slice B1 m1 q1) S.texts.1) := Lib.hid (RE.out.of (fun j hj => f6.block j hj.2 fun e => by have := PG.out j e; have := GS.out; omega) fun _ _ h => h)
  have F6 := Lib.hid (FE.out.then f6)
  have c6 : w6.cell? ⟨g5, 6, none⟩ = some (.slice none 0 0) := hx5.cell 6
  have z6 := hx5.frozen 6
  obtain ⟨w7, hw7⟩ : ∃ w7, w6.setCell ⟨g5, 6, none⟩ (.slice B2 m2 q2) = w7 := ⟨_, rfl⟩
  have b75 : Blk w7 g5 58 #[.int .i64 k, .int .i64 0, .string ⟨#[]⟩, .slice B1 m1 q1, .slice none 0 0, .slice none 0 0, .slice B2 m2 q2] := by rw [← hw7]; exact hx5.set_ 6 (.slice B2 m2 q2)
  have hs7 : ∀ j, j ≠ g5 → w7.heap[j]? = w6.heap[j]? := fun j hj => by rw [← hw7]; exact Below.heap_setCell _ _ _ j hj
  have b74 := hx4.of (hs7 g4 (by have := GS.out; omega))
  have h7 : DAt w7 g S.texts.2.texts.2 := DAt.of (S := S.texts.2.texts.2) h6 (hs7 g (by have := GS.out; have := PB5.out; omega))
  have f7 : Fr (DFt g) w w7 := by rw [← hw7]; exact F6.out.setCell (p := ⟨g5, 6, none⟩) (fun h => absurd h (by have := GS.out; show ¬ g5 < w.heap.size; omega)) _
  have HW7 := Lib.hid hw7
  have c7 : w7.cell? ⟨g, 1, none⟩ = some (.int .i64 S.texts.2.texts.2.fault) := h7.blk.cell 1
  by_cases hz : S.texts.2.texts.2.fault = 0
  · rw [hz] at c7
    have HE : Hid (S.schema = ((S.texts.1, S.texts.2.texts.1), S.texts.2.texts.2)) := Lib.hid (by rw [HSC.out, if_pos hz])
    have t4 : ThingAt (fun k => w.heap.size ≤ k ∧ k ≠ g4) w7 (⟨k, 0, [], S.schema.1.1, [], [], S.schema.1.2⟩) (.slice B1 m1 q1) (.slice none 0 0) (.slice none 0 0) (.slice B2 m2 q2) := by
      rw [HE.out]
      exact ⟨KB.out, i64_small 0 (by omega), by simp, (R3'.out.of (fun j hj => hs7 j (by have := GS.out; have := hj.1; omega)) fun _ _ h => h).mono (fun k hk => ⟨by have := GS.out; have := hk.1; omega, by have := GS.out; have := hk.1; omega⟩), RowE.nil _ _ _ _ _, RowE.nil _ _ _ _ _, (R6.out.of (fun j hj => hs7 j (by have := GS.out; have := SE.out; have := hj.1; omega)) fun _ _ h => h).mono (fun k hk => ⟨by have := GS.out; have := SE.out; have := hk.1; omega, by have := GS.out; have := SE.out; have := hk.1; omega⟩)⟩
    have h4 : DAt w7 g S.schema.2 := by rw [HE.out]; exact h7
    have HR4 := Lib.hid h4
    have F4 := Lib.hid f7
    have T4 := Lib.hid t4
    have d0 : w7.cell? ⟨g5, 0, none⟩ = some (.int .i64 k) := b75.cell 0
    have d1 : w7.cell? ⟨g5, 1, none⟩ = some (.int .i64 0) := b75.cell 1
    have d2 : w7.cell? ⟨g5, 2, none⟩ = some (.string ⟨#[]⟩) := b75.cell 2
    have d3 : w7.cell? ⟨g5, 3, none⟩ = some (.slice B1 m1 q1) := b75.cell 3
    have d4 : w7.cell? ⟨g5, 4, none⟩ = some (.slice none 0 0) := b75.cell 4
    have d5 : w7.cell? ⟨g5, 5, none⟩ = some (.slice none 0 0) := b75.cell 5
    have d6 : w7.cell? ⟨g5, 6, none⟩ = some (.slice B2 m2 q2) := b75.cell 6
    have e0 : w7.cell? ⟨g4, 0, none⟩ = some (.int .i64 0) := b74.cell 0
    have e1 : w7.cell? ⟨g4, 1, none⟩ = some (.int .i64 0) := b74.cell 1
    have e2 : w7.cell? ⟨g4, 2, none⟩ = some (.string ⟨#[]⟩) := b74.cell 2
    have e3 : w7.cell? ⟨g4, 3, none⟩ = some (.slice none 0 0) := b74.cell 3
    have e4 : w7.cell? ⟨g4, 4, none⟩ = some (.slice none 0 0) := b74.cell 4
    have e5 : w7.cell? ⟨g4, 5, none⟩ = some (.slice none 0 0) := b74.cell 5
    have e6 : w7.cell? ⟨g4, 6, none⟩ = some (.slice none 0 0) := b74.cell 6
    have y0 := b74.frozen 0
    have y1 := b74.frozen 1
    have y2 := b74.frozen 2
    have y3 := b74.frozen 3
    have y4 := b74.frozen 4
    have y5 := b74.frozen 5
    have y6 := b74.frozen 6
    clear h4 f7 t4 b74 b75 hx4 hx5 f6 h6 r6 hs7 hw7 h7 hz
    go_upto_region 5 with fail
    rw [HW7.out]
    go_wp2
    refine bodyPost_ret (v := .agg #[.int .i64 k, .int .i64 0, .string ⟨#[]⟩, .slice B1 m1 q1, .slice none 0 0, .slice none 0 0, .slice B2 m2 q2]) (by simp [results, Try.results31, go_sem, e0, e1, e2, e3, e4, e5, e6]) rfl ?_
    obtain ⟨q1, q2, q3⟩ := dtk_fin GS.out.1 HR4.out PG.out F4.out T4.out (.int .i64 k) (.int .i64 0) (.string ⟨#[]⟩) (.slice B1 m1 q1) (.slice none 0 0) (.slice none 0 0) (.slice B2 m2 q2)
    exact ⟨_, _, _, _, rfl, q1, q2, q3⟩
  · have hd : (S.texts.2.texts.2.fault != 0) = true := by simpa using hz
    have HE : Hid (S.schema = (([], []), S.texts.2.texts.2)) := Lib.hid (by rw [HSC.out, if_neg hz])
    have hm2 : S.texts.2.texts.1 = [] := by
      have e1 := HT2.out
      have e2 : (seq RS.text (S.texts.2.many 4).1 (S.texts.2.many 4).2).2.fault ≠ 0 := by rw [e1] at hz; exact hz
      rw [e1, if_neg e2]
    clear hz
    have y35 : w7.cell? ⟨g5, 3, none⟩ = some (.slice B1 m1 q1) := b75.cell 3
    have x35 := b75.frozen 3
    obtain ⟨w4, hw4⟩ : ∃ w4, w7.setCell ⟨g5, 3, none⟩ (.slice none 0 0) = w4 := ⟨_, rfl⟩
    have hs8 : ∀ j, j ≠ g5 → w4.heap[j]? = w7.heap[j]? := fun j hj => by rw [← hw4]; exact Below.heap_setCell _ _ _ j hj
    have b85 : Blk w4 g5 58 #[.int .i64 k, .int .i64 0, .string ⟨#[]⟩, .slice none 0 0, .slice none 0 0, .slice none 0 0, .slice B2 m2 q2] := by rw [← hw4]; exact b75.set_ 3 (.slice none 0 0)
    have b84 := b74.of (hs8 g4 (by have := GS.out; omega))
    have h8 : DAt w4 g S.schema.2 := by rw [HE.out]; exact h7.of (hs8 g (by have := GS.out; have := PB5.out; omega))
    have f8 : Fr (DFt g) w w4 := by rw [← hw4]; exact f7.setCell (p := ⟨g5, 3, none⟩) (fun h => absurd h (by have := GS.out; show ¬ g5 < w.heap.size; omega)) _
    have t8 : ThingAt (fun k => w.heap.size ≤ k ∧ k ≠ g4) w4 (⟨k, 0, [], S.schema.1.1, [], [], S.schema.1.2⟩) (.slice none 0 0) (.slice none 0 0) (.slice none 0 0) (.slice B2 m2 q2) := by
      rw [HE.out]
      have hr := R6.out
      rw [hm2] at hr
      exact ⟨KB.out, i64_small 0 (by omega), by simp, RowE.nil _ _ _ _ _, RowE.nil _ _ _ _ _, RowE.nil _ _ _ _ _, (hr.of (fun j hj => by rw [hs8 j (by have := GS.out; have := SE.out; have := hj.1; omega)]; exact hs7 j (by have := GS.out; have := SE.out; have := hj.1; omega)) fun _ _ h => h).mono (fun k hk => ⟨by have := GS.out; have := SE.out; have := hk.1; omega, by have := GS.out; have := SE.out; have := hk.1; omega⟩)⟩
    have HR4 := Lib.hid h8
    have F4 := Lib.hid f8
    have T4 := Lib.hid t8
    have d0 : w4.cell? ⟨g5, 0, none⟩ = some (.int .i64 k) := b85.cell 0
    have d1 : w4.cell? ⟨g5, 1, none⟩ = some (.int .i64 0) := b85.cell 1
    have d2 : w4.cell? ⟨g5, 2, none⟩ = some (.string ⟨#[]⟩) := b85.cell 2
    have d3 : w4.cell? ⟨g5, 3, none⟩ = some (.slice none 0 0) := b85.cell 3
    have d4 : w4.cell? ⟨g5, 4, none⟩ = some (.slice none 0 0) := b85.cell 4
    have d5 : w4.cell? ⟨g5, 5, none⟩ = some (.slice none 0 0) := b85.cell 5
    have d6 : w4.cell? ⟨g5, 6, none⟩ = some (.slice B2 m2 q2) := b85.cell 6
    have e0 : w4.cell? ⟨g4, 0, none⟩ = some (.int .i64 0) := b84.cell 0
    have e1 : w4.cell? ⟨g4, 1, none⟩ = some (.int .i64 0) := b84.cell 1
    have e2 : w4.cell? ⟨g4, 2, none⟩ = some (.string ⟨#[]⟩) := b84.cell 2
    have e3 : w4.cell? ⟨g4, 3, none⟩ = some (.slice none 0 0) := b84.cell 3
    have e4 : w4.cell? ⟨g4, 4, none⟩ = some (.slice none 0 0) := b84.cell 4
    have e5 : w4.cell? ⟨g4, 5, none⟩ = some (.slice none 0 0) := b84.cell 5
    have e6 : w4.cell? ⟨g4, 6, none⟩ = some (.slice none 0 0) := b84.cell 6
    have y0 := b84.frozen 0
    have y1 := b84.frozen 1
    have y2 := b84.frozen 2
    have y3 := b84.frozen 3
    have y4 := b84.frozen 4
    have y5 := b84.frozen 5
    have y6 := b84.frozen 6
    clear h8 f8 t8 b84 b85 b74 b75 hx4 hx5 f6 h6 r6 hs7 hs8 hw7 h7 f7 hm2
    go_upto_region 5 with fail
    rw [HW7.out]
    go_wp2
    refine bodyPost_ret (v := .agg #[.int .i64 k, .int .i64 0, .string ⟨#[]⟩, .slice none 0 0, .slice none 0 0, .slice none 0 0, .slice B2 m2 q2]) (by simp [results, Try.results31, go_sem, e0, e1, e2, e3, e4, e5, e6]) rfl ?_
    obtain ⟨q1, q2, q3⟩ := dtk_fin GS.out.1 HR4.out PG.out F4.out T4.out (.int .i64 k) (.int .i64 0) (.string ⟨#[]⟩) (.slice none 0 0) (.slice none 0 0) (.slice none 0 0) (.slice B2 m2 q2)
    exact ⟨_, _, _, _, rfl, q1, q2, q3⟩

theorem dtk_any (g : Nat) (S : RS) (K : Nat → Prop) (t : ThingP) (lv cv fv mv : Value) (w : World) (h : DAt w g S) (ht : ThingAt K w t lv cv fv mv) :
    Calls Try.prog 31 #[dpt g, .agg (tcells t lv cv fv mv).toArray] w (DPt g w (S.thing t).1 (S.thing t).2) := by
  obtain ⟨A1, n1, k1, rfl⟩ := ht.l.slice
  obtain ⟨A2, n2, k2, rfl⟩ := ht.c.slice
  obtain ⟨A3, n3, k3, rfl⟩ := ht.f.slice
  obtain ⟨A4, n4, k4, rfl⟩ := ht.m.slice
  have hkb := ht.kb
  obtain ⟨k, n, s, l, cl, fl, ml⟩ := t
  by_cases h0 : k = 0
  · subst h0; exact dtk_0 g S n s A1 A2 A3 A4 n1 k1 n2 k2 n3 k3 n4 k4 hkb w h
  by_cases h1 : k = 1
  · subst h1; exact dtk_1 g S n s A1 A2 A3 A4 n1 k1 n2 k2 n3 k3 n4 k4 hkb w h
  by_cases h2 : k = 2
  · subst h2; exact dtk_2 g S n s A1 A2 A3 A4 n1 k1 n2 k2 n3 k3 n4 k4 hkb w h
  by_cases h3 : k = 3
  · subst h3; exact dtk_3 g S n s A1 A2 A3 A4 n1 k1 n2 k2 n3 k3 n4 k4 hkb w h
  by_cases h4 : k = 4
  · subst h4; exact dtk_4 g S n s A1 A2 A3 A4 n1 k1 n2 k2 n3 k3 n4 k4 hkb w h
  by_cases h5 : k = 5
  · subst h5; exact dtk_5 g S n s A1 A2 A3 A4 n1 k1 n2 k2 n3 k3 n4 k4 hkb w h
  by_cases h6 : k = 6
  · subst h6; exact dtk_6 g S n s A1 A2 A3 A4 n1 k1 n2 k2 n3 k3 n4 k4 hkb w h
  by_cases h7 : k = 7
  · subst h7; exact dtk_7 g S n s A1 A2 A3 A4 n1 k1 n2 k2 n3 k3 n4 k4 hkb w h
  by_cases h8 : k = 8
  · subst h8; exact dtk_8 g S n s A1 A2 A3 A4 n1 k1 n2 k2 n3 k3 n4 k4 hkb w h
  have e : S.thing ⟨k, n, s, l, cl, fl, ml⟩ = (⟨k, 0, [], S.schema.1.1, [], [], S.schema.1.2⟩, S.schema.2) := by
    unfold RS.thing
    simp only [h0, h1, h2, h3, h4, h5, h6, h7, h8, if_false]
  rw [e]
  exact dtk_x g S k n s A1 A2 A3 A4 n1 k1 n2 k2 n3 k3 n4 k4 hkb w h (by omega)
end Go.Proofs.Ytjhjcdfhfjeogaa
