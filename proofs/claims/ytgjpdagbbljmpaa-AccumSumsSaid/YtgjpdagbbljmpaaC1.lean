/- AccumSums, walked. -/
import Derived.Test.YtgjpdagbbljmpaaB8
namespace Go.Proofs.Ytgjpdagbbljmpaa
open Go.RowKit Go.Maps Go.Sort
set_option linter.unusedVariables false

set_option maxRecDepth 100000 in
set_option maxHeartbeats 4000000 in
theorem sums_law (a b : Sm) (n : Int) (ha : a.ok) (hb : b.ok) (hn : i64 n) (w : World) : Calls Try.prog 3 #[smV a, smV b, .int .i64 n] w (TellsB true w) := by
  have HAW : Hid (∀ w', Calls Try.prog 10 #[] w' (TellsB true w')) := Lib.hid fun w' => awake_any w'
  obtain ⟨v, hv⟩ : ∃ v, valS a = v := ⟨_, rfl⟩
  obtain ⟨f, hf⟩ : ∃ f, fitS a = f := ⟨_, rfl⟩
  have hV1 := value_any a ha
  have hV2 := rvalue_any a ha
  rw [hv, hf] at hV1 hV2
  have hP1 := plus_any a b ha hb
  have hP2 := rplus_any a b ha hb
  have hA1 := add_any a n ha hn
  have hA2 := radd_any a n ha hn
  have hM1 := minus_any a ha
  have hM2 := rminus_any a ha
  have hT1 := text_any a ha
  have hT2 := rtext_any a ha
  obtain ⟨⟨ph, pl⟩, hp⟩ : ∃ s, plusS a b = s := ⟨_, rfl⟩
  obtain ⟨⟨dh, dl⟩, hd⟩ : ∃ s, addS a n = s := ⟨_, rfl⟩
  obtain ⟨⟨mh, ml⟩, hm⟩ : ∃ s, minusS a = s := ⟨_, rfl⟩
  obtain ⟨t, ht⟩ : ∃ s, textS a = s := ⟨_, rfl⟩
  rw [hp] at hP1 hP2
  rw [hd] at hA1 hA2
  rw [hm] at hM1 hM2
  rw [ht] at hT1 hT2
  obtain ⟨bt, hbt⟩ : ∃ x : ByteArray, (⟨t.toArray⟩ : ByteArray) = x := ⟨_, rfl⟩
  have hT1' : ∀ w', Calls Try.prog 19 #[smV a] w' (TellsV (.string bt) w') := fun w' => by rw [← hbt]; exact hT1 w'
  have hT2' : ∀ w', Calls Try.prog 20 #[smV a] w' (TellsV (.string bt) w') := fun w' => by rw [← hbt]; exact hT2 w'
  obtain ⟨ah, al⟩ := a
  obtain ⟨bh, bl⟩ := b
  have HV1 : Hid (∀ w', Calls Try.prog 11 #[.agg #[.int .i64 ah, .int .u64 al]] w' (TellsV (.tuple #[.int .i64 v, .bool f]) w')) := Lib.hid hV1
  have HV2 : Hid (∀ w', Calls Try.prog 12 #[.agg #[.int .i64 ah, .int .u64 al]] w' (TellsV (.tuple #[.int .i64 v, .bool f]) w')) := Lib.hid hV2
  obtain ⟨b0, hb0⟩ : ∃ b, w.heap.size = b := ⟨_, rfl⟩
  obtain ⟨w1, hw1⟩ : ∃ w1, (w.alloc (.cells #[.int .i64 ah, .int .u64 al] 24)).alloc (.cells #[.int .i64 bh, .int .u64 bl] 24) = w1 := ⟨_, rfl⟩
  have f1 : Fr No w w1 := by rw [← hw1]; exact ((Fr.refl No w).alloc _).alloc _
  have hx : Blk w1 b0 24 #[.int .i64 ah, .int .u64 al] := by rw [← hw1, ← hb0]; exact (Blk.new w 24 _).no ((Fr.refl No _).alloc _)
  have hy : Blk w1 (b0 + 1) 24 #[.int .i64 bh, .int .u64 bl] := by rw [← hw1, ← hb0]; exact blk_at1 w _ 24 _
  have HX := Lib.hid hx
  have HY := Lib.hid hy
  have HW1 := Lib.hid hw1
  have HB0 := Lib.hid hb0
  have HF1 := Lib.hid f1
  clear hv hf hV1 hV2 hp hd hm ht hT1 hT2 hbt hx hy hw1 hb0 f1 ha hb hn
  go_enter Try.func3, Try.ntmps3
  go_upto_region 1 with fail
  rw [HW1.out, HB0.out]
  go_upto_region 2 with (go_at_call 10; refine (HAW.out _).mono ?_; rintro e w2 ⟨rfl, f2⟩; have HF2 := Lib.hid f2; clear f2)
  obtain ⟨x0, x1, -, -⟩ := blk2 (HX.out.no HF2.out)
  go_upto_region 3 with (go_at_call 11; refine (HV1.out _).mono ?_; rintro e w3 ⟨rfl, f3⟩; have HF3 := Lib.hid (HF2.out.trans f3 fun _ _ h => h); clear f3)
  clear x0 x1
  obtain ⟨x0, x1, -, -⟩ := blk2 (HX.out.no HF3.out)
  go_upto_region 4 with (go_at_call 12; refine (HV2.out _).mono ?_; rintro e w4 ⟨rfl, f4⟩; have HF4 := Lib.hid (HF3.out.trans f4 fun _ _ h => h); clear f4)
  clear x0 x1
  have hx4 := HX.out.no HF4.out
  have hy4 := HY.out.no HF4.out
  have z0 := fun dd os => cell_regrown (hx4.cell 0) dd os
  have z1 := fun dd os => cell_regrown (hx4.cell 1) dd os
  have y0 := fun dd os => cell_regrown (hy4.cell 0) dd os
  have y1 := fun dd os => cell_regrown (hy4.cell 1) dd os
  have K1 := Lib.hid (fun dd os => tells_grown (w := w4) (fun w' _ => hP1 w') dd os)
  have K2 := Lib.hid (fun dd os => tells_grown (w := w4) (fun w' _ => hP2 w') dd os)
  have K3 := Lib.hid (fun dd os => tells_grown (w := w4) (fun w' _ => hA1 w') dd os)
  have K4 := Lib.hid (fun dd os => tells_grown (w := w4) (fun w' _ => hA2 w') dd os)
  have K5 := Lib.hid (fun dd os => tells_grown (w := w4) (fun w' _ => hM1 w') dd os)
  have K6 := Lib.hid (fun dd os => tells_grown (w := w4) (fun w' _ => hM2 w') dd os)
  have K7 := Lib.hid (fun dd os => tells_grown (w := w4) (fun w' _ => hT1' w') dd os)
  have K8 := Lib.hid (fun dd os => tells_grown (w := w4) (fun w' _ => hT2' w') dd os)
  clear hx4 hy4 hP1 hP2 hA1 hA2 hM1 hM2 hT1' hT2'
  refine wp_region_quiet_below mixedB (by kernel_rfl) ?_
  repeat (first
    | go_big_quiet_step (first | (with_reducible exact K1.out _ _) | (with_reducible exact K2.out _ _) | (with_reducible exact K3.out _ _) | (with_reducible exact K4.out _ _) | (with_reducible exact K5.out _ _) | (with_reducible exact K6.out _ _) | (with_reducible exact K7.out _ _) | (with_reducible exact K8.out _ _))
    | quiet_step (first | (with_reducible exact K1.out _ _) | (with_reducible exact K2.out _ _) | (with_reducible exact K3.out _ _) | (with_reducible exact K4.out _ _) | (with_reducible exact K5.out _ _) | (with_reducible exact K6.out _ _) | (with_reducible exact K7.out _ _) | (with_reducible exact K8.out _ _)))
  refine wpQuiet_nil ?_
  intro wx hp
  have HBW : Hid (Fr No w wx) := Lib.hid ((HF1.out.trans HF4.out fun _ _ h => h).trans (by obtain ⟨p, rfl⟩ := hp; exact fr_reg _ _ _) fun _ _ h => h)
  clear hp
  go_wp2_with fail
  go_ret
  exact ⟨by first | rfl | simp, HBW.out⟩
end Go.Proofs.Ytgjpdagbbljmpaa
