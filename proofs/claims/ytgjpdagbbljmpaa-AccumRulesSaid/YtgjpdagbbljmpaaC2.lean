/- AccumRules, walked. -/
import Derived.Test.YtgjpdagbbljmpaaC1
namespace Go.Proofs.Ytgjpdagbbljmpaa
open Go.RowKit Go.Maps Go.Sort
set_option linter.unusedVariables false

theorem bytes_ne {s t : Tx} (h : s ≠ t) : ((⟨s.toArray⟩ : ByteArray).toList == (⟨t.toArray⟩ : ByteArray).toList) = false := by
  rw [ByteArray.toList_eq, ByteArray.toList_eq]
  simpa using h
set_option maxRecDepth 100000 in
set_option maxHeartbeats 4000000 in
theorem rules_law (a b c : Sm) (ha : a.ok) (hb : b.ok) (hc : c.ok) (w : World) : Calls Try.prog 4 #[smV a, smV b, smV c] w (TellsB true w) := by
  have HAW : Hid (∀ w', Calls Try.prog 10 #[] w' (TellsB true w')) := Lib.hid fun w' => awake_any w'
  have h1 := plus_any a b ha hb
  have h2 := plus_any b a hb ha
  have h3 := plus_any (plusS a b) c (plusS_ok _ _) hc
  have h4 := plus_any b c hb hc
  have h5 := plus_any a (plusS b c) ha (plusS_ok _ _)
  have h6 := minus_any b hb
  have h7 := plus_any (plusS a b) (minusS b) (plusS_ok _ _) (minusS_ok _)
  have h8 := minus_any a ha
  have h9 := plus_any a (minusS a) ha (minusS_ok _)
  have h10 := minus_any (minusS a) (minusS_ok _)
  have h11 := text_any a ha
  have h12 := text_any b hb
  rw [plusS_comm b a] at h2
  rw [plusS_assoc] at h3
  rw [plus_minus ha] at h7
  rw [plus_self] at h9
  rw [minus_minus ha] at h10
  have hti := textS_inj ha hb
  have h24 := eql24 a b
  obtain ⟨⟨ph, pl⟩, hp⟩ : ∃ s, plusS a b = s := ⟨_, rfl⟩
  obtain ⟨⟨rh, rl⟩, hr⟩ : ∃ s, plusS b c = s := ⟨_, rfl⟩
  rw [hp] at h1 h2 h3 h7
  rw [hr] at h3 h4 h5
  obtain ⟨⟨qh, ql⟩, hq⟩ : ∃ s, plusS a ⟨rh, rl⟩ = s := ⟨_, rfl⟩
  rw [hq] at h3 h5
  obtain ⟨⟨mh, ml⟩, hm⟩ : ∃ s, minusS b = s := ⟨_, rfl⟩
  obtain ⟨⟨nh, nl⟩, hn⟩ : ∃ s, minusS a = s := ⟨_, rfl⟩
  rw [hm] at h6 h7
  rw [hn] at h8 h9 h10
  obtain ⟨t, ht⟩ : ∃ s, textS a = s := ⟨_, rfl⟩
  obtain ⟨u, hu⟩ : ∃ s, textS b = s := ⟨_, rfl⟩
  rw [ht] at h11 hti
  rw [hu] at h12 hti
  obtain ⟨ba, hba⟩ : ∃ x : ByteArray, (⟨t.toArray⟩ : ByteArray) = x := ⟨_, rfl⟩
  obtain ⟨bb, hbb⟩ : ∃ x : ByteArray, (⟨u.toArray⟩ : ByteArray) = x := ⟨_, rfl⟩
  have h11 : ∀ w', Calls Try.prog 19 #[smV a] w' (TellsV (.string ba) w') := fun w' => by rw [← hba]; exact h11 w'
  have h12 : ∀ w', Calls Try.prog 19 #[smV b] w' (TellsV (.string bb) w') := fun w' => by rw [← hbb]; exact h12 w'
  have hsame : a = b → ba = bb := fun h => by rw [← hba, ← hbb, hti.2 h]
  have hdiff : a ≠ b → (ba.toList == bb.toList) = false := fun h => by rw [← hba, ← hbb]; exact bytes_ne (fun e => h (hti.1 e))
  have HSAME := Lib.hid hsame
  have HDIFF := Lib.hid hdiff
  obtain ⟨ah, al⟩ := a
  obtain ⟨bh, bl⟩ := b
  obtain ⟨ch, cl⟩ := c
  obtain ⟨b0, hb0⟩ : ∃ b, w.heap.size = b := ⟨_, rfl⟩
  obtain ⟨w1, hw1⟩ : ∃ w1, ((w.alloc (.cells #[.int .i64 ah, .int .u64 al] 24)).alloc (.cells #[.int .i64 bh, .int .u64 bl] 24)).alloc (.cells #[.int .i64 ch, .int .u64 cl] 24) = w1 := ⟨_, rfl⟩
  have f1 : Fr No w w1 := by rw [← hw1]; exact (((Fr.refl No w).alloc _).alloc _).alloc _
  have hx : Blk w1 b0 24 #[.int .i64 ah, .int .u64 al] := by rw [← hw1, ← hb0]; exact (Blk.new w 24 _).no (((Fr.refl No _).alloc _).alloc _)
  have hy : Blk w1 (b0 + 1) 24 #[.int .i64 bh, .int .u64 bl] := by rw [← hw1, ← hb0]; exact (blk_at1 w _ 24 _).no ((Fr.refl No _).alloc _)
  have hz : Blk w1 (b0 + 2) 24 #[.int .i64 ch, .int .u64 cl] := by rw [← hw1, ← hb0]; exact blk_at2 w _ _ 24 _
  have HX := Lib.hid hx
  have HY := Lib.hid hy
  have HZ := Lib.hid hz
  have HW1 := Lib.hid hw1
  have HB0 := Lib.hid hb0
  have HF1 := Lib.hid f1
  have H24 := Lib.hid h24
  have H1 : Hid (∀ w', Calls Try.prog _ _ w' (TellsV _ w')) := Lib.hid h1
  have H2 : Hid (∀ w', Calls Try.prog _ _ w' (TellsV _ w')) := Lib.hid h2
  have H3 : Hid (∀ w', Calls Try.prog _ _ w' (TellsV _ w')) := Lib.hid h3
  have H4 : Hid (∀ w', Calls Try.prog _ _ w' (TellsV _ w')) := Lib.hid h4
  have H5 : Hid (∀ w', Calls Try.prog _ _ w' (TellsV _ w')) := Lib.hid h5
  have H6 : Hid (∀ w', Calls Try.prog _ _ w' (TellsV _ w')) := Lib.hid h6
  have H7 : Hid (∀ w', Calls Try.prog _ _ w' (TellsV _ w')) := Lib.hid h7
  have H8 : Hid (∀ w', Calls Try.prog _ _ w' (TellsV _ w')) := Lib.hid h8
  have H9 : Hid (∀ w', Calls Try.prog _ _ w' (TellsV _ w')) := Lib.hid h9
  have H10 : Hid (∀ w', Calls Try.prog _ _ w' (TellsV _ w')) := Lib.hid h10
  have H11 : Hid (∀ w', Calls Try.prog _ _ w' (TellsV _ w')) := Lib.hid h11
  have H12 : Hid (∀ w', Calls Try.prog _ _ w' (TellsV _ w')) := Lib.hid h12
  clear hp hr hq hm hn ht hu hx hy hz hw1 hb0 f1 ha hb hc hti h24 hba hbb hsame hdiff h1 h2 h3 h4 h5 h6 h7 h8 h9 h10 h11 h12
  go_enter Try.func4, Try.ntmps4
  go_upto_region 1 with fail
  rw [HW1.out, HB0.out]
  go_upto_region 2 with (go_at_call 10; refine (HAW.out _).mono ?_; rintro e w2 ⟨rfl, f2⟩; have HF2 := Lib.hid f2; clear f2)
  have hx := HX.out.no HF2.out
  have x0 := fun dd os => cell_regrown (hx.cell 0) dd os
  have x1 := fun dd os => cell_regrown (hx.cell 1) dd os
  have hy := HY.out.no HF2.out
  have y0 := fun dd os => cell_regrown (hy.cell 0) dd os
  have y1 := fun dd os => cell_regrown (hy.cell 1) dd os
  have hz := HZ.out.no HF2.out
  have z0 := fun dd os => cell_regrown (hz.cell 0) dd os
  have z1 := fun dd os => cell_regrown (hz.cell 1) dd os
  have K1 := Lib.hid (fun dd os => tells_grown (w := w2) (fun w' _ => H1.out w') dd os)
  have K2 := Lib.hid (fun dd os => tells_grown (w := w2) (fun w' _ => H2.out w') dd os)
  have K3 := Lib.hid (fun dd os => tells_grown (w := w2) (fun w' _ => H3.out w') dd os)
  have K4 := Lib.hid (fun dd os => tells_grown (w := w2) (fun w' _ => H4.out w') dd os)
  have K5 := Lib.hid (fun dd os => tells_grown (w := w2) (fun w' _ => H5.out w') dd os)
  clear hx hy hz
  refine wp_region_quiet_below mixedB (by kernel_rfl) ?_
  repeat (first
    | go_big_quiet_step (first | (with_reducible exact K1.out _ _) | (with_reducible exact K2.out _ _) | (with_reducible exact K3.out _ _) | (with_reducible exact K4.out _ _) | (with_reducible exact K5.out _ _))
    | quiet_step (first | (with_reducible exact K1.out _ _) | (with_reducible exact K2.out _ _) | (with_reducible exact K3.out _ _) | (with_reducible exact K4.out _ _) | (with_reducible exact K5.out _ _)))
  refine wpQuiet_nil ?_
  intro wx hp
  have HG2 : Hid (Fr No w1 wx) := Lib.hid (HF2.out.trans (by obtain ⟨p, rfl⟩ := hp; exact fr_reg _ _ _) fun _ _ h => h)
  clear hp x0 x1 y0 y1 z0 z1 K1 K2 K3 K4 K5
  go_upto_region 3 with fail
  have hx := HX.out.no HG2.out
  have x0 := fun dd os => cell_regrown (hx.cell 0) dd os
  have x1 := fun dd os => cell_regrown (hx.cell 1) dd os
  have hy := HY.out.no HG2.out
  have y0 := fun dd os => cell_regrown (hy.cell 0) dd os
  have y1 := fun dd os => cell_regrown (hy.cell 1) dd os
  have K1 := Lib.hid (fun dd os => tells_grown (w := wx) (fun w' _ => H1.out w') dd os)
  have K6 := Lib.hid (fun dd os => tells_grown (w := wx) (fun w' _ => H6.out w') dd os)
  have K7 := Lib.hid (fun dd os => tells_grown (w := wx) (fun w' _ => H7.out w') dd os)
  have K8 := Lib.hid (fun dd os => tells_grown (w := wx) (fun w' _ => H8.out w') dd os)
  have K9 := Lib.hid (fun dd os => tells_grown (w := wx) (fun w' _ => H9.out w') dd os)
  clear hx hy
  refine wp_region_quiet_below mixedB (by kernel_rfl) ?_
  repeat (first
    | go_big_quiet_step (first | (with_reducible exact K1.out _ _) | (with_reducible exact K6.out _ _) | (with_reducible exact K7.out _ _) | (with_reducible exact K8.out _ _) | (with_reducible exact K9.out _ _))
    | quiet_step (first | (with_reducible exact K1.out _ _) | (with_reducible exact K6.out _ _) | (with_reducible exact K7.out _ _) | (with_reducible exact K8.out _ _) | (with_reducible exact K9.out _ _)))
  refine wpQuiet_nil ?_
  intro wy hp
  have HG3 : Hid (Fr No w1 wy) := Lib.hid (HG2.out.trans (by obtain ⟨p, rfl⟩ := hp; exact fr_reg _ _ _) fun _ _ h => h)
  clear hp x0 x1 y0 y1 K1 K6 K7 K8 K9
  by_cases hab : (⟨ah, al⟩ : Sm) = ⟨bh, bl⟩
  · injection hab with e1 e2
    subst e1
    subst e2
    have HTU : Hid (ba = bb) := Lib.hid (HSAME.out rfl)
    obtain rfl := HTU.out
    clear HSAME HDIFF H24 HTU
    go_upto_region 4 with fail
    have hx := HX.out.no HG3.out
    have x0 := fun dd os => cell_regrown (hx.cell 0) dd os
    have x1 := fun dd os => cell_regrown (hx.cell 1) dd os
    have hy := HY.out.no HG3.out
    have y0 := fun dd os => cell_regrown (hy.cell 0) dd os
    have y1 := fun dd os => cell_regrown (hy.cell 1) dd os
    have K11 := Lib.hid (fun dd os => tells_grown (w := wy) (fun w' _ => H11.out w') dd os)
    have K12 := Lib.hid (fun dd os => tells_grown (w := wy) (fun w' _ => H12.out w') dd os)
    have K8 := Lib.hid (fun dd os => tells_grown (w := wy) (fun w' _ => H8.out w') dd os)
    have K10 := Lib.hid (fun dd os => tells_grown (w := wy) (fun w' _ => H10.out w') dd os)
    clear hx hy
    refine wp_region_quiet_below mixedB (by kernel_rfl) ?_
    repeat (first
      | go_big_quiet_step (first | (with_reducible exact K11.out _ _) | (with_reducible exact K12.out _ _) | (with_reducible exact K8.out _ _) | (with_reducible exact K10.out _ _))
      | quiet_step (first | (with_reducible exact K11.out _ _) | (with_reducible exact K12.out _ _) | (with_reducible exact K8.out _ _) | (with_reducible exact K10.out _ _)))
    refine wpQuiet_nil ?_
    intro wz hp
    have HBW : Hid (Fr No w wz) := Lib.hid ((HF1.out.trans HG3.out fun _ _ h => h).trans (by obtain ⟨p, rfl⟩ := hp; exact fr_reg _ _ _) fun _ _ h => h)
    clear hp x0 x1 y0 y1
    go_wp2_with fail
    go_ret
    exact ⟨by first | rfl | simp, HBW.out⟩
  · have htu := HDIFF.out hab
    have h24 := H24.out
    rw [decide_eq_false hab] at h24
    have h24' : ∀ w, (binOp .eql 24 (.agg #[.int .i64 ah, .int .u64 al]) (.agg #[.int .i64 bh, .int .u64 bl])).run Try.prog w = .ok (.bool false) w := h24
    clear HSAME HDIFF H24 hab h24
    go_upto_region 4 with fail
    have hx := HX.out.no HG3.out
    have x0 := fun dd os => cell_regrown (hx.cell 0) dd os
    have x1 := fun dd os => cell_regrown (hx.cell 1) dd os
    have hy := HY.out.no HG3.out
    have y0 := fun dd os => cell_regrown (hy.cell 0) dd os
    have y1 := fun dd os => cell_regrown (hy.cell 1) dd os
    have K11 := Lib.hid (fun dd os => tells_grown (w := wy) (fun w' _ => H11.out w') dd os)
    have K12 := Lib.hid (fun dd os => tells_grown (w := wy) (fun w' _ => H12.out w') dd os)
    have K8 := Lib.hid (fun dd os => tells_grown (w := wy) (fun w' _ => H8.out w') dd os)
    have K10 := Lib.hid (fun dd os => tells_grown (w := wy) (fun w' _ => H10.out w') dd os)
    clear hx hy
    refine wp_region_quiet_below mixedB (by kernel_rfl) ?_
    repeat (first
      | go_big_quiet_step (first | (with_reducible exact K11.out _ _) | (with_reducible exact K12.out _ _) | (with_reducible exact K8.out _ _) | (with_reducible exact K10.out _ _))
      | quiet_step (first | (with_reducible exact K11.out _ _) | (with_reducible exact K12.out _ _) | (with_reducible exact K8.out _ _) | (with_reducible exact K10.out _ _)))
    refine wpQuiet_nil ?_
    intro wz hp
    have HBW : Hid (Fr No w wz) := Lib.hid ((HF1.out.trans HG3.out fun _ _ h => h).trans (by obtain ⟨p, rfl⟩ := hp; exact fr_reg _ _ _) fun _ _ h => h)
    clear hp x0 x1 y0 y1
    go_wp2_with fail
    go_ret
    exact ⟨by first | rfl | simp, HBW.out⟩
end Go.Proofs.Ytgjpdagbbljmpaa
