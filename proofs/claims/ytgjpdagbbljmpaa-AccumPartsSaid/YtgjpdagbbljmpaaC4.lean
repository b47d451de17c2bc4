/- AccumAsked, walked. -/
import Derived.Test.YtgjpdagbbljmpaaB10
import Derived.Test.YtgjpdagbbljmpaaB8
import Derived.Deep.RegionWith
namespace Go.Proofs.Ytgjpdagbbljmpaa
open Go.RowKit Go.Maps Go.Sort
set_option linter.unusedVariables false

theorem sameA_self (a : Ac) : sameA a a = true := sameA_iff.2 rfl
theorem newA_valid (m : Int) : validA (newA m) ((newA m).parts.length : Int) = true := by
  unfold newA validA
  simp only
  rw [Bool.and_eq_true, Bool.and_eq_true]
  refine ⟨⟨by simp, by simp⟩, List.all_eq_true.2 fun p hp => ?_⟩
  rw [List.eq_of_mem_replicate hp]
  decide +kernel
set_option maxRecDepth 100000 in
set_option maxHeartbeats 4000000 in
theorem asked_law {K K2 : Nat → Prop} (c1 c2 m : Int) (l l2 : List Pt) (v v2 : Value) (w : World) (h : PR K w v l) (h2 : PR K2 w v2 l2) : Calls Try.prog 7 #[.agg #[.int .i64 c1, v], .agg #[.int .i64 c2, v2], .int .i64 m] w (TellsB true w) := by
  have HAW : Hid (∀ w', Calls Try.prog 10 #[] w' (TellsB true w')) := Lib.hid fun w' => awake_any w'
  have HS1 : Hid (∀ w', Fr No w w' → Calls Try.prog 29 #[.agg #[.int .i64 c1, v], .agg #[.int .i64 c2, v2]] w' (TellsB (sameA ⟨c1, l⟩ ⟨c2, l2⟩) w')) := Lib.hid fun w' f' => same_any c1 c2 l l2 v v2 w' (h.no f') (h2.no f')
  have HS2 : Hid (∀ w', Fr No w w' → Calls Try.prog 24 #[.agg #[.int .i64 c1, v], .agg #[.int .i64 c2, v2]] w' (TellsB (sameA ⟨c1, l⟩ ⟨c2, l2⟩) w')) := Lib.hid fun w' f' => rsame_any c1 c2 l l2 v v2 w' (h.no f') (h2.no f')
  have HV1 : Hid (∀ w', Fr No w w' → Calls Try.prog 30 #[.agg #[.int .i64 c1, v], .int .i64 m] w' (TellsB (validA ⟨c1, l⟩ m) w')) := Lib.hid fun w' f' => valid_any c1 l m v w' (h.no f')
  have HV2 : Hid (∀ w', Fr No w w' → Calls Try.prog 31 #[.agg #[.int .i64 c1, v], .int .i64 m] w' (TellsB (validA ⟨c1, l⟩ m) w')) := Lib.hid fun w' f' => rvalid_any c1 l m v w' (h.no f')
  obtain ⟨sm, hsm⟩ : ∃ b, sameA ⟨c1, l⟩ ⟨c2, l2⟩ = b := ⟨_, rfl⟩
  obtain ⟨vl, hvl⟩ : ∃ b, validA ⟨c1, l⟩ m = b := ⟨_, rfl⟩
  rw [hsm] at HS1 HS2
  rw [hvl] at HV1 HV2
  obtain ⟨A, ca, rfl, -, -⟩ := h.form
  obtain ⟨B, cb, rfl, -, -⟩ := h2.form
  obtain ⟨N, hN⟩ : ∃ N, l.length = N := ⟨_, rfl⟩
  obtain ⟨M, hM⟩ : ∃ M, l2.length = M := ⟨_, rfl⟩
  rw [hN] at HS1 HS2 HV1 HV2 ⊢
  rw [hM] at HS1 HS2 ⊢
  obtain ⟨P, hP⟩ : ∃ P, (newA m).parts = P := ⟨_, rfl⟩
  have hnew : newA m = ⟨0, P⟩ := by rw [← hP]; rfl
  have hnv := newA_valid m
  rw [hnew] at hnv
  have HNV := Lib.hid hnv
  have HN1 : Hid (∀ w', Calls Try.prog 27 #[.int .i64 m] w' (TellsA ⟨0, P⟩ w')) := Lib.hid fun w' => by rw [← hnew]; exact new_any m w'
  have HN2 : Hid (∀ w', Calls Try.prog 28 #[.int .i64 m] w' (TellsA ⟨0, P⟩ w')) := Lib.hid fun w' => by rw [← hnew]; exact rnew_any m w'
  obtain ⟨b, hb⟩ : ∃ b, w.heap.size = b := ⟨_, rfl⟩
  obtain ⟨w1, hw1⟩ : ∃ w1, (w.alloc (.cells #[.int .i64 c1, .slice A N ca] 39)).alloc (.cells #[.int .i64 c2, .slice B M cb] 39) = w1 := ⟨_, rfl⟩
  have f1 : Fr No w w1 := by rw [← hw1]; exact ((Fr.refl No w).alloc _).alloc _
  have hx : Blk w1 b 39 #[.int .i64 c1, .slice A N ca] := by rw [← hw1, ← hb]; exact (Blk.new w 39 _).no ((Fr.refl No _).alloc _)
  have hy : Blk w1 (b + 1) 39 #[.int .i64 c2, .slice B M cb] := by rw [← hw1, ← hb]; exact blk_at1 w _ 39 _
  have HX := Lib.hid hx
  have HY := Lib.hid hy
  have HW1 := Lib.hid hw1
  have HB := Lib.hid hb
  have HF1 := Lib.hid f1
  obtain ⟨L, hL⟩ : ∃ L, P.length = L := ⟨_, rfl⟩
  have HLL := Lib.hid hL
  clear h h2 hsm hvl hN hM hP hnew hnv hb hw1 f1 hx hy hL
  go_enter Try.func7, Try.ntmps7
  go_upto_region 1 with fail
  rw [HW1.out, HB.out]
  go_upto_region 2 with (go_at_call 10; refine (HAW.out _).mono ?_; rintro e w2 ⟨rfl, f2⟩; have HF2 := Lib.hid f2; clear f2)
  go_upto_region 3 with (go_at_call 27; refine (HN1.out _).mono ?_; rintro e w3 ⟨vN, rfl, hpn, f3⟩; obtain ⟨AN, cN, rfl, -⟩ := hpn.pr.form; rw [HLL.out] at hpn ⊢; have HPN := Lib.hid hpn; have HF3 := Lib.hid (HF2.out.trans f3 fun _ _ h => h); clear hpn f3)
  obtain ⟨y, hy⟩ : ∃ y, w3.heap.size = y := ⟨_, rfl⟩
  obtain ⟨wa, hwa⟩ : ∃ wa, w3.alloc (.cells #[.int .i64 0, .slice AN L cN] 39) = wa := ⟨_, rfl⟩
  rw [hwa, hy]
  have fa : Fr No w3 wa := by rw [← hwa]; exact (Fr.refl No w3).alloc _
  have hbn : Blk wa y 39 #[.int .i64 0, .slice AN L cN] := by rw [← hwa, ← hy]; exact Blk.new w3 39 _
  have HPA : Hid (PO w2.heap.size wa (.slice AN L cN) P) := Lib.hid (HPN.out.no fa)
  have HBN := Lib.hid hbn
  have HFA : Hid (Fr No w1 wa) := Lib.hid (HF3.out.trans fa fun _ _ h => h)
  have n0 : wa.drew.cell? ⟨y, 0, none⟩ = some (.int .i64 0) := hbn.cell 0
  have n1 : wa.drew.cell? ⟨y, 1, none⟩ = some (.slice AN L cN) := hbn.cell 1
  clear hy hwa fa hbn HPN HF3 HF2
  go_cut [9] (fun r9 wx => r9 = .bool true ∧ Hid (Fr No wa wx))
  case first =>
    go_region_with (first
      | (go_at_call 28; refine (HN2.out _).mono ?_; rintro e w5 ⟨vR, rfl, hpr, f5⟩; obtain ⟨AR, cR, rfl, -⟩ := hpr.pr.form; rw [HLL.out] at hpr ⊢; have F5 := (Fr.refl No wa).drew.trans f5 fun _ _ h => h; obtain ⟨q0, q1, -, -⟩ := blk2 (HBN.out.no F5); have HPR := Lib.hid hpr; have HF5 := Lib.hid F5; clear f5 F5 hpr)
      | (go_at_call 24; refine (rsame_any 0 0 P P _ _ _ (HPA.out.no HF5.out).pr HPR.out.pr).mono ?_; rintro e w6 ⟨rfl, f6⟩; rw [sameA_self]; have HF6 := Lib.hid (HF5.out.trans f6 fun _ _ h => h); clear f6))
    all_goals
      go_wp2_with fail
      go_meet
      exact ⟨rfl, HF6⟩
  case rest =>
  obtain ⟨rfl, HFC⟩ := hcut
  clear n0 n1
  have HFX : Hid (Fr No w1 wc) := Lib.hid (HFA.out.trans HFC.out fun _ _ h => h)
  have hxc := HX.out.no HFX.out
  have hyc := HY.out.no HFX.out
  have hnc := HBN.out.no HFC.out
  have x0 := fun dd os => cell_regrown (hxc.cell 0) dd os
  have x1 := fun dd os => cell_regrown (hxc.cell 1) dd os
  have y0 := fun dd os => cell_regrown (hyc.cell 0) dd os
  have y1 := fun dd os => cell_regrown (hyc.cell 1) dd os
  have z0 := fun dd os => cell_regrown (hnc.cell 0) dd os
  have z1 := fun dd os => cell_regrown (hnc.cell 1) dd os
  have hfull : Fr No w wc := HF1.out.trans HFX.out fun _ _ h => h
  have K1 := Lib.hid (fun dd os => tells_grown (w := wc) (v := .bool sm) (fun w' f' => HS1.out w' (hfull.trans f' fun _ _ h => h)) dd os)
  have K2 := Lib.hid (fun dd os => tells_grown (w := wc) (v := .bool sm) (fun w' f' => HS2.out w' (hfull.trans f' fun _ _ h => h)) dd os)
  have K3 := Lib.hid (fun dd os => tells_grown (w := wc) (v := .bool vl) (fun w' f' => HV1.out w' (hfull.trans f' fun _ _ h => h)) dd os)
  have K4 := Lib.hid (fun dd os => tells_grown (w := wc) (v := .bool vl) (fun w' f' => HV2.out w' (hfull.trans f' fun _ _ h => h)) dd os)
  have K5 := Lib.hid (fun dd os => tells_grown (w := wc) (f := 30) (args := #[.agg #[.int .i64 0, .slice AN L cN], .int .i64 (L : Int)]) (v := .bool true) (fun w' f' => by
    have := valid_any 0 P (L : Int) _ w' (HPA.out.no (HFC.out.trans f' fun _ _ h => h)).pr
    rw [show validA ⟨0, P⟩ (L : Int) = true by rw [← HLL.out]; exact HNV.out] at this
    exact this) dd os)
  have HFF := Lib.hid hfull
  clear hxc hyc hnc hfull
  go_upto_region 4 with fail
  refine wp_region_quiet_below mixedB (by kernel_rfl) ?_
  repeat (first
    | go_big_quiet_step (first | (with_reducible exact K1.out _ _) | (with_reducible exact K2.out _ _) | (with_reducible exact K3.out _ _) | (with_reducible exact K4.out _ _) | (with_reducible exact K5.out _ _))
    | quiet_step (first | (with_reducible exact K1.out _ _) | (with_reducible exact K2.out _ _) | (with_reducible exact K3.out _ _) | (with_reducible exact K4.out _ _) | (with_reducible exact K5.out _ _)))
  refine wpQuiet_nil ?_
  intro wx hp
  have HBW : Hid (Fr No w wx) := Lib.hid (HFF.out.trans (by obtain ⟨p, rfl⟩ := hp; exact fr_reg _ _ _) fun _ _ h => h)
  clear hp
  go_wp2_with fail
  go_ret
  exact ⟨by first | rfl | simp, HBW.out⟩
end Go.Proofs.Ytgjpdagbbljmpaa
