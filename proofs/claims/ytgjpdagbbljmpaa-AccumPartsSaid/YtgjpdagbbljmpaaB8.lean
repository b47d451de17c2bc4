/- awake. -/
import Derived.Test.YtgjpdagbbljmpaaB7
namespace Go.Proofs.Ytgjpdagbbljmpaa
open Go.RowKit Go.Maps Go.Sort
set_option linter.unusedVariables false

theorem row_one (w : World) (n : Int) (hn : i64 n) : RowE (fun k => w.heap.size ≤ k) (w.alloc (.cells #[.int .i64 n] 2)) 1 (intG (fun k => w.heap.size ≤ k) (w.alloc (.cells #[.int .i64 n] 2))) (.slice (some ⟨w.heap.size, 0, none⟩) 1 1) [n] := by
  refine ⟨_, 1, rfl, Nat.le_refl _, by decide, fun _ => ⟨w.heap.size, 0, rfl, Nat.le_refl _, by simp, fun j hj => ?_⟩⟩
  obtain rfl : j = 0 := by simpa using hj
  refine ⟨[.int .i64 n], rfl, fun i hi => ?_, rfl, hn⟩
  obtain rfl : i = 0 := by omega
  exact (Blk.new w 2 #[.int .i64 n]).cell 0
theorem take_lit {b : Nat} {w : World} {v : Value} {l : List Pt} (hp : PO b w v l) (hl : Lok l) (c n : Int) (hn : i64 n) (a : Ac) (ha : (⟨w64 (c + 1), takeL l [n]⟩ : Ac) = a) :
    Calls Try.prog 22 #[.agg #[.int .i64 c, v], .slice (some ⟨w.heap.size, 0, none⟩) 1 1] (w.alloc (.cells #[.int .i64 n] 2)) fun e w' => ∃ v', e = .returned (.agg #[.int .i64 a.count, v']) ∧ PO w.heap.size w' v' a.parts ∧ Fr No w w' := by
  subst ha
  refine (take_any c l [n] v _ _ (hp.no ((Fr.refl No w).alloc _)).pr hl (row_one w n hn)).mono ?_
  rintro e w' ⟨v', rfl, h1, h2⟩
  exact ⟨v', rfl, h1.low (by simp), ((Fr.refl No w).alloc _).trans h2 fun _ _ h => h⟩
abbrev p5 : Pt := ⟨true, ⟨0, 5⟩, 5, 5⟩
abbrev p2 : Pt := ⟨true, ⟨0, 2⟩, -3, 5⟩
theorem lok1 (p : Pt) (h : p.ok) : Lok [p] := ⟨fun q hq => by rw [List.mem_singleton.1 hq]; exact h, by simp⟩
theorem zero_ok : Pt.zero.ok := by unfold Pt.zero Pt.ok Sm.ok i64'; simp only; omega
theorem p5_ok : p5.ok := by unfold Pt.ok Sm.ok i64'; simp only; omega
theorem p2_ok : p2.ok := by unfold Pt.ok Sm.ok i64'; simp only; omega
def bigS : Sm := ⟨0, 18446744073709551614⟩
theorem big_text : textS bigS = [49, 56, 52, 52, 54, 55, 52, 52, 48, 55, 51, 55, 48, 57, 53, 53, 49, 54, 49, 52] := by decide +kernel
set_option maxRecDepth 100000 in
set_option maxHeartbeats 2000000 in
theorem awake_any (w : World) : Calls Try.prog 10 #[] w (TellsB true w) := by
  have HN : Hid (∀ w', Calls Try.prog 27 #[.int .i64 1] w' (TellsA ⟨0, [Pt.zero]⟩ w')) := Lib.hid fun w' => new_any 1 w'
  have HA : Hid (∀ w', Calls Try.prog 15 #[.agg #[.int .i64 0, .int .u64 5], .int .i64 (-7)] w' (TellsV (.agg #[.int .i64 (-1), .int .u64 18446744073709551614]) w')) := Lib.hid fun w' => add_any ⟨0, 5⟩ (-7) (by unfold Sm.ok; simp only; omega) (by unfold i64 i64'; omega) w'
  have HV : Hid (∀ w', Calls Try.prog 11 #[.agg #[.int .i64 (-1), .int .u64 18446744073709551614]] w' (TellsV (.tuple #[.int .i64 (-2), .bool true]) w')) := Lib.hid fun w' => value_any ⟨-1, 18446744073709551614⟩ (by unfold Sm.ok; simp only; omega) w'
  have HP : Hid (∀ w', Calls Try.prog 13 #[.agg #[.int .i64 0, .int .u64 9223372036854775807], .agg #[.int .i64 0, .int .u64 9223372036854775807]] w' (TellsV (.agg #[.int .i64 0, .int .u64 18446744073709551614]) w')) := Lib.hid fun w' => plus_any ⟨0, 9223372036854775807⟩ ⟨0, 9223372036854775807⟩ (by unfold Sm.ok; simp only; omega) (by unfold Sm.ok; simp only; omega) w'
  have HV2 : Hid (∀ w', Calls Try.prog 11 #[.agg #[.int .i64 0, .int .u64 18446744073709551614]] w' (TellsV (.tuple #[.int .i64 0, .bool false]) w')) := Lib.hid fun w' => value_any ⟨0, 18446744073709551614⟩ (by unfold Sm.ok; simp only; omega) w'
  have HT : Hid (∀ w', Calls Try.prog 19 #[.agg #[.int .i64 0, .int .u64 18446744073709551614]] w' (TellsV (.string ⟨#[49, 56, 52, 52, 54, 55, 52, 52, 48, 55, 51, 55, 48, 57, 53, 53, 49, 54, 49, 52]⟩) w')) := Lib.hid fun w' => by
    have := text_any bigS (by unfold bigS Sm.ok; simp only; omega) w'
    rw [big_text] at this
    exact this
  have e1 : (⟨w64 (0 + 1), takeL [Pt.zero] [5]⟩ : Ac) = ⟨1, [p5]⟩ := by decide +kernel
  have e2 : (⟨w64 (1 + 1), takeL [p5] [-3]⟩ : Ac) = ⟨2, [p2]⟩ := by decide +kernel
  have E1 := Lib.hid e1
  have E2 := Lib.hid e2
  clear e1 e2
  go_enter Try.func10, Try.ntmps10
  go_upto_region 2 with (first
    | (go_at_call 27; refine (HN.out _).mono ?_; rintro e w1 ⟨v1, rfl, hp1, f1⟩; obtain ⟨A1, c1, rfl, -⟩ := hp1.pr.form; have HP1 := Lib.hid hp1; have HF1 := Lib.hid f1; clear hp1 f1)
    | (go_at_call 22; refine (take_lit HP2.out (lok1 p5 p5_ok) 1 (-3) (by unfold i64 i64'; omega) _ E2.out).mono ?_; rintro e w3 ⟨v3, rfl, hp3, f3⟩; obtain ⟨A3, c3, rfl, -⟩ := hp3.pr.form; have HP3 := Lib.hid hp3; have HF3 := Lib.hid f3; clear hp3 f3)
    | (go_at_call 22; refine (take_lit HP1.out (lok1 Pt.zero zero_ok) 0 5 (by unfold i64 i64'; omega) _ E1.out).mono ?_; rintro e w2 ⟨v2, rfl, hp2, f2⟩; obtain ⟨A2, c2, rfl, -⟩ := hp2.pr.form; have HP2 := Lib.hid hp2; have HF2 := Lib.hid f2; clear hp2 f2))
  obtain ⟨y, hy⟩ : ∃ y, w3.heap.size = y := ⟨_, rfl⟩
  obtain ⟨wa, hwa⟩ : ∃ wa, w3.alloc (.cells #[.int .i64 2, .slice A3 1 c3] 39) = wa := ⟨_, rfl⟩
  rw [hwa, hy]
  have fa : Fr No w3 wa := by rw [← hwa]; exact (Fr.refl No w3).alloc _
  have HBA : Hid (Blk wa y 39 #[.int .i64 2, .slice A3 1 c3]) := Lib.hid (by rw [← hwa, ← hy]; exact Blk.new w3 39 _)
  have HPA : Hid (PO w2.heap.size wa (.slice A3 1 c3) [p2]) := Lib.hid (HP3.out.no fa)
  have HFA : Hid (Fr No w wa) := Lib.hid (((HF1.out.trans HF2.out fun _ _ h => h).trans HF3.out fun _ _ h => h).trans fa fun _ _ h => h)
  clear hy hwa fa HP1 HP2 HP3 HF1 HF2 HF3 HN E1 E2
  go_upto_region 3 with (first
    | (go_at_call 15; refine (HA.out _).mono ?_; rintro e w4 ⟨rfl, f4⟩; have HF4 := Lib.hid f4; clear f4)
    | (go_at_call 11; refine (HV.out _).mono ?_; rintro e w5 ⟨rfl, f5⟩; have HF5 := Lib.hid f5; clear f5))
  go_upto_region 4 with (go_at_call 13; refine (HP.out _).mono ?_; rintro e w6 ⟨rfl, f6⟩; have HF6 := Lib.hid f6; clear f6)
  obtain ⟨z, hz⟩ : ∃ y, w6.heap.size = y := ⟨_, rfl⟩
  obtain ⟨wb, hwb⟩ : ∃ wa, w6.alloc (.cells #[.int .i64 0, .int .u64 18446744073709551614] 24) = wa := ⟨_, rfl⟩
  rw [hwb, hz]
  have fb : Fr No w6 wb := by rw [← hwb]; exact (Fr.refl No w6).alloc _
  have hbb : Blk wb z 24 #[.int .i64 0, .int .u64 18446744073709551614] := by rw [← hwb, ← hz]; exact Blk.new w6 24 _
  have HFB : Hid (Fr No wa wb) := Lib.hid (((HF4.out.trans HF5.out fun _ _ h => h).trans HF6.out fun _ _ h => h).trans fb fun _ _ h => h)
  have HBB := Lib.hid hbb
  obtain ⟨b0, b1, -, -⟩ := blk2 hbb
  clear hz hwb fb hbb HF4 HF5 HF6 HA HV HP
  go_upto_region 5 with (go_at_call 11; refine (HV2.out _).mono ?_; rintro e w7 ⟨rfl, f7⟩; have HF7 := Lib.hid f7; clear f7)
  clear b0 b1 HV2
  have hf7 : Fr No wa w7 := HFB.out.trans HF7.out fun _ _ h => h
  obtain ⟨g, off, rfl, -, -, h5⟩ := (HPA.out.no hf7).pr.at_ (j := 0) (by simp)
  obtain ⟨q0, q1, q2, q3, q4⟩ : Five w7 g off p2 := by have := h5 0 (by simp); simpa using this
  obtain ⟨a0, a1, -, -⟩ := blk2 (HBA.out.no hf7)
  obtain ⟨b0, b1, -, -⟩ := blk2 (HBB.out.no HF7.out)
  have HVA : Hid (∀ w', Fr No wa w' → Calls Try.prog 30 #[.agg #[.int .i64 2, .slice (some ⟨g, off, none⟩) 1 c3], .int .i64 1] w' (TellsB true w')) := Lib.hid fun w' f' => by
    have := valid_any 2 [p2] 1 _ w' (HPA.out.no f').pr
    rw [show validA ⟨2, [p2]⟩ 1 = true by decide +kernel] at this
    exact this
  have HSA : Hid (∀ w', Fr No wa w' → Calls Try.prog 29 #[.agg #[.int .i64 2, .slice (some ⟨g, off, none⟩) 1 c3], .agg #[.int .i64 2, .slice (some ⟨g, off, none⟩) 1 c3]] w' (TellsB true w')) := Lib.hid fun w' f' => by
    have := same_any 2 2 [p2] [p2] _ _ w' (HPA.out.no f').pr (HPA.out.no f').pr
    rw [show sameA ⟨2, [p2]⟩ ⟨2, [p2]⟩ = true by decide +kernel] at this
    exact this
  have HF7A := Lib.hid hf7
  clear h5 hf7
  go_wp2_with (first
    | (go_at_call 19; refine (HT.out _).mono ?_; rintro e w8 ⟨rfl, f8⟩; have F8 := HF7A.out.trans f8 fun _ _ h => h; obtain ⟨s0, s1, -, -⟩ := blk2 (HBA.out.no F8); have HF8 := Lib.hid F8; clear f8 F8)
    | (go_at_call 30; refine (HVA.out _ HF8.out).mono ?_; rintro e w9 ⟨rfl, f9⟩; have F9 := HF8.out.trans f9 fun _ _ h => h; obtain ⟨t0, t1, -, -⟩ := blk2 (HBA.out.no F9); have HF9 := Lib.hid F9; clear f9 F9)
    | (go_at_call 29; refine (HSA.out _ HF9.out).mono ?_; rintro e w10 ⟨rfl, f10⟩; have HF10 := Lib.hid (HF9.out.trans f10 fun _ _ h => h); clear f10))
  go_ret
  exact ⟨by first | rfl | simp, HFA.out.trans HF10.out fun _ _ h => h⟩
end Go.Proofs.Ytgjpdagbbljmpaa
