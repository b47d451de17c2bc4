/- The document's own Minus. -/
import Derived.Test.YtgjpdagbbljmpaaA7
namespace Go.Proofs.Ytgjpdagbbljmpaa
open Go.RowKit Go.Maps Go.Sort
set_option linter.unusedVariables false

theorem uS_inv {a : Sm} (ha : a.ok) : smN (340282366920938463463374607431768211455 - uS a) = ⟨-1 - a.hi, 18446744073709551615 - a.lo⟩ := by
  unfold Sm.ok at ha
  unfold smN uS w64
  ext <;> simp only <;> omega
set_option maxRecDepth 100000 in
theorem rminus_any (a : Sm) (ha : a.ok) (w : World) : Calls Try.prog 18 #[smV a] w (TellsS (minusS a) w) := by
  obtain ⟨X, hX⟩ : ∃ X, uS a = X := ⟨_, rfl⟩
  have hXb : X < 340282366920938463463374607431768211456 := by rw [← hX]; exact uS_lt ha
  have HCX : Hid (∀ w', Calls Try.prog 34 #[smV a] w' (TellsV (arrV (dig X)) w')) := Lib.hid fun w' => by rw [← hX]; exact digits_any a ha w'
  obtain ⟨⟨nh, nl⟩, hn⟩ : ∃ s, smN (340282366920938463463374607431768211455 - X) = s := ⟨_, rfl⟩
  have hinv := uS_inv ha
  rw [hX, hn] at hinv
  have hok : (⟨nh, nl⟩ : Sm).ok := by unfold Sm.ok at ha ⊢; rw [hinv]; simp only; omega
  obtain ⟨⟨sh, sl⟩, hs⟩ : ∃ s, minusS a = s := ⟨_, rfl⟩
  have hpl : plusS ⟨nh, nl⟩ ⟨0, 1⟩ = ⟨sh, sl⟩ := by rw [← hs, hinv]; rfl
  have HO : Hid (∀ w', Calls Try.prog 32 #[.int .i64 1] w' (TellsV (.agg #[.int .i64 0, .int .u64 1]) w')) := Lib.hid fun w' => of_any 1 (by unfold i64 i64'; omega) w'
  have HP : Hid (∀ w', Calls Try.prog 14 #[.agg #[.int .i64 nh, .int .u64 nl], .agg #[.int .i64 0, .int .u64 1]] w' (TellsV (.agg #[.int .i64 sh, .int .u64 sl]) w')) := Lib.hid fun w' => by
    have := rplus_any ⟨nh, nl⟩ ⟨0, 1⟩ hok (by unfold Sm.ok; simp only; omega) w'
    rw [hpl] at this
    exact this
  have HSN := Lib.hid hn
  rw [hs]
  obtain ⟨ah, al⟩ := a
  obtain ⟨b, hb⟩ : ∃ b, w.heap.size = b := ⟨_, rfl⟩
  obtain ⟨w0, hw0⟩ : ∃ w0, (w.alloc (.cells #[.int .i64 ah, .int .u64 al] 24)).alloc (.cells #[.int .i64 0, .int .u64 0] 24) = w0 := ⟨_, rfl⟩
  have f0 : Fr No w w0 := by rw [← hw0]; exact ((Fr.refl No w).alloc _).alloc _
  have hb0 : Blk w0 b 24 #[.int .i64 ah, .int .u64 al] := by rw [← hw0, ← hb]; exact (Blk.new w 24 _).no ((Fr.refl No _).alloc _)
  have hb1 : Blk w0 (b + 1) 24 #[.int .i64 0, .int .u64 0] := by rw [← hw0, ← hb]; exact blk_at1 w _ 24 _
  have HW0 := Lib.hid hw0
  have HB := Lib.hid hb
  have HF0 := Lib.hid f0
  have HB1 := Lib.hid hb1
  have hbw : w.heap.size ≤ b := by omega
  obtain ⟨c0, c1, -, -⟩ := blk2 hb0
  clear hb hw0 f0 hb0 hb1 ha hX hs hn hinv hok hpl
  go_enter Try.func18, Try.ntmps18
  go_upto_region 1 with fail
  rw [HW0.out, HB.out]
  go_upto_region 2 with (go_at_call 34; refine (HCX.out _).mono ?_; rintro e1 w1 ⟨rfl, f1⟩; have HF1 := Lib.hid f1; clear f1)
  clear c0 c1
  obtain ⟨y1, hy1⟩ : ∃ y, w1.heap.size = y := ⟨_, rfl⟩
  obtain ⟨w2, hw2⟩ : ∃ w2, w1.alloc (.cells (arrL (dig X)) 60) = w2 := ⟨_, rfl⟩
  rw [hw2, hy1]
  have f2 : Fr No w0 w2 := by rw [← hw2]; exact HF1.out.alloc _
  have hX2 : Ar w2 y1 (dig X) := by rw [← hw2, ← hy1]; exact Blk.new w1 60 _
  have hy1b : w0.heap.size ≤ y1 := by rw [← hy1]; exact HF1.out.size
  have hlt := HB1.out.lt
  have hww := HF0.out.size
  have hne2 : b + 1 ≠ y1 := by omega
  have hwy : w.heap.size ≤ y1 := by omega
  have HR2 : Hid (Blk w2 (b + 1) 24 #[.int .i64 0, .int .u64 0]) := Lib.hid (HB1.out.no f2)
  have HX2 := Lib.hid hX2
  have HF2 : Hid (Fr No w w2) := Lib.hid (HF0.out.trans f2 fun _ _ h => h)
  clear hw2 hy1 f2 hX2 HF1 hy1b hlt hww HB1 HF0 HW0 HCX
  go_wp2_with fail
  go_loopg [4] 16 (fun k r4 wr => Hid (∃ (j : Nat) (c : Nat → Int), r4 = .int .i64 (j : Nat) ∧ j + k = 16 ∧ Ar wr y1 c ∧ (∀ i, i < 16 → c i = if i < j then 255 - dig X i else dig X i) ∧ Blk wr (b + 1) 24 #[.int .i64 0, .int .u64 0] ∧ Fr No w wr))
  case atStart => exact Lib.hid ⟨0, _, rfl, by omega, HX2.out, fun i _ => by rw [if_neg (by omega)], HR2.out, HF2.out⟩
  case round =>
  obtain ⟨j, c, rfl, hjk, hA, hc, hR, hf⟩ := hrel.out
  clear hrel
  by_cases hj : j < 16
  · have hji : (j : Int) < 16 := by omega
    have s1 := hA.cell (i := j) hj
    have s2 := hA.frozen j
    obtain ⟨x, hx⟩ : ∃ x, dig X j = x := ⟨_, rfl⟩
    have hxb := dig_lt X j
    rw [hx] at hxb
    have ecx : c j = x := by rw [hc j hj, if_neg (by omega), hx]
    rw [ecx] at s1
    obtain ⟨r, hr⟩ : ∃ r, 255 - x = r := ⟨_, rfl⟩
    have t1 : IntKind.i64.wrap (255 - x) = r := by rw [IntKind.wrap_i64]; omega
    have HA2 : Hid (Ar (wr.setCell ⟨y1, j, none⟩ (.int .i64 r)) y1 (upd c j r)) := Lib.hid (hA.put hj _)
    have HR3 : Hid (Blk (wr.setCell ⟨y1, j, none⟩ (.int .i64 r)) (b + 1) 24 #[.int .i64 0, .int .u64 0]) := Lib.hid (hR.set_other hne2 _)
    have HF3 : Hid (Fr No w (wr.setCell ⟨y1, j, none⟩ (.int .i64 r))) := Lib.hid (hf.set_new hwy _)
    have HC2 : Hid (∀ i, i < 16 → upd c j r i = if i < j + 1 then 255 - dig X i else dig X i) := Lib.hid fun i hi => by
      unfold upd
      by_cases e : i = j
      · subst e
        rw [if_pos rfl, if_pos (by omega), hx, hr]
      · rw [if_neg e, hc i hi]
        by_cases h2 : i < j
        · rw [if_pos h2, if_pos (by omega)]
        · rw [if_neg h2, if_neg (by omega)]
    clear hx hr hA hR hf hc ecx hxb
    go_wp2_with fail
    obtain ⟨g1, rfl⟩ : ∃ g1, gk = g1 + 1 := ⟨gk - 1, by omega⟩
    go_roundg g1
    case rel => exact Lib.hid ⟨j + 1, _, by go_num, by omega, HA2.out, HC2.out, HR3.out, HF3.out⟩
    all_goals omega
  · have hji : (16 : Int) ≤ (j : Int) := by omega
    have hcc : ∀ i, i < 16 → c i = dig (340282366920938463463374607431768211455 - X) i := fun i hi => by
      rw [hc i hi, if_pos (by omega)]
      exact (dig_not X i hXb hi).symm
    have HSUM : Hid (∀ w', Calls Try.prog 35 #[arrV c] w' (TellsV (.agg #[.int .i64 nh, .int .u64 nl]) w')) := Lib.hid fun w' => by
      have := sum_any (340282366920938463463374607431768211455 - X) c hcc (by omega) w'
      rw [HSN.out] at this
      exact this
    obtain ⟨a0, a1, a2, a3, a4, a5, a6, a7, a8, a9, a10, a11, a12, a13, a14, a15⟩ := hA.cells
    have HR4 := Lib.hid hR
    have HF4 := Lib.hid hf
    clear hA hR hf hc hcc
    go_wp2_with (first
      | (go_at_call 35; refine (HSUM.out _).mono ?_; rintro e1 w5 ⟨rfl, f5⟩; have HF5 := Lib.hid f5; clear f5)
      | (go_at_call 32; refine (HO.out _).mono ?_; rintro e1 w6 ⟨rfl, f6⟩; have HF6 := Lib.hid f6; clear f6)
      | (go_at_call 14; refine (HP.out _).mono ?_; rintro e1 w7 ⟨rfl, f7⟩; have HF7 := Lib.hid ((HF5.out.trans HF6.out fun _ _ h => h).trans f7 fun _ _ h => h); obtain ⟨c0, c1, z0, z1⟩ := blk2 (HR4.out.no HF7.out); clear f7))
    refine bodyPost_ret (v := smV ⟨sh, sl⟩) (by simp [results, Try.results18, go_sem, c0, c1]) rfl ⟨rfl, ?_⟩
    have hbb : w.heap.size ≤ b + 1 := by omega
    refine Fr.set_new (Fr.set_new ?_ hbb _) hbb _
    exact HF4.out.trans HF7.out fun _ _ h => h
end Go.Proofs.Ytgjpdagbbljmpaa
