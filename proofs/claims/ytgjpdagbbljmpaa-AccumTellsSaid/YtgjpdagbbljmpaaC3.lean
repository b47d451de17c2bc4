/- AccumTells, walked. -/
import Derived.Test.YtgjpdagbbljmpaaC2
import Derived.Laws.Bits128
namespace Go.Proofs.Ytgjpdagbbljmpaa
open Go.RowKit Go.Maps Go.Sort
set_option linter.unusedVariables false

theorem i64_mask32 (n : Int) : bits .and .i64 n 4294967295 = n % 4294967296 := by
  have h1 : (BitVec.ofInt 64 4294967295).toNat = 2 ^ 32 - 1 := by decide
  have key : (BitVec.ofInt 64 n &&& BitVec.ofInt 64 4294967295).toNat = (n % ((2 ^ 64 : Nat) : Int)).toNat % 2 ^ 32 := by
    rw [BitVec.toNat_and, BitVec.toNat_ofInt, h1, Nat.and_two_pow_sub_one_eq_mod]
  show IntKind.i64.wrap ((BitVec.ofInt 64 n &&& BitVec.ofInt 64 4294967295).toNat : Nat) = n % 4294967296
  rw [key, IntKind.wrap_i64]
  omega
theorem addS_v {s : Sm} {n : Int} (hs : s.ok) (hn : i64 n) (h : -85070591730234615865843651857942052864 ≤ s.v ∧ s.v ≤ 85070591730234615865843651857942052864) : (addS s n).v = s.v + n := by
  unfold Sm.ok at hs
  unfold i64 i64' at hn
  unfold Sm.v at h ⊢
  unfold addS ofS plusS w64
  simp only
  have hc : (n / 9223372036854775808 = 0 ∧ n % 18446744073709551616 = n) ∨ (n / 9223372036854775808 = -1 ∧ n % 18446744073709551616 = n + 18446744073709551616) := by omega
  rcases hc with ⟨e1, e2⟩ | ⟨e1, e2⟩ <;> rw [e1, e2] <;> omega
theorem fit_in {s : Sm} (hs : s.ok) (h : -9223372036854775808 ≤ s.v ∧ s.v < 9223372036854775808) : fitS s = true ∧ valS s = s.v := by
  unfold Sm.ok at hs
  unfold Sm.v at h ⊢
  have : w64 s.lo / 9223372036854775808 = s.hi := by unfold w64; omega
  unfold fitS valS
  rw [if_pos this, decide_eq_true this]
  exact ⟨rfl, by unfold w64; omega⟩
theorem fit_out {s : Sm} (hs : s.ok) (h : ¬ (-9223372036854775808 ≤ s.v ∧ s.v < 9223372036854775808)) : fitS s = false ∧ valS s = 0 := by
  unfold Sm.ok at hs
  unfold Sm.v at h
  have : ¬ w64 s.lo / 9223372036854775808 = s.hi := by unfold w64; omega
  unfold fitS valS
  rw [if_neg this, decide_eq_false this]
  exact ⟨rfl, rfl⟩
set_option maxRecDepth 100000 in
set_option maxHeartbeats 4000000 in
theorem tells_law {K : Nat → Prop} (ns : List Int) (v : Value) (w : World) (hr : RowE K w 1 (intG K w) v ns) : Calls Try.prog 5 #[v] w (TellsB true w) := by
  have HAW : Hid (∀ w', Calls Try.prog 10 #[] w' (TellsB true w')) := Lib.hid fun w' => awake_any w'
  obtain ⟨A, c, rfl, h1, h2, hrow⟩ := row_int hr
  obtain ⟨N, hN⟩ : ∃ N, ns.length = N := ⟨_, rfl⟩
  have HROW := Lib.hid hrow
  have HN := Lib.hid hN
  rw [hN]
  unfold maxLen at h2
  rw [hN] at h1
  clear hr hrow hN
  go_enter Try.func5, Try.ntmps5
  go_upto_region 2 with (go_at_call 10; refine (HAW.out _).mono ?_; rintro e w2 ⟨rfl, f2⟩; have HF2 := Lib.hid f2; clear f2)
  obtain ⟨b, hb⟩ : ∃ b, w2.heap.size = b := ⟨_, rfl⟩
  obtain ⟨w3, hw3⟩ : ∃ w3, w2.alloc (.cells #[.int .i64 0, .int .u64 0] 24) = w3 := ⟨_, rfl⟩
  have f3 : Fr No w w3 := by rw [← hw3]; exact HF2.out.alloc _
  have hx : Blk w3 b 24 #[.int .i64 0, .int .u64 0] := by rw [← hw3, ← hb]; exact Blk.new w2 24 _
  have HX := Lib.hid hx
  have HF3 := Lib.hid f3
  have HW3 := Lib.hid hw3
  have HB := Lib.hid hb
  have hbw : w.heap.size ≤ b := by rw [← hb]; exact HF2.out.size
  clear hb hw3 f3 hx HF2 HAW
  go_upto_region 3 with fail
  rw [HW3.out, HB.out]
  go_wp2_with fail
  obtain ⟨M, hM⟩ : ∃ M, min N 300 = M := ⟨_, rfl⟩
  have HM := Lib.hid hM
  clear hM
  go_loopg [5, 6, 7] M (fun k r5 r6 r7 wr => Hid (∃ (j : Nat) (s : Sm) (hi lo : Int), r7 = .int .i64 (j : Nat) ∧ j + k = M ∧ r5 = .int .i64 hi ∧ r6 = .int .i64 lo ∧ s.ok ∧ s.v = hi * 4294967296 + lo ∧ -((j : Int) * 2147483648) ≤ hi ∧ hi ≤ (j : Int) * 2147483648 ∧ 0 ≤ lo ∧ lo ≤ (j : Int) * 4294967295 ∧ Blk wr b 24 #[.int .i64 s.hi, .int .u64 s.lo] ∧ Fr No w wr))
  case atStart => exact Lib.hid ⟨0, ⟨0, 0⟩, 0, 0, rfl, by omega, rfl, rfl, by unfold Sm.ok; simp only; omega, rfl, by omega, by omega, by omega, by omega, HX.out, HF3.out⟩
  case round =>
  obtain ⟨j, s, hi, lo, rfl, hjk, rfl, rfl, hs, hsv, b1, b2, b3, b4, hx, hf⟩ := hrel.out
  clear hrel
  have hm := HM.out
  by_cases hj : j < M
  · have hji : (j : Int) < (N : Int) := by omega
    have hj300 : (j : Int) < 300 := by omega
    have hjl : j < ns.length := by have := HN.out; omega
    obtain ⟨g, o, rfl, hg, hc, hin⟩ := HROW.out j hjl
    obtain ⟨n, hn⟩ : ∃ n, ns[j] = n := ⟨_, rfl⟩
    rw [hn] at hc hin
    have hc2 := (cell_of_heap (hf.block g hg id)).trans hc
    have hadd := add_any s n hs hin
    have hav := addS_v hs hin (by omega)
    have hok2 := addS_ok s n
    obtain ⟨⟨qh, ql⟩, hq⟩ : ∃ q, addS s n = q := ⟨_, rfl⟩
    rw [hq] at hadd hav hok2
    obtain ⟨sh, sl⟩ := s
    unfold i64 i64' at hin
    obtain ⟨d, hd⟩ : ∃ d, n / 4294967296 = d := ⟨_, rfl⟩
    obtain ⟨m, hmm⟩ : ∃ d, n % 4294967296 = d := ⟨_, rfl⟩
    have e1 := i64_mask32 n
    rw [hmm] at e1
    obtain ⟨hi2, hh2⟩ : ∃ x, hi + d = x := ⟨_, rfl⟩
    obtain ⟨lo2, hl2⟩ : ∃ x, lo + m = x := ⟨_, rfl⟩
    have e2 : IntKind.i64.wrap (hi + d) = hi2 := by rw [IntKind.wrap_i64]; omega
    have e3 : IntKind.i64.wrap (lo + m) = lo2 := by rw [IntKind.wrap_i64]; omega
    have HNEW : Hid ((⟨qh, ql⟩ : Sm).ok ∧ (⟨qh, ql⟩ : Sm).v = hi2 * 4294967296 + lo2 ∧ -(((j + 1 : Nat) : Int) * 2147483648) ≤ hi2 ∧ hi2 ≤ ((j + 1 : Nat) : Int) * 2147483648 ∧ 0 ≤ lo2 ∧ lo2 ≤ ((j + 1 : Nat) : Int) * 4294967295) := Lib.hid ⟨hok2, by rw [hav, hsv]; omega, by omega, by omega, by omega, by omega⟩
    have K1 := Lib.hid (fun dd os => tells_grown (w := wr) (fun w' _ => hadd w') dd os)
    have z0 := fun dd os => cell_regrown (hx.cell 0) dd os
    have z1 := fun dd os => cell_regrown (hx.cell 1) dd os
    have zm := fun dd os => cell_regrown hc2 dd os
    have HT : Hid (∀ wx, Fr No wr wx → Blk wx b 24 #[.int .i64 sh, .int .u64 sl] ∧ wx.cell? ⟨g, o + j, none⟩ = some (.int .i64 n) ∧ Fr No w ((wx.setCell ⟨b, 0, none⟩ (.int .i64 qh)).setCell ⟨b, 1, none⟩ (.int .u64 ql)) ∧ g ≠ b) := Lib.hid fun wx fx => ⟨hx.no fx, (cell_of_heap (fx.block g (Nat.lt_of_lt_of_le hg hf.size) id)).trans hc2, ((hf.trans fx fun _ _ h => h).set_new hbw _).set_new hbw _, by omega⟩
    clear hs hsv b1 b2 b3 b4 hx hf hc hc2 hadd hav hok2 hq hmm hh2 hl2 hm hn
    go_upto_region 8 with fail
    refine wp_below_tail 6 mixedB (by kernel_rfl) ?_
    simp only [List.take_succ_cons, List.take_zero, List.drop_succ_cons, List.drop_zero]
    repeat (first | go_big_quiet_step (with_reducible exact K1.out _ _) | quiet_step (with_reducible exact K1.out _ _))
    refine wpQuiet_nil ?_
    intro wx hp
    obtain ⟨hxb, hcx, hfx, hne⟩ := HT.out wx (by obtain ⟨p, rfl⟩ := hp; exact fr_reg _ _ _)
    obtain ⟨c0, c1, f0, f1⟩ := blk2 hxb
    have HFX := Lib.hid hfx
    have HBX : Hid (Blk ((wx.setCell ⟨b, 0, none⟩ (.int .i64 qh)).setCell ⟨b, 1, none⟩ (.int .u64 ql)) b 24 #[.int .i64 qh, .int .u64 ql]) := Lib.hid ((hxb.set_ 0 _).set_ 1 _)
    clear hp z0 z1 zm hxb hfx
    have hcy : ((wx.setCell ⟨b, 0, none⟩ (.int .i64 qh)).setCell ⟨b, 1, none⟩ (.int .u64 ql)).cell? ⟨g, o + j, none⟩ = some (.int .i64 n) := by
      rw [cell_of_heap (Below.heap_setCell _ _ _ _ hne), cell_of_heap (Below.heap_setCell _ _ _ _ hne)]
      exact hcx
    go_wp2_with fail
    obtain ⟨g1, rfl⟩ : ∃ g1, gk = g1 + 1 := ⟨gk - 1, by omega⟩
    go_roundg g1
    case rel => exact Lib.hid ⟨j + 1, ⟨qh, ql⟩, hi2, lo2, by go_num, by omega, rfl, rfl, HNEW.out.1, HNEW.out.2.1, HNEW.out.2.2.1, HNEW.out.2.2.2.1, HNEW.out.2.2.2.2.1, HNEW.out.2.2.2.2.2, HBX.out, HFX.out⟩
    all_goals omega
  · have hexit : (¬ (j : Int) < (N : Int)) ∨ ((j : Int) < (N : Int) ∧ ¬ (j : Int) < 300) := by omega
    obtain ⟨l2, hl2⟩ : ∃ x, lo % 4294967296 = x := ⟨_, rfl⟩
    obtain ⟨d, hd⟩ : ∃ x, lo / 4294967296 = x := ⟨_, rfl⟩
    obtain ⟨h2', hh2⟩ : ∃ x, hi + d = x := ⟨_, rfl⟩
    have hj3 : j ≤ 300 := by omega
    have e1 := i64_mask32 lo
    rw [hl2] at e1
    have e2 : IntKind.i64.wrap (hi + d) = h2' := by rw [IntKind.wrap_i64]; omega
    have hv := value_any s hs
    have hfin := fit_in hs
    have hfout := fit_out hs
    have hsv2 : s.v = h2' * 4294967296 + l2 := by omega
    have HHX := Lib.hid hx
    have HHF := Lib.hid hf
    by_cases hfit : -2147483648 ≤ h2' ∧ h2' ≤ 2147483647
    · obtain ⟨k1, k2⟩ := hfin (by omega)
      rw [k1, k2] at hv
      obtain ⟨vv, hvv⟩ : ∃ x, s.v = x := ⟨_, rfl⟩
      rw [hvv] at hv hsv2
      obtain ⟨X, hX⟩ : ∃ x, h2' * 4294967296 = x := ⟨_, rfl⟩
      have e3 : IntKind.i64.wrap (h2' * 4294967296) = X := by rw [IntKind.wrap_i64]; omega
      have e4 : IntKind.i64.wrap (X + l2) = vv := by rw [IntKind.wrap_i64]; omega
      have g1 : (-2147483648 ≤ h2') = True := eq_true hfit.1
      have g2 : (h2' ≤ 2147483647) = True := eq_true hfit.2
      obtain ⟨sh, sl⟩ := s
      have HV : Hid (∀ w', Calls Try.prog 11 #[.agg #[.int .i64 sh, .int .u64 sl]] w' (TellsV (.tuple #[.int .i64 vv, .bool true]) w')) := Lib.hid hv
      have x0 := hx.cell 0
      have x1 := hx.cell 1
      clear hs hsv b1 b2 b3 b4 hx hf hfin hfout hsv2 hvv hX hfit hl2 hh2 hv k1 k2 hm
      rcases hexit with hn | ⟨hn, hn3⟩
      all_goals
        go_wp2_with (go_at_call 11; refine (HV.out _).mono ?_; rintro e w5 ⟨rfl, f5⟩; have HF5 := Lib.hid f5; clear f5)
        go_ret
        exact ⟨by first | rfl | simp, HHF.out.trans HF5.out fun _ _ h => h⟩
    · obtain ⟨k1, k2⟩ := hfout (by omega)
      rw [k1, k2] at hv
      have hcase : ((-2147483648 ≤ h2') = False) ∨ ((-2147483648 ≤ h2') = True ∧ (h2' ≤ 2147483647) = False) := by
        by_cases h : -2147483648 ≤ h2'
        · exact .inr ⟨eq_true h, eq_false (by omega)⟩
        · exact .inl (eq_false h)
      obtain ⟨sh, sl⟩ := s
      have HV : Hid (∀ w', Calls Try.prog 11 #[.agg #[.int .i64 sh, .int .u64 sl]] w' (TellsV (.tuple #[.int .i64 0, .bool false]) w')) := Lib.hid hv
      have x0 := hx.cell 0
      have x1 := hx.cell 1
      clear hs hsv b1 b2 b3 b4 hx hf hfin hfout hsv2 hfit hl2 hh2 hv k1 k2 hm
      rcases hexit with hn | ⟨hn, hn3⟩ <;> rcases hcase with g1 | ⟨g1, g2⟩
      all_goals
        go_wp2_with (go_at_call 11; refine (HV.out _).mono ?_; rintro e w5 ⟨rfl, f5⟩; have HF5 := Lib.hid f5; clear f5)
        go_ret
        exact ⟨by first | rfl | simp, HHF.out.trans HF5.out fun _ _ h => h⟩
end Go.Proofs.Ytgjpdagbbljmpaa
