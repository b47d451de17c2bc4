/- A sum's size; a number of two halves divided by ten. -/
import Derived.Test.YtgjpdagbbljmpaaA2
namespace Go.Proofs.Ytgjpdagbbljmpaa
open Go.RowKit Go.Maps
set_option linter.unusedVariables false

set_option maxRecDepth 100000 in
theorem len10_any (w : World) : Calls Try.prog 47 #[.int .u64 10] w (TellsI 4 w) := by
  go_enter Try.func47, Try.ntmps47
  go_wp2_with fail
  go_ret
  exact ⟨by kernel_rfl, Fr.refl _ _⟩
set_option maxRecDepth 100000 in
theorem lead10_any (w : World) : Calls Try.prog 46 #[.int .u64 10] w (TellsI 60 w) := by
  have HC := Lib.hid (fun w' => len10_any w')
  go_enter Try.func46, Try.ntmps46
  go_wp2_with (go_at_call 47; refine (HC.out _).mono ?_; rintro e w1 ⟨rfl, f1⟩; have HF1 := Lib.hid f1; clear f1)
  go_ret
  exact ⟨rfl, HF1.out⟩
theorem div_small (l : Int) (h0 : 0 ≤ l) (h1 : l < 18446744073709551616) (w : World) : Calls Try.prog 45 #[.int .u64 0, .int .u64 l, .int .u64 10] w (TellsV (.tuple #[.int .u64 (l / 10), .int .u64 (l % 10)]) w) := by
  obtain ⟨q, hq⟩ : ∃ q, l / 10 = q := ⟨_, rfl⟩
  obtain ⟨r, hr⟩ : ∃ q, l % 10 = q := ⟨_, rfl⟩
  have e1 : Int.tdiv l 10 = q := by rw [Int.tdiv_eq_ediv_of_nonneg h0, hq]
  have e2 : Int.tmod l 10 = r := by rw [Int.tmod_eq_emod_of_nonneg h0, hr]
  have e3 : IntKind.u64.wrap q = q := by rw [← hq]; simp [IntKind.wrap, IntKind.bits, IntKind.signed]; omega
  rw [hq, hr]
  clear hq hr
  go_enter Try.func45, Try.ntmps45
  go_upto_region 6 with fail
  go_quiet (fail)
  go_wp2_with fail
  go_ret2
  exact ⟨rfl, (Fr.refl _ _).drewN _⟩
theorem mask0 (k : Int) (h0 : 0 ≤ k) (h1 : k < 16) : bits .and .u64 (k * 1152921504606846976) 4294967295 = 0 := by
  rw [u64_and _ _ (by omega) (by omega) (by decide) (by decide)]
  have e : ((4294967295 : Int).toNat) = 2 ^ 32 - 1 := rfl
  rw [e, Nat.and_two_pow_sub_one_eq_mod]
  have : (2 : Nat) ^ 32 = 4294967296 := rfl
  omega
theorem join60 (h m : Int) (h0 : 0 ≤ h) (h1 : h < 10) (m0 : 0 ≤ m) (m1 : m < 1152921504606846976) : bits .or .u64 (h * 1152921504606846976) m = h * 1152921504606846976 + m := by
  rw [u64_or _ _ (by omega) (by omega) (by omega) (by omega)]
  obtain ⟨H, rfl⟩ := Int.eq_ofNat_of_zero_le h0
  obtain ⟨M, rfl⟩ := Int.eq_ofNat_of_zero_le m0
  have e : ((H : Int) * 1152921504606846976).toNat = 2 ^ 60 * H := by
    have : (2 : Nat) ^ 60 = 1152921504606846976 := rfl
    omega
  have e2 : 2 ^ 60 * H + M = 2 ^ 60 * H ||| M := Nat.two_pow_add_eq_or_of_lt (by have : (2 : Nat) ^ 60 = 1152921504606846976 := rfl; omega) H
  rw [e, Int.toNat_natCast, ← e2]
  have : (2 : Nat) ^ 60 = 1152921504606846976 := rfl
  omega
theorem u64w (n : Int) : IntKind.u64.wrap n = n % 18446744073709551616 := by simp [IntKind.wrap, IntKind.bits, IntKind.signed]
set_option maxRecDepth 100000 in
set_option maxHeartbeats 1000000 in
theorem div_big (h l : Int) (hh0 : 0 < h) (hh : h < 10) (h0 : 0 ≤ l) (h1 : l < 18446744073709551616) (w : World) : Calls Try.prog 45 #[.int .u64 h, .int .u64 l, .int .u64 10] w (TellsV (.tuple #[.int .u64 ((h * 18446744073709551616 + l) / 10), .int .u64 ((h * 18446744073709551616 + l) % 10)]) w) := by
  have HC := Lib.hid (fun w' => lead10_any w')
  have d1 : decide ((10 : Int) ≤ h) = false := decide_eq_false (by omega)
  have d2 : (h == 0) = false := by simp; omega
  have b0 : bits .and .u64 11529215046068469760 4294967295 = 0 := mask0 10 (by decide) (by decide)
  obtain ⟨s, hs⟩ : ∃ s, l / 16 = s := ⟨_, rfl⟩
  obtain ⟨A, hA⟩ : ∃ A, h * 1152921504606846976 + s = A := ⟨_, rfl⟩
  have e1 : bits .or .u64 (h * 1152921504606846976) s = A := by rw [join60 h s (by omega) hh (by omega) (by omega), hA]
  obtain ⟨t, ht⟩ : ∃ t, l % 16 = t := ⟨_, rfl⟩
  obtain ⟨B, hB⟩ : ∃ B, t * 1152921504606846976 = B := ⟨_, rfl⟩
  have e2 : IntKind.u64.wrap (l * 1152921504606846976) = B := by rw [u64w]; omega
  obtain ⟨C, hC⟩ : ∃ C, B / 4294967296 = C := ⟨_, rfl⟩
  have hC2 : C = t * 268435456 := by omega
  have e3 : bits .and .u64 B 4294967295 = 0 := by rw [← hB]; exact mask0 t (by omega) (by omega)
  obtain ⟨q1, hq1⟩ : ∃ q, A / 2684354560 = q := ⟨_, rfl⟩
  have e4 : Int.tdiv A 2684354560 = q1 := by rw [Int.tdiv_eq_ediv_of_nonneg (by omega), hq1]
  have q1b : 0 ≤ q1 ∧ q1 < 4294967296 := by omega
  have e5 : IntKind.u64.wrap q1 = q1 := by rw [u64w]; omega
  obtain ⟨m1, hm1⟩ : ∃ m, q1 * 2684354560 = m := ⟨_, rfl⟩
  have e6 : IntKind.u64.wrap (q1 * 2684354560) = m1 := by rw [u64w]; omega
  obtain ⟨r1, hr1⟩ : ∃ r, A - m1 = r := ⟨_, rfl⟩
  have r1b : 0 ≤ r1 ∧ r1 < 2684354560 := by omega
  have e7 : IntKind.u64.wrap (A - m1) = r1 := by rw [u64w]; omega
  have e8 : decide ((4294967296 : Int) ≤ q1) = false := decide_eq_false (by omega)
  obtain ⟨X1, hX1⟩ : ∃ x, 4294967296 * r1 = x := ⟨_, rfl⟩
  have e9 : IntKind.u64.wrap (4294967296 * r1) = X1 := by rw [u64w]; omega
  obtain ⟨U, hU⟩ : ∃ u, X1 + C = u := ⟨_, rfl⟩
  have Ub : 0 ≤ U ∧ U < 11529215046068469760 := by omega
  have e10 : IntKind.u64.wrap (X1 + C) = U := by rw [u64w]; omega
  have e11 : decide (U < 0) = false := decide_eq_false (by omega)
  obtain ⟨D1, hD1⟩ : ∃ x, A * 4294967296 % 18446744073709551616 = x := ⟨_, rfl⟩
  have e12 : IntKind.u64.wrap (A * 4294967296) = D1 := by rw [u64w, hD1]
  obtain ⟨D2, hD2⟩ : ∃ x, (D1 + C) % 18446744073709551616 = x := ⟨_, rfl⟩
  have e13 : IntKind.u64.wrap (D1 + C) = D2 := by rw [u64w, hD2]
  obtain ⟨D3, hD3⟩ : ∃ x, q1 * 11529215046068469760 % 18446744073709551616 = x := ⟨_, rfl⟩
  have e14 : IntKind.u64.wrap (q1 * 11529215046068469760) = D3 := by rw [u64w, hD3]
  have e15 : IntKind.u64.wrap (D2 - D3) = U := by rw [u64w]; omega
  obtain ⟨q0, hq0⟩ : ∃ q, U / 2684354560 = q := ⟨_, rfl⟩
  have q0b : 0 ≤ q0 ∧ q0 < 4294967296 := by omega
  have e16 : Int.tdiv U 2684354560 = q0 := by rw [Int.tdiv_eq_ediv_of_nonneg (by omega), hq0]
  have e17 : IntKind.u64.wrap q0 = q0 := by rw [u64w]; omega
  obtain ⟨m0, hm0⟩ : ∃ m, q0 * 2684354560 = m := ⟨_, rfl⟩
  have e18 : IntKind.u64.wrap (q0 * 2684354560) = m0 := by rw [u64w]; omega
  obtain ⟨r0, hr0⟩ : ∃ r, U - m0 = r := ⟨_, rfl⟩
  have r0b : 0 ≤ r0 ∧ r0 < 2684354560 := by omega
  have e19 : IntKind.u64.wrap (U - m0) = r0 := by rw [u64w]; omega
  have e20 : decide ((4294967296 : Int) ≤ q0) = false := decide_eq_false (by omega)
  obtain ⟨X0, hX0⟩ : ∃ x, 4294967296 * r0 = x := ⟨_, rfl⟩
  have e21 : IntKind.u64.wrap (4294967296 * r0) = X0 := by rw [u64w]; omega
  have e22 : IntKind.u64.wrap X0 = X0 := by rw [u64w]; omega
  have e23 : decide (X0 < 0) = false := decide_eq_false (by omega)
  obtain ⟨E1, hE1⟩ : ∃ x, q1 * 4294967296 = x := ⟨_, rfl⟩
  have e24 : IntKind.u64.wrap (q1 * 4294967296) = E1 := by rw [u64w]; omega
  obtain ⟨Q, hQ⟩ : ∃ x, (h * 18446744073709551616 + l) / 10 = x := ⟨_, rfl⟩
  have hT : U = (r1 * 16 + t) * 268435456 := by omega
  have hq0' : q0 = (r1 * 16 + t) / 10 := by omega
  have hN : h * 18446744073709551616 + l = q1 * 42949672960 + (r1 * 16 + t) := by omega
  have e25 : IntKind.u64.wrap (E1 + q0) = Q := by rw [u64w]; omega
  obtain ⟨E2, hE2⟩ : ∃ x, U * 4294967296 % 18446744073709551616 = x := ⟨_, rfl⟩
  have e26 : IntKind.u64.wrap (U * 4294967296) = E2 := by rw [u64w, hE2]
  have e27 : IntKind.u64.wrap E2 = E2 := by rw [u64w]; omega
  obtain ⟨E3, hE3⟩ : ∃ x, q0 * 11529215046068469760 % 18446744073709551616 = x := ⟨_, rfl⟩
  have e28 : IntKind.u64.wrap (q0 * 11529215046068469760) = E3 := by rw [u64w, hE3]
  obtain ⟨R, hR⟩ : ∃ x, (h * 18446744073709551616 + l) % 10 = x := ⟨_, rfl⟩
  obtain ⟨E4, hE4⟩ : ∃ x, R * 1152921504606846976 = x := ⟨_, rfl⟩
  have hR' : R = (r1 * 16 + t) - q0 * 10 := by omega
  have e29 : IntKind.u64.wrap (E2 - E3) = E4 := by rw [u64w]; omega
  have e30 : E4 / 1152921504606846976 = R := by omega
  rw [hQ, hR]
  clear hA hB hC2 hq1 q1b hm1 hr1 r1b hX1 hU Ub hD1 hD2 hD3 hq0 q0b hm0 hr0 r0b hX0 hE1 hQ hT hq0' hN hE2 hE3 hR hE4 hR' ht
  go_enter Try.func45, Try.ntmps45
  go_upto_region 7 with fail
  go_wp2_with (go_at_call 46; refine (HC.out _).mono ?_; rintro e w1 ⟨rfl, f1⟩; have HF1 := Lib.hid f1; clear f1)
  go_loopg [15, 16] 0 (fun k r15 r16 wr => Hid (r15 = .int .u64 q1 ∧ r16 = .int .u64 r1 ∧ Fr No w wr))
  case atStart => exact Lib.hid ⟨rfl, rfl, HF1.out⟩
  case round =>
  obtain ⟨rfl, rfl, hf⟩ := hrel.out
  clear hrel
  have HF := Lib.hid hf
  clear hf
  go_wp2_with fail
  rename World => wo
  go_loopg [18, 16] 0 (fun k r18 r16 wr => Hid (r18 = .int .u64 q0 ∧ r16 = .int .u64 r0 ∧ Fr No w wr))
  case atStart => exact Lib.hid ⟨rfl, rfl, HF.out⟩
  case round =>
  obtain ⟨rfl, rfl, hf⟩ := hrel.out
  clear hrel
  have HG := Lib.hid hf
  clear hf
  go_wp2_with fail
  go_ret2
  exact ⟨rfl, HG.out⟩
set_option maxRecDepth 100000 in
theorem div_any (h l : Int) (hh0 : 0 ≤ h) (hh : h < 10) (h0 : 0 ≤ l) (h1 : l < 18446744073709551616) (w : World) : Calls Try.prog 45 #[.int .u64 h, .int .u64 l, .int .u64 10] w (TellsV (.tuple #[.int .u64 ((h * 18446744073709551616 + l) / 10), .int .u64 ((h * 18446744073709551616 + l) % 10)]) w) := by
  by_cases hz : h = 0
  · subst hz
    have := div_small l h0 h1 w
    rw [Int.zero_mul, Int.zero_add]
    exact this
  · exact div_big h l (by omega) hh h0 h1 w
set_option maxRecDepth 100000 in
/-- tenth: a number of two halves divided by ten, and the rest. -/
theorem tenth_any (h l : Int) (hh0 : 0 ≤ h) (hh : h < 18446744073709551616) (h0 : 0 ≤ l) (h1 : l < 18446744073709551616) (w : World) :
    Calls Try.prog 37 #[.int .u64 h, .int .u64 l] w (TellsV (.tuple #[.int .u64 (h / 10), .int .u64 ((h % 10 * 18446744073709551616 + l) / 10), .int .u64 ((h % 10 * 18446744073709551616 + l) % 10)]) w) := by
  have HC := Lib.hid (fun w' => div_any (h % 10) l (by omega) (by omega) h0 h1 w')
  obtain ⟨q, hq⟩ : ∃ q, h / 10 = q := ⟨_, rfl⟩
  obtain ⟨r, hr⟩ : ∃ q, h % 10 = q := ⟨_, rfl⟩
  have e1 : Int.tdiv h 10 = q := by rw [Int.tdiv_eq_ediv_of_nonneg hh0, hq]
  have e2 : Int.tmod h 10 = r := by rw [Int.tmod_eq_emod_of_nonneg hh0, hr]
  have e3 : IntKind.u64.wrap q = q := by rw [u64w]; omega
  have e4 : IntKind.u64.wrap r = r := by rw [u64w]; omega
  rw [hr] at HC
  rw [hq, hr]
  obtain ⟨x, hx⟩ : ∃ x, (r * 18446744073709551616 + l) / 10 = x := ⟨_, rfl⟩
  obtain ⟨y, hy⟩ : ∃ y, (r * 18446744073709551616 + l) % 10 = y := ⟨_, rfl⟩
  rw [hx, hy] at HC ⊢
  clear hq hr hx hy
  go_enter Try.func37, Try.ntmps37
  go_wp2_with (go_at_call 45; refine (HC.out _).mono ?_; rintro e w1 ⟨rfl, f1⟩; have HF1 := Lib.hid f1; clear f1)
  refine bodyPost_ret (v := .tuple #[.int .u64 q, .int .u64 x, .int .u64 y]) (by simp [results, Try.results37, go_sem]) rfl ⟨rfl, HF1.out⟩
/-- What a sum's two halves are without a sign. -/
def magS (a : Sm) : Int := (a.v.natAbs : Int)
set_option maxRecDepth 100000 in
/-- size: a sum without its sign. -/
theorem size_any (a : Sm) (ha : a.ok) (w : World) : Calls Try.prog 36 #[smV a] w (TellsV (.tuple #[.int .u64 (magS a / 18446744073709551616), .int .u64 (magS a % 18446744073709551616)]) w) := by
  have HC := Lib.hid (fun w' => minus_any a ha w')
  have hmin := minus_abs ha
  have hok := minusS_ok a
  obtain ⟨ah, al⟩ := a
  obtain ⟨⟨mh, ml⟩, hm⟩ : ∃ s, minusS ⟨ah, al⟩ = s := ⟨_, rfl⟩
  rw [hm] at HC hmin hok
  obtain ⟨m, hmm⟩ : ∃ m, magS ⟨ah, al⟩ = m := ⟨_, rfl⟩
  rw [hmm]
  obtain ⟨x, hx⟩ : ∃ x, m / 18446744073709551616 = x := ⟨_, rfl⟩
  obtain ⟨y, hy⟩ : ∃ y, m % 18446744073709551616 = y := ⟨_, rfl⟩
  rw [hx, hy]
  have HCC : Hid (∀ w', Calls Try.prog 17 #[.agg #[.int .i64 ah, .int .u64 al]] w' (TellsV (.agg #[.int .i64 mh, .int .u64 ml]) w')) := Lib.hid fun w' => HC.out w'
  clear HC hm
  unfold Sm.ok at ha hok
  unfold magS Sm.v at hmm
  unfold Sm.v at hmin
  simp only at ha hok hmm hmin
  by_cases hneg : ah < 0
  · have e1 : IntKind.u64.wrap mh = x := by rw [u64w]; have := hmin hneg; omega
    have e2 : ml = y := by have := hmin hneg; omega
    have e3 : (ah < 0) = True := eq_true hneg
    subst e2
    clear ha hok hmm hmin hneg hx hy
    go_enter Try.func36, Try.ntmps36
    go_upto_region 2 with fail
    go_wp2_with (go_at_call 17; refine (HCC.out _).mono ?_; rintro e w1 ⟨rfl, f1⟩; have HF1 := Lib.hid f1; have hb : Blk w1 w.heap.size 24 #[.int .i64 ah, .int .u64 al] := new_blk f1 rfl; obtain ⟨c0, c1, z0, z1⟩ := blk2 hb; clear f1 hb)
    go_quiet (fail)
    go_wp2_with fail
    go_ret2
    refine ⟨rfl, ?_⟩
    exact (((((Fr.refl No w).alloc _).trans HF1.out fun _ _ h => h).set_new (by omega) _ |>.set_new (by omega) _)).drewN _
  · have e1 : IntKind.u64.wrap ah = x := by rw [u64w]; omega
    have e2 : al = y := by omega
    have e3 : (ah < 0) = False := eq_false hneg
    subst e2
    clear ha hok hmm hmin hneg hx hy
    go_enter Try.func36, Try.ntmps36
    go_upto_region 3 with fail
    go_quiet (fail)
    go_wp2_with fail
    go_ret2
    exact ⟨rfl, ((Fr.refl No w).alloc _).drewN _⟩
end Go.Proofs.Ytgjpdagbbljmpaa
