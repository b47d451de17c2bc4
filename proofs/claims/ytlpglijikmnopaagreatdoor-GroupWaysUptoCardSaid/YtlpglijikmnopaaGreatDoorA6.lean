/- The document's own Plus, Of, Add, Minus, Value. -/
import Derived.Test.YtlpglijikmnopaaGreatDoorA5
namespace Go.Proofs.YtlpglijikmnopaaGreatDoor
open Go.RowKit Go.Maps
set_option linter.unusedVariables false

theorem Ar.lt {w : World} {y : Nat} {c : Nat → Int} (h : Ar w y c) : y < w.heap.size := Blk.lt h
theorem Ar.set_other {w : World} {y z o : Nat} {c : Nat → Int} (h : Ar w y c) (hz : y ≠ z) (v : Value) : Ar (w.setCell ⟨z, o, none⟩ v) y c := Blk.of h (Below.heap_setCell _ _ _ _ hz)
theorem Blk.set_other {w : World} {y z o : Nat} {t : TypeId} {cs : Array Value} (h : Blk w y t cs) (hz : y ≠ z) (v : Value) : Blk (w.setCell ⟨z, o, none⟩ v) y t cs := Blk.of h (Below.heap_setCell _ _ _ _ hz)
/-- The sum of two, modulo 2^128. -/
def addN (X Y : Nat) : Nat := (X + Y) % 340282366920938463463374607431768211456
theorem smN_add {a b : Sm} (ha : a.ok) (hb : b.ok) : smN (addN (uS a) (uS b)) = plusS a b := by
  unfold Sm.ok at ha hb
  unfold smN addN uS plusS w64
  ext <;> simp only <;> omega
set_option maxRecDepth 100000 in
/-- Plus. -/
theorem rplus_any (a e : Sm) (ha : a.ok) (he : e.ok) (w : World) : Calls Tryz.prog 111 #[smV a, smV e] w (TellsS (plusS a e) w) := by
  obtain ⟨X, hX⟩ : ∃ X, uS a = X := ⟨_, rfl⟩
  obtain ⟨Y, hY⟩ : ∃ Y, uS e = Y := ⟨_, rfl⟩
  have HCX : Hid (∀ w', Calls Tryz.prog 130 #[smV a] w' (TellsV (arrV (dig X)) w')) := Lib.hid fun w' => by rw [← hX]; exact digits_any a ha w'
  have HCY : Hid (∀ w', Calls Tryz.prog 130 #[smV e] w' (TellsV (arrV (dig Y)) w')) := Lib.hid fun w' => by rw [← hY]; exact digits_any e he w'
  have HS : Hid (smN (addN X Y) = plusS a e) := Lib.hid (by rw [← hX, ← hY]; exact smN_add ha he)
  obtain ⟨⟨sh, sl⟩, hs⟩ : ∃ s, plusS a e = s := ⟨_, rfl⟩
  rw [hs] at HS
  rw [hs]
  obtain ⟨ah, al⟩ := a
  obtain ⟨eh, el⟩ := e
  obtain ⟨b, hb⟩ : ∃ b, w.heap.size = b := ⟨_, rfl⟩
  obtain ⟨w0, hw0⟩ : ∃ w0, ((w.alloc (.cells #[.int .i64 ah, .int .u64 al] 86)).alloc (.cells #[.int .i64 eh, .int .u64 el] 86)).alloc (.cells #[.int .i64 0, .int .u64 0] 86) = w0 := ⟨_, rfl⟩
  have f0 : Fr No w w0 := by rw [← hw0]; exact (((Fr.refl No w).alloc _).alloc _).alloc _
  have hb0 : Blk w0 b 86 #[.int .i64 ah, .int .u64 al] := by rw [← hw0, ← hb]; exact (Blk.new w 86 _).no (((Fr.refl No _).alloc _).alloc _)
  have hb1 : Blk w0 (b + 1) 86 #[.int .i64 eh, .int .u64 el] := by rw [← hw0, ← hb]; exact (blk_at1 w _ 86 _).no ((Fr.refl No _).alloc _)
  have hb2 : Blk w0 (b + 2) 86 #[.int .i64 0, .int .u64 0] := by rw [← hw0, ← hb]; exact blk_at2 w _ _ 86 _
  have HW0 := Lib.hid hw0
  have HB := Lib.hid hb
  have HF0 := Lib.hid f0
  have HB0 := Lib.hid hb0
  have HB1 := Lib.hid hb1
  have HB2 := Lib.hid hb2
  have hbw : w.heap.size ≤ b := by omega
  obtain ⟨c0, c1, -, -⟩ := blk2 hb0
  clear hb hw0 f0 hb0 hb1 hb2 ha he hX hY hs
  go_enter Tryz.func111, Tryz.ntmps111
  go_upto_region 1 with fail
  rw [HW0.out, HB.out]
  go_upto_region 2 with (go_at_call 130; refine (HCX.out _).mono ?_; rintro e1 w1 ⟨rfl, f1⟩; have HF1 := Lib.hid f1; clear f1)
  clear c0 c1
  obtain ⟨y1, hy1⟩ : ∃ y, w1.heap.size = y := ⟨_, rfl⟩
  obtain ⟨w2, hw2⟩ : ∃ w2, w1.alloc (.cells (arrL (dig X)) 159) = w2 := ⟨_, rfl⟩
  rw [hw2, hy1]
  have f2 : Fr No w0 w2 := by rw [← hw2]; exact HF1.out.alloc _
  have hX2 : Ar w2 y1 (dig X) := by rw [← hw2, ← hy1]; exact Blk.new w1 159 _
  have hy1b : w0.heap.size ≤ y1 := by rw [← hy1]; exact HF1.out.size
  have HF2 := Lib.hid f2
  have HX2 := Lib.hid hX2
  obtain ⟨c0, c1, -, -⟩ := blk2 (HB1.out.no f2)
  clear hw2 hy1 f2 hX2 HF1
  go_upto_region 3 with (go_at_call 130; refine (HCY.out _).mono ?_; rintro e1 w3 ⟨rfl, f3⟩; have HF3 := Lib.hid f3; clear f3)
  clear c0 c1
  obtain ⟨y2, hy2⟩ : ∃ y, w3.heap.size = y := ⟨_, rfl⟩
  obtain ⟨w4, hw4⟩ : ∃ w4, w3.alloc (.cells (arrL (dig Y)) 159) = w4 := ⟨_, rfl⟩
  rw [hw4, hy2]
  have f4 : Fr No w2 w4 := by rw [← hw4]; exact HF3.out.alloc _
  have hY4 : Ar w4 y2 (dig Y) := by rw [← hw4, ← hy2]; exact Blk.new w3 159 _
  have hX4 : Ar w4 y1 (dig X) := HX2.out.no f4
  have hR4 : Blk w4 (b + 2) 86 #[.int .i64 0, .int .u64 0] := (HB2.out.no HF2.out).no f4
  have hlt1 := HX2.out.lt
  have hww := HF0.out.size
  have hlt2 := HB2.out.lt
  have h32 := HF3.out.size
  have hne : y1 ≠ y2 := by omega
  have hne2 : b + 2 ≠ y1 := by omega
  have hwy : w.heap.size ≤ y1 := by omega
  have HFF : Hid (Fr No w w4) := Lib.hid ((HF0.out.trans HF2.out fun _ _ h => h).trans f4 fun _ _ h => h)
  have HY4 := Lib.hid hY4
  have HX4 := Lib.hid hX4
  have HR4 := Lib.hid hR4
  clear hy2 hw4 f4 hY4 hX4 hR4 hlt1 hww hlt2 h32 HF3 HF2 HX2 HB0 HB1 HB2 HF0 HW0 HCX HCY hy1b
  go_wp2_with fail
  rename World => wo
  go_loopg [7, 8, 9] 16 (fun k r7 r8 r9 wr => Hid (∃ (j q : Nat) (c : Nat → Int), r8 = .int .i64 (j : Nat) ∧ j + k = 16 ∧ r7 = .int .i64 (q : Nat) ∧ q ≤ 1 ∧ (X + Y) / 256 ^ j = X / 256 ^ j + Y / 256 ^ j + q ∧ Ar wr y1 c ∧ (∀ i, i < 16 → c i = if i < j then dig (X + Y) i else dig X i) ∧ Ar wr y2 (dig Y) ∧ Blk wr (b + 2) 86 #[.int .i64 0, .int .u64 0] ∧ Fr No w wr))
  case atStart => exact Lib.hid ⟨0, 0, _, rfl, by omega, rfl, by omega, by simp, HX4.out, fun i _ => by rw [if_neg (by omega)], HY4.out, HR4.out, HFF.out⟩
  case round =>
  obtain ⟨j, q, c, rfl, hjk, rfl, hq1, hdiv, hA, hc, hY, hR, hf⟩ := hrel.out
  clear hrel
  by_cases hj : j < 16
  · have hji : (j : Int) < 16 := by omega
    have n1 := div_next X j
    have n2 := div_next Y j
    have n3 := div_next (X + Y) j
    obtain ⟨u, hu⟩ : ∃ x, X / 256 ^ j = x := ⟨_, rfl⟩
    obtain ⟨v, hv⟩ : ∃ x, Y / 256 ^ j = x := ⟨_, rfl⟩
    obtain ⟨s, hs⟩ : ∃ x, (X + Y) / 256 ^ j = x := ⟨_, rfl⟩
    rw [hu] at n1 hdiv
    rw [hv] at n2 hdiv
    rw [hs] at n3 hdiv
    obtain ⟨x, hx⟩ : ∃ x, u % 256 = x := ⟨_, rfl⟩
    obtain ⟨y, hy⟩ : ∃ x, v % 256 = x := ⟨_, rfl⟩
    have s1 := hA.cell (i := j) hj
    have s2 := hY.cell (i := j) hj
    have s3 : ∀ m, (wr.drewN m).cell? ⟨y1, j, none⟩ = some (.int .i64 (c j)) := fun m => s1
    have s4 : ∀ m, (wr.drewN m).frozen? ⟨y1, j, none⟩ = false := fun m => hA.frozen j
    have ecx : c j = (x : Int) := by rw [hc j hj, if_neg (by omega)]; unfold dig; rw [hu, hx]
    have edy : dig Y j = (y : Int) := by unfold dig; rw [hv, hy]
    rw [ecx] at s1 s3
    rw [edy] at s2
    obtain ⟨xy, hxy⟩ : ∃ z, x + y = z := ⟨_, rfl⟩
    have t1 : IntKind.i64.wrap ((x : Int) + (y : Int)) = (xy : Int) := by rw [IntKind.wrap_i64]; omega
    obtain ⟨n, hn⟩ : ∃ z, xy + q = z := ⟨_, rfl⟩
    have t2 : IntKind.i64.wrap ((xy : Int) + (q : Int)) = (n : Int) := by rw [IntKind.wrap_i64]; omega
    obtain ⟨r, hr⟩ : ∃ z, n % 256 = z := ⟨_, rfl⟩
    obtain ⟨q', hq'⟩ : ∃ z, n / 256 = z := ⟨_, rfl⟩
    have t3 : Int.tmod (n : Int) 256 = (r : Int) := by rw [← hr]; rfl
    have t4 : Int.tdiv (n : Int) 256 = (q' : Int) := by rw [← hq']; rfl
    have t5 : IntKind.i64.wrap (q' : Int) = (q' : Int) := by rw [IntKind.wrap_i64]; omega
    have HA2 : Hid (∀ m, Ar ((wr.drewN m).setCell ⟨y1, j, none⟩ (.int .i64 (r : Int))) y1 (upd c j (r : Int))) := Lib.hid fun m => Ar.put (w := wr.drewN m) hA hj _
    have HY2 : Hid (∀ m, Ar ((wr.drewN m).setCell ⟨y1, j, none⟩ (.int .i64 (r : Int))) y2 (dig Y)) := Lib.hid fun m => Ar.set_other (w := wr.drewN m) hY (fun e => hne e.symm) _
    have HR2 : Hid (∀ m, Blk ((wr.drewN m).setCell ⟨y1, j, none⟩ (.int .i64 (r : Int))) (b + 2) 86 #[.int .i64 0, .int .u64 0]) := Lib.hid fun m => Blk.set_other (w := wr.drewN m) hR hne2 _
    have HF2 : Hid (∀ m, Fr No w ((wr.drewN m).setCell ⟨y1, j, none⟩ (.int .i64 (r : Int)))) := Lib.hid fun m => (hf.drewN m).set_new hwy _
    have HD2 : Hid ((X + Y) / 256 ^ (j + 1) = X / 256 ^ (j + 1) + Y / 256 ^ (j + 1) + q' ∧ q' ≤ 1) := Lib.hid (by rw [← n1, ← n2, ← n3]; exact ⟨by omega, by omega⟩)
    have HC2 : Hid (∀ i, i < 16 → upd c j (r : Int) i = if i < j + 1 then dig (X + Y) i else dig X i) := Lib.hid fun i hi => by
      unfold upd
      by_cases e : i = j
      · subst e
        rw [if_pos rfl, if_pos (by omega)]
        unfold dig
        rw [hs]
        omega
      · rw [if_neg e, hc i hi]
        by_cases h2 : i < j
        · rw [if_pos h2, if_pos (by omega)]
        · rw [if_neg h2, if_neg (by omega)]
    clear n1 n2 n3 hu hv hs hdiv hx hy hxy hn hr hq' hA hY hR hf hc ecx edy
    go_upto_region 7 with fail
    go_quiet (fail)
    go_wp2_with fail
    obtain ⟨g1, rfl⟩ : ∃ g1, gk = g1 + 1 := ⟨gk - 1, by omega⟩
    go_roundg g1
    case rel => exact Lib.hid ⟨j + 1, q', _, by go_num, by omega, rfl, HD2.out.2, HD2.out.1, HA2.out _, HC2.out, HY2.out _, HR2.out _, HF2.out _⟩
    all_goals omega
  · have hji : (16 : Int) ≤ (j : Int) := by omega
    have hcc : ∀ i, i < 16 → c i = dig (addN X Y) i := fun i hi => by
      rw [hc i hi, if_pos (by omega)]
      exact (dig_mod (X + Y) i hi).symm
    have HSUM : Hid (∀ w', Calls Tryz.prog 131 #[arrV c] w' (TellsV (.agg #[.int .i64 sh, .int .u64 sl]) w')) := Lib.hid fun w' => by
      have := sum_any (addN X Y) c hcc (Nat.mod_lt _ (by decide)) w'
      rw [HS.out] at this
      exact this
    obtain ⟨a0, a1, a2, a3, a4, a5, a6, a7, a8, a9, a10, a11, a12, a13, a14, a15⟩ := hA.cells
    have HR2 := Lib.hid hR
    have HF2 := Lib.hid hf
    clear hA hY hR hf hc hcc hdiv
    go_wp2_with (go_at_call 131; refine (HSUM.out _).mono ?_; rintro e1 w5 ⟨rfl, f5⟩; have HF5 := Lib.hid f5; obtain ⟨c0, c1, z0, z1⟩ := blk2 (HR2.out.no f5); clear f5)
    refine bodyPost_ret (v := smV ⟨sh, sl⟩) (by simp [results, Tryz.results111, go_sem, c0, c1]) rfl ⟨rfl, ?_⟩
    have hbb : w.heap.size ≤ b + 2 := by omega
    refine Fr.set_new (Fr.set_new ?_ hbb _) hbb _
    exact HF2.out.trans HF5.out fun _ _ h => h
end Go.Proofs.YtlpglijikmnopaaGreatDoor
