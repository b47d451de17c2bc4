/- Are two lists of rows the same? -/
import Derived.Test.YtlpglijikmnopaaGreatDoorUG11
import Derived.Lib.AppendZerosOnto
import Derived.Test.YtlpglijikmnopaaGreatDoorUG15
namespace Go.Proofs.YtlpglijikmnopaaGreatDoor
open Go.RowKit Go.Maps Go.Sort Go.Proofs
set_option linter.unusedVariables false

set_option maxRecDepth 100000 in
set_option maxHeartbeats 1000000 in
theorem equalS_any {K K2 : Nat → Prop} (l m : List Tx) (v v2 : Value) (w : World) (h : KR K w v l) (h2 : KR K2 w v2 m) : Calls Tryz.prog 60 #[v, v2] w (TellsB (decide (l = m)) w) := by
  obtain ⟨A, ca, rfl, ha1, ha2⟩ := h.form
  obtain ⟨B, cb, rfl, hb1, hb2⟩ := h2.form
  by_cases hlen : l.length = m.length
  · obtain ⟨N, hN⟩ : ∃ N, l.length = N := ⟨_, rfl⟩
    have hM : m.length = N := by omega
    have HN := Lib.hid hN
    have HM := Lib.hid hM
    have HP := Lib.hid h
    have HQ := Lib.hid h2
    have hNb : N ≤ 9223372036854775807 := by unfold maxLen at ha2; omega
    rw [hN] at HP ⊢
    rw [hM] at HQ ⊢
    clear h h2 hlen hN hM ha1 ha2 hb1 hb2
    go_enter Tryz.func60, Tryz.ntmps60
    go_wp2_with fail
    go_loopg [5, 13] N (fun k r5 r13 wr => Hid (∃ (j : Nat), r13 = .int .i64 (j : Nat) ∧ j + k = N ∧ (∀ i (h1 : i < l.length) (h2 : i < m.length), i < j → l[i] = m[i]) ∧ Fr No w wr))
    case atStart => exact Lib.hid ⟨0, rfl, by omega, fun i _ _ h => absurd h (by omega), Fr.refl _ _⟩
    case round =>
    obtain ⟨j, rfl, hjk, heq, hf⟩ := hrel.out
    clear hrel
    by_cases hj : j < N
    · have hji : (j : Int) < (N : Int) := by omega
      have hjl : j < l.length := by have := HN.out; omega
      have hjm : j < m.length := by have := HM.out; omega
      obtain ⟨g1, o1, rfl, -, -, h5, -⟩ := (HP.out.no hf).at_ hjl
      obtain ⟨g2, o2, rfl, -, -, k5, -⟩ := (HQ.out.no hf).at_ hjm
      obtain ⟨p, hp⟩ : ∃ p, l[j] = p := ⟨_, rfl⟩
      obtain ⟨q, hq⟩ : ∃ q, m[j] = q := ⟨_, rfl⟩
      rw [hp] at h5
      rw [hq] at k5
      have HF := Lib.hid hf
      by_cases e : p = q
      · have HEQ : Hid (∀ i (h1 : i < l.length) (h2 : i < m.length), i < j + 1 → l[i] = m[i]) := Lib.hid fun i h1 h2 hi => by
          rcases Nat.lt_or_ge i j with h | h
          · exact heq i h1 h2 h
          · obtain rfl : i = j := by omega
            rw [hp, hq, e]
        subst e
        clear heq hf hp hq
        go_upto_region 6 with fail
        go_quiet (fail)
        go_wp2_with fail
        obtain ⟨g1, rfl⟩ : ∃ g1, gk = g1 + 1 := ⟨gk - 1, by omega⟩
        go_roundg g1
        case rel => exact Lib.hid ⟨j + 1, by go_num, by omega, HEQ.out, HF.out.drewN _⟩
        all_goals omega
      · have HV : Hid (decide (l = m) = false) := Lib.hid (decide_eq_false fun h => e (by subst h; rw [← hp, ← hq]))
        have hbe : (p == q) = false := by simp [e]
        have hbn : (p != q) = true := by simp [e]
        clear heq hf hp hq
        go_upto_region 6 with fail
        go_quiet (fail)
        go_wp2_with fail
        go_ret
        exact ⟨by rw [HV.out]; rfl, HF.out.drewN _⟩
    · have hji : (N : Int) ≤ (j : Int) := by omega
      have HV : Hid (decide (l = m) = true) := Lib.hid (decide_eq_true (List.ext_getElem (by rw [HN.out, HM.out]) fun i h1 h2 => heq i h1 h2 (by have := HN.out; omega)))
      have HF := Lib.hid hf
      clear heq hf
      go_wp2_with fail
      go_ret
      exact ⟨by rw [HV.out]; rfl, HF.out⟩
  · have HV : Hid (decide (l = m) = false) := Lib.hid (decide_eq_false fun h => hlen (by rw [h]))
    obtain ⟨N, hN⟩ : ∃ N, l.length = N := ⟨_, rfl⟩
    obtain ⟨M, hM⟩ : ∃ M, m.length = M := ⟨_, rfl⟩
    rw [hN, hM] at hlen
    rw [hN, hM]
    have d1 : (N : Int) ≠ (M : Int) := by omega
    rw [HV.out]
    clear h h2 hN hM HV
    go_enter Tryz.func60, Tryz.ntmps60
    go_wp2_with fail
    go_ret
    exact ⟨rfl, Fr.refl _ _⟩
/-- Two rows. -/
def sameRw (x y : Rw) : Bool := decide (x.key = y.key) && sameA x.acc y.acc
set_option maxRecDepth 100000 in
theorem closS_any {K K2 : Nat → Prop} (w : World) (x y : Rw) (cs ds : List Value) (hx : rwG K w x cs) (hy : rwG K2 w y ds) : Calls Tryz.prog 59 #[.agg cs.toArray, .agg ds.toArray] w (TellsB (sameRw x y) w) := by
  obtain ⟨kv, pv, rfl, h1, h2⟩ := hx
  obtain ⟨kv2, pv2, rfl, h3, h4⟩ := hy
  obtain ⟨w2, hw2⟩ : ∃ w2, (w.alloc (.cells #[kv, .int .i64 x.acc.count, pv] 50)).alloc (.cells #[kv2, .int .i64 y.acc.count, pv2] 50) = w2 := ⟨_, rfl⟩
  obtain ⟨b, hb⟩ : ∃ b, w.heap.size = b := ⟨_, rfl⟩
  have f2 : Fr No w w2 := by rw [← hw2]; exact ((Fr.refl No w).alloc _).alloc _
  have hx2 : Blk w2 b 50 #[kv, .int .i64 x.acc.count, pv] := by rw [← hw2, ← hb]; exact (Blk.new w 50 _).no ((Fr.refl No _).alloc _)
  have hy2 : Blk w2 (b + 1) 50 #[kv2, .int .i64 y.acc.count, pv2] := by rw [← hw2, ← hb]; exact blk_at1 w _ 50 _
  have HC : Hid (∀ w', Fr No w2 w' → Calls Tryz.prog 60 #[kv, kv2] w' (TellsB (decide (x.key = y.key)) w')) := Lib.hid fun w' f' => equalS_any _ _ _ _ w' (h1.no (f2.trans f' fun _ _ h => h)) (h3.no (f2.trans f' fun _ _ h => h))
  have HS : Hid (∀ w', Fr No w2 w' → Calls Tryz.prog 61 #[.agg #[.int .i64 x.acc.count, pv], .agg #[.int .i64 y.acc.count, pv2]] w' (TellsB (sameA x.acc y.acc) w')) := Lib.hid fun w' f' => same_any _ _ _ _ _ _ w' (h2.no (f2.trans f' fun _ _ h => h)) (h4.no (f2.trans f' fun _ _ h => h))
  have HX := Lib.hid hx2
  have HY := Lib.hid hy2
  have HF2 := Lib.hid f2
  obtain ⟨A, ca, rfl, -⟩ := h1.form
  obtain ⟨B, cb, rfl, -⟩ := h3.form
  obtain ⟨C, cc, rfl, -⟩ := h2.form
  obtain ⟨D, cd, rfl, -⟩ := h4.form
  have HV : Hid (sameRw x y = (decide (x.key = y.key) && sameA x.acc y.acc)) := Lib.hid rfl
  have HW2 := Lib.hid hw2
  have HB := Lib.hid hb
  rw [HV.out]
  generalize decide (x.key = y.key) = d1 at *
  generalize sameA x.acc y.acc = d2 at *
  generalize x.key.length = xn at *
  generalize y.key.length = yn at *
  generalize x.acc.parts.length = xp at *
  generalize y.acc.parts.length = yp at *
  generalize x.acc.count = xc at *
  generalize y.acc.count = yc at *
  have c0 := hx2.cell 0
  have c1 := hx2.cell 1
  have c2 := hx2.cell 2
  have e0 := hy2.cell 0
  clear h1 h2 h3 h4 hx2 hy2 f2 hw2 hb HV
  go_enter Tryz.func59, Tryz.ntmps59
  go_upto_region 1 with fail
  rw [HB.out, HW2.out]
  cases d1 with
  | false =>
    go_wp2_with (go_at_call 60; refine (HC.out _ (Fr.refl _ _)).mono ?_; rintro e w3 ⟨rfl, f3⟩; have HF3 := Lib.hid f3; clear f3)
    go_ret
    exact ⟨rfl, HF2.out.trans HF3.out fun _ _ h => h⟩
  | true =>
    go_wp2_with (first
      | (go_at_call 60; refine (HC.out _ (Fr.refl _ _)).mono ?_; rintro e w3 ⟨rfl, f3⟩; have HF3 := Lib.hid f3; have x1 := (HX.out.no f3).cell 1; have x2 := (HX.out.no f3).cell 2; have y1 := (HY.out.no f3).cell 1; have y2 := (HY.out.no f3).cell 2; clear f3)
      | (go_at_call 61; refine (HS.out _ HF3.out).mono ?_; rintro e w4 ⟨rfl, f4⟩; have HF4 := Lib.hid f4; clear f4))
    go_ret
    exact ⟨rfl, HF2.out.trans (HF3.out.trans HF4.out fun _ _ h => h) fun _ _ h => h⟩
end Go.Proofs.YtlpglijikmnopaaGreatDoor
namespace Go.Proofs.YtlpglijikmnopaaGreatDoor
open Go.RowKit Go.Maps Go.Sort Go.Proofs
set_option linter.unusedVariables false

/-- Two lists of rows. -/
def sameRs : List Rw → List Rw → Bool
  | [], [] => true
  | x :: l, y :: m => sameRw x y && sameRs l m
  | _, _ => false
theorem sameRs_len : ∀ (l m : List Rw), l.length ≠ m.length → sameRs l m = false
  | [], [], h => absurd rfl h
  | [], _ :: _, _ => rfl
  | _ :: _, [], _ => rfl
  | x :: l, y :: m, h => by
    show (sameRw x y && sameRs l m) = false
    rw [sameRs_len l m (by simpa using h), Bool.and_false]
theorem sameRs_bad : ∀ (l m : List Rw) (i : Nat) (h1 : i < l.length) (h2 : i < m.length), sameRw l[i] m[i] = false → sameRs l m = false
  | [], _, _, h1, _, _ => absurd h1 (by simp)
  | _ :: _, [], _, _, h2, _ => absurd h2 (by simp)
  | x :: l, y :: m, 0, _, _, h => by
    show (sameRw x y && sameRs l m) = false
    rw [show sameRw x y = false from h, Bool.false_and]
  | x :: l, y :: m, i + 1, h1, h2, h => by
    show (sameRw x y && sameRs l m) = false
    rw [sameRs_bad l m i (by simpa using h1) (by simpa using h2) h, Bool.and_false]
theorem sameRs_all : ∀ (l m : List Rw), l.length = m.length → (∀ i (h1 : i < l.length) (h2 : i < m.length), sameRw l[i] m[i] = true) → sameRs l m = true
  | [], [], _, _ => rfl
  | [], _ :: _, h, _ => by simp at h
  | _ :: _, [], h, _ => by simp at h
  | x :: l, y :: m, h, hs => by
    show (sameRw x y && sameRs l m) = true
    rw [show sameRw x y = true from hs 0 (by simp) (by simp), sameRs_all l m (by simpa using h) (fun i h1 h2 => hs (i + 1) (by simpa using h1) (by simpa using h2))]
    rfl
theorem sameRw_iff (x y : Rw) : sameRw x y = true ↔ x = y := by
  unfold sameRw
  rw [Bool.and_eq_true, decide_eq_true_iff, sameA_iff]
  constructor
  · rintro ⟨h1, h2⟩
    cases x; cases y
    simp only at h1 h2
    rw [h1, h2]
  · rintro rfl; exact ⟨rfl, rfl⟩
theorem sameRs_iff : ∀ (l m : List Rw), sameRs l m = true ↔ l = m
  | [], [] => by simp [sameRs]
  | [], _ :: _ => by simp [sameRs]
  | _ :: _, [] => by simp [sameRs]
  | x :: l, y :: m => by
    show (sameRw x y && sameRs l m) = true ↔ _
    rw [Bool.and_eq_true, sameRw_iff, sameRs_iff l m]
    constructor
    · rintro ⟨rfl, rfl⟩; rfl
    · intro h; injection h with h1 h2; exact ⟨h1, h2⟩
theorem rr_at {K K2 : Nat → Prop} {w : World} {A : Option Addr} {n c : Nat} {l : List Rw} (h : RowE K w 3 (rwG K2 w) (.slice A n c) l) {j : Nat} (hj : j < l.length) :
    ∃ g off A1 n1 c1 A2 n2 c2, A = some ⟨g, off, none⟩ ∧ K g ∧ g < w.heap.size ∧ w.cell? ⟨g, off + j * 3, none⟩ = some (.slice A1 n1 c1) ∧ w.cell? ⟨g, off + j * 3 + 1, none⟩ = some (.int .i64 l[j].acc.count) ∧ w.cell? ⟨g, off + j * 3 + 2, none⟩ = some (.slice A2 n2 c2) ∧ KR K2 w (.slice A1 n1 c1) l[j].key ∧ PR K2 w (.slice A2 n2 c2) l[j].acc.parts ∧ n1 = l[j].key.length := by
  obtain ⟨A', c', e, h1, h2, h3⟩ := h
  injection e with e1 e2 e3
  subst e1; subst e3
  obtain ⟨g, off, ea, hg, hgl, hel⟩ := h3 (by omega)
  obtain ⟨cs, hcl, hcs, kv, pv, rfl, hkr, hpr⟩ := hel j hj
  obtain ⟨A1, c1, rfl, _⟩ := hkr.form
  obtain ⟨A2, c2, rfl, _⟩ := hpr.form
  exact ⟨g, off, A1, _, c1, A2, _, c2, ea, hg, hgl, hcs 0 (by decide), hcs 1 (by decide), hcs 2 (by decide), hkr, hpr, rfl⟩
theorem rr_form {K K2 : Nat → Prop} {w : World} {v : Value} {l : List Rw} (h : RowE K w 3 (rwG K2 w) v l) : ∃ A c, v = .slice A l.length c ∧ l.length ≤ c ∧ c ≤ maxLen := by
  obtain ⟨A, c, e, h1, h2, _⟩ := h
  exact ⟨A, c, e, h1, h2⟩
set_option maxRecDepth 100000 in
set_option maxHeartbeats 1000000 in
theorem equalF_any {K K2 : Nat → Prop} (l m : List Rw) (v v2 : Value) (w : World) (h : RR K w v l) (h2 : RR K2 w v2 m) : Calls Tryz.prog 58 #[v, v2, .func (.func 59) #[] #[]] w (TellsB (sameRs l m) w) := by
  obtain ⟨A, ca, rfl, ha1, ha2⟩ := rr_form h
  obtain ⟨B, cb, rfl, hb1, hb2⟩ := rr_form h2
  by_cases hlen : l.length = m.length
  · obtain ⟨N, hN⟩ : ∃ N, l.length = N := ⟨_, rfl⟩
    have hM : m.length = N := by omega
    have HN := Lib.hid hN
    have HM := Lib.hid hM
    have HP := Lib.hid h
    have HQ := Lib.hid h2
    have hNb : N ≤ 9223372036854775807 := by unfold maxLen at ha2; omega
    rw [hN] at HP ⊢
    rw [hM] at HQ ⊢
    clear h h2 hlen hN hM ha1 ha2 hb1 hb2
    go_enter Tryz.func58, Tryz.ntmps58
    go_wp2_with fail
    go_loopg [7, 8, 9, 17] N (fun k r7 r8 r9 r17 wr => Hid (∃ (j : Nat), r17 = .int .i64 (j : Nat) ∧ j + k = N ∧ (∀ i (h1 : i < l.length) (h2 : i < m.length), i < j → sameRw l[i] m[i] = true) ∧ Fr No w wr))
    case atStart => exact Lib.hid ⟨0, rfl, by omega, fun i _ _ h => absurd h (by omega), Fr.refl _ _⟩
    case round =>
    obtain ⟨j, rfl, hjk, heq, hf⟩ := hrel.out
    clear hrel
    by_cases hj : j < N
    · have hji : (j : Int) < (N : Int) := by omega
      have hjl : j < l.length := by have := HN.out; omega
      have hjm : j < m.length := by have := HM.out; omega
      obtain ⟨g1, o1, A1, n1, c1, A2, n2, c2, rfl, -, hg1, x0, x1, x2, xk, xp, -⟩ := rr_at (HP.out.no hf) hjl
      obtain ⟨g2, o2, B1, m1, d1, B2, m2, d2, rfl, -, hg2, y0, y1, y2, yk, yp, -⟩ := rr_at (HQ.out.no hf) hjm
      have HS : Hid (∀ w', Fr No wr w' → Calls Tryz.prog 59 #[.agg #[.slice A1 n1 c1, .int .i64 l[j].acc.count, .slice A2 n2 c2], .agg #[.slice B1 m1 d1, .int .i64 m[j].acc.count, .slice B2 m2 d2]] w' (TellsB (sameRw l[j] m[j]) w')) := Lib.hid fun w' f' =>
        closS_any w' l[j] m[j] _ _ ⟨_, _, rfl, xk.no f', xp.no f'⟩ ⟨_, _, rfl, yk.no f', yp.no f'⟩
      have HSM : Hid (∀ d, sameRw l[j] m[j] = d → (d = false → sameRs l m = false) ∧ (d = true → ∀ i (h1 : i < l.length) (h2 : i < m.length), i < j + 1 → sameRw l[i] m[i] = true)) := Lib.hid fun d hd => ⟨fun e => sameRs_bad l m j hjl hjm (hd.trans e), fun e i h1 h2 hi => by
        rcases Nat.lt_or_ge i j with h | h
        · exact heq i h1 h2 h
        · obtain rfl : i = j := by omega
          exact hd.trans e⟩
      obtain ⟨d, hd⟩ : ∃ d, sameRw l[j] m[j] = d := ⟨_, rfl⟩
      have HSD := Lib.hid (HSM.out d hd)
      rw [hd] at HS
      have HF := Lib.hid hf
      generalize l[j].acc.count = xc at *
      generalize m[j].acc.count = yc at *
      obtain ⟨w1, hw1⟩ : ∃ x, (wr.alloc (.cells #[.slice A1 n1 c1, .int .i64 xc, .slice A2 n2 c2] 50)) = x := ⟨_, rfl⟩
      obtain ⟨w2, hw2⟩ : ∃ x, (w1.alloc (.cells #[.slice B1 m1 d1, .int .i64 yc, .slice B2 m2 d2] 50)) = x := ⟨_, rfl⟩
      obtain ⟨q, hq⟩ : ∃ q, wr.heap.size = q := ⟨_, rfl⟩
      have f1 : Fr No wr w1 := by rw [← hw1]; exact (Fr.refl No wr).alloc _
      have f2 : Fr No w1 w2 := by rw [← hw2]; exact (Fr.refl No w1).alloc _
      have hsq : w1.heap.size = q + 1 := by rw [← hw1, ← hq]; simp
      have hbx : Blk w2 q 50 #[.slice A1 n1 c1, .int .i64 xc, .slice A2 n2 c2] := Blk.no (by rw [← hw1, ← hq]; exact Blk.new wr 50 _) f2
      have hby : Blk w2 (q + 1) 50 #[.slice B1 m1 d1, .int .i64 yc, .slice B2 m2 d2] := by rw [← hw2, ← hsq]; exact Blk.new w1 50 _
      have p0 := hbx.cell 0
      have p1 := hbx.cell 1
      have p2 := hbx.cell 2
      have q0 := hby.cell 0
      have q1 := hby.cell 1
      have q2 := hby.cell 2
      have hpl := hbx.lt
      have hql := hby.lt
      have z0 := (cell_of_heap (f1.block g2 hg2 id) (o := o2 + j * 3)).trans y0
      have z1 := (cell_of_heap (f1.block g2 hg2 id) (o := o2 + j * 3 + 1)).trans y1
      have z2 := (cell_of_heap (f1.block g2 hg2 id) (o := o2 + j * 3 + 2)).trans y2
      have HF2 := Lib.hid (f1.trans f2 fun _ _ h => h)
      have HW1 := Lib.hid hw1
      have HW2 := Lib.hid hw2
      have HQ2 := Lib.hid hq
      have HSQ := Lib.hid hsq
      clear heq hf xk xp yk yp hd hw1 hw2 hq f1 f2 hsq hbx hby
      go_upto_region 6 with fail
      rw [HQ2.out, HW1.out]
      go_upto_region 7 with fail
      rw [HW2.out, HSQ.out]
      cases d with
      | false =>
        go_wp2_with (go_at_call 59; refine (HS.out _ HF2.out).mono ?_; rintro e w3 ⟨rfl, f3⟩; have HF3 := Lib.hid (HF2.out.trans f3 fun _ _ h => h); clear f3)
        go_ret
        exact ⟨by rw [HSD.out.1 (by first | rfl | trivial)]; rfl, HF.out.trans HF3.out fun _ _ h => h⟩
      | true =>
        go_wp2_with (go_at_call 59; refine (HS.out _ HF2.out).mono ?_; rintro e w3 ⟨rfl, f3⟩; have HF3 := Lib.hid (HF2.out.trans f3 fun _ _ h => h); clear f3)
        obtain ⟨g1, rfl⟩ : ∃ g1, gk = g1 + 1 := ⟨gk - 1, by omega⟩
        go_roundg g1
        case rel => exact Lib.hid ⟨j + 1, by go_num, by omega, HSD.out.2 (by first | rfl | trivial), HF.out.trans HF3.out fun _ _ h => h⟩
        all_goals omega
    · have hji : (N : Int) ≤ (j : Int) := by omega
      have HV : Hid (sameRs l m = true) := Lib.hid (sameRs_all l m (by rw [HN.out, HM.out]) fun i h1 h2 => heq i h1 h2 (by have := HN.out; omega))
      have HF := Lib.hid hf
      clear heq hf
      go_wp2_with fail
      go_ret
      exact ⟨by rw [HV.out]; rfl, HF.out⟩
  · have HV : Hid (sameRs l m = false) := Lib.hid (sameRs_len l m hlen)
    obtain ⟨N, hN⟩ : ∃ N, l.length = N := ⟨_, rfl⟩
    obtain ⟨M, hM⟩ : ∃ M, m.length = M := ⟨_, rfl⟩
    rw [hN, hM] at hlen
    rw [hN, hM]
    have d1 : (N : Int) ≠ (M : Int) := by omega
    rw [HV.out]
    clear h h2 hN hM HV
    go_enter Tryz.func58, Tryz.ntmps58
    go_wp2_with fail
    go_ret
    exact ⟨rfl, Fr.refl _ _⟩
theorem sameR_any {K K2 : Nat → Prop} {l m : List Rw} {v v2 : Value} (w : World) (h : RR K w v l) (h2 : RR K2 w v2 m) : Calls Tryz.prog 24 #[v, v2] w (TellsB (sameRs l m) w) := by
  have HC := Lib.hid (equalF_any l m v v2 w h h2)
  obtain ⟨A, ca, rfl, -⟩ := rr_form h
  obtain ⟨B, cb, rfl, -⟩ := rr_form h2
  generalize sameRs l m = d at *
  generalize l.length = N at *
  generalize m.length = M at *
  clear h h2
  go_enter Tryz.func24, Tryz.ntmps24
  go_wp2_with fail
  refine HC.out.mono ?_
  rintro e w1 ⟨rfl, f1⟩
  have HF := Lib.hid f1
  clear f1
  go_wp2_with fail
  go_ret
  exact ⟨rfl, HF.out⟩
end Go.Proofs.YtlpglijikmnopaaGreatDoor
namespace Go.Proofs.YtlpglijikmnopaaGreatDoor
open Go.RowKit Go.Maps Go.Sort Go.Proofs
set_option linter.unusedVariables false

theorem info50 : (Tryz.prog.info? 50).map (fun i => (i.zero, i.size, i.bytes)) = some (some (.agg #[.slice none 0 0, .int .i64 0, .slice none 0 0]), 3, 56) := by kernel_rfl
/-- A row's cells as a list. -/
theorem RowE.cellsL {α : Type} {E : EG α} {K : Nat → Prop} {w : World} {size : Nat} {v : Value} {l : List α} (h : RowE K w size (E K w) v l) (hl : 0 < l.length) (hs : 0 < size) :
    ∃ (g off c : Nat) (xs : List Value), v = .slice (some ⟨g, off, none⟩) l.length c ∧ K g ∧ g < w.heap.size ∧ xs.length = l.length * size ∧ (∀ i u, xs[i]? = some u → w.cell? ⟨g, off + i, none⟩ = some u) ∧ ∀ j (hj : j < l.length), ∃ cs : List Value, cs.length = size ∧ (∀ i, i < size → xs[j * size + i]? = cs[i]?) ∧ E K w l[j] cs := by
  obtain ⟨A, c, e, h1, h2, h3⟩ := h
  obtain ⟨g, off, rfl, hg, hgl, hel⟩ := h3 hl
  refine ⟨g, off, c, (List.range (l.length * size)).map fun i => (w.cell? ⟨g, off + i, none⟩).getD undef, e, hg, hgl, by simp, fun i u hu => ?_, fun j hj => ?_⟩
  · rw [List.getElem?_map] at hu
    have hi : i < l.length * size := by
      rcases Nat.lt_or_ge i (l.length * size) with h | h
      · exact h
      · rw [List.getElem?_eq_none (by simpa using h)] at hu; cases hu
    rw [List.getElem?_range hi] at hu
    have hd : i / size < l.length := Nat.div_lt_of_lt_mul (by rw [Nat.mul_comm]; exact hi)
    obtain ⟨cs, hcl, hcs, _⟩ := hel (i / size) hd
    have hm := Nat.mod_lt i hs
    have h4 := hcs (i % size) hm
    have e2 : i / size * size + i % size = i := by rw [Nat.mul_comm]; exact Nat.div_add_mod i size
    have e3 : off + i / size * size + i % size = off + i := by omega
    rw [e3] at h4
    rw [Option.map_some] at hu
    rw [h4, List.getElem?_eq_getElem (by omega)] at hu ⊢
    simpa using hu
  · obtain ⟨cs, hcl, hcs, hE⟩ := hel j hj
    refine ⟨cs, hcl, fun i hi => ?_, hE⟩
    have hlt : j * size + i < l.length * size := by
      have := Nat.mul_le_mul_right size (show j + 1 ≤ l.length by omega)
      rw [Nat.add_mul, Nat.one_mul] at this
      omega
    rw [List.getElem?_map, List.getElem?_range hlt]
    have h4 := hcs i hi
    rw [Nat.add_assoc] at h4
    show some ((w.cell? ⟨g, off + (j * size + i), none⟩).getD undef) = _
    rw [h4, List.getElem?_eq_getElem (by omega)]
    rfl
/-- A list of rows appended to one of one's own. -/
theorem app_rows {X : Nat → Prop} {b : Nat} {w : World} {v u : Value} {l m : List Rw} {K2 : Nat → Prop} (h : GrX X b 50 3 rwG w v l) (hb : b ≤ w.heap.size) (h2 : RR K2 w u m) (hK : ∀ k, K2 k → X k ∧ v.ownBlock ≠ some k) (hl : l.length ≤ 10000000) (hm : m.length ≤ 10000000) :
    ∃ v' w', (∀ ty, (Builtin.append_ #[28, 28] ty #[v, u]).run Tryz.prog w = .ok v' w') ∧ GrX X b 50 3 rwG w' v' (l ++ m) ∧ Fr (fun k => v.ownBlock = some k) w w' ∧ ∀ k, v'.ownBlock = some k → v.ownBlock = some k ∨ w.heap.size ≤ k := by
  obtain ⟨i0, hi, hz0, hz1, hz2⟩ := info_parts info50
  by_cases h0 : 0 < m.length
  · obtain ⟨g, off, c, xs2, rfl, hg, hgl, hxl, hxs, hel2⟩ := RowE.cellsL h2 h0 (by decide)
    obtain ⟨K, xs, ho, hel, hKK⟩ := h
    have hone : ∀ u ∈ xs2, u.oneCell' = true := by
      intro u hu
      obtain ⟨i, hi, e⟩ := List.getElem_of_mem hu
      have hd : i / 3 < m.length := by rw [hxl] at hi; omega
      obtain ⟨cs, hcl, hcs, hE⟩ := hel2 (i / 3) hd
      have h4 := hcs (i % 3) (Nat.mod_lt _ (by decide))
      have e2 : i / 3 * 3 + i % 3 = i := by omega
      rw [e2, List.getElem?_eq_getElem hi, e] at h4
      exact rwG_one _ _ _ _ hE u (List.mem_of_getElem? h4.symm)
    obtain ⟨v', w', hr, how, hgr, hnil, hat⟩ := run_append_own_at (P := Tryz.prog) w b 28 0 50 i0 _ 3 56 Tryz.underlying28 hi hz0 hz1 hz2 rfl (by decide) v l.length xs ho ⟨g, off, none⟩ m.length c xs2 hxl (fun j u hu => by rw [Addr.add_lit]; exact hxs j u hu) hone (by unfold maxLen; omega) (by omega) hb
    have hfr : Fr (fun k => v.ownBlock = some k) w w' := (Fr.refl _ w).grown hgr fun k hk _ => hk
    refine ⟨v', w', fun ty => hr, ⟨fun k => K k ∨ (K2 k ∧ k < w.heap.size), xs ++ xs2, by rw [List.length_append]; exact how, fun j hj => ?_, fun k hk => ?_⟩, hfr, fun k hk => ?_⟩
    · rw [List.length_append] at hj
      have hx1 : xs.length = l.length * 3 := ho.1
      by_cases hjl : j < l.length
      · obtain ⟨cs, h1, h3, h4⟩ := hel j hjl
        refine ⟨cs, h1, fun i hi => ?_, ?_⟩
        · rw [List.getElem?_append_left (by omega)]; exact h3 i hi
        · rw [List.getElem_append_left hjl]
          exact rwG_elem.mono _ _ _ _ _ _ h4 fun k hk hlt => ⟨.inl hk, hfr.block k hlt (hKK k hk).2.2⟩
      · obtain ⟨cs, h1, h3, h4⟩ := hel2 (j - l.length) (by omega)
        refine ⟨cs, h1, fun i hi => ?_, ?_⟩
        · rw [List.getElem?_append_right (by omega), show j * 3 + i - xs.length = (j - l.length) * 3 + i by omega]; exact h3 i hi
        · rw [List.getElem_append_right (by omega)]
          exact rwG_elem.mono _ _ _ _ _ _ h4 fun k hk hlt => ⟨.inr ⟨hk, hlt⟩, hfr.block k hlt (hK k hk).2⟩
    · have hown : ∀ k, v'.ownBlock = some k → v.ownBlock = some k ∨ w.heap.size ≤ k := fun k hk => by
        rcases hat with e1 | e1
        · rw [e1] at hk; exact .inl hk
        · rw [e1] at hk; injection hk with hk; exact .inr (by omega)
      rcases hk with hk | ⟨hk, hlt⟩
      · obtain ⟨h1, h3, h4⟩ := hKK k hk
        refine ⟨h1, Nat.lt_of_lt_of_le h3 hfr.size, fun e => ?_⟩
        rcases hown k e with h | h
        · exact h4 h
        · omega
      · refine ⟨(hK k hk).1, Nat.lt_of_lt_of_le hlt hfr.size, fun e => ?_⟩
        rcases hown k e with h | h
        · exact (hK k hk).2 h
        · omega
    · rcases hat with e1 | e1
      · rw [e1] at hk; exact .inl hk
      · rw [e1] at hk; injection hk with hk; exact .inr (by omega)
  · obtain rfl : m = [] := List.eq_nil_of_length_eq_zero (by omega)
    rw [List.append_nil]
    obtain ⟨A, c, rfl, _, _, _⟩ := h2
    have h' := h
    obtain ⟨K, xs, ho, hel, hKK⟩ := h
    cases A with
    | none =>
      refine ⟨v, w, fun ty => ?_, h', Fr.refl _ _, fun k hk => .inl hk⟩
      rcases ho.2 with ⟨rfl, h1⟩ | ⟨g, cap, cur, rfl, _, _, hnc, _⟩
      · simp [Builtin.append_, run_underlying Tryz.underlying28, sizeOf, typeInfo, hi, Builtin.lenOf, Builtin.firstCells]
      · simp [Builtin.append_, run_underlying Tryz.underlying28, sizeOf, typeInfo, hi, Builtin.lenOf, Builtin.firstCells, hnc, storeCells]
    | some ad =>
      obtain ⟨v', w', hr, how, hgr, hnil, hat⟩ := run_append_own_at (P := Tryz.prog) w b 28 0 50 i0 _ 3 56 Tryz.underlying28 hi hz0 hz1 hz2 rfl (by decide) v l.length xs ho ad 0 c [] rfl (fun j u hu => by simp at hu) (fun u hu => by simp at hu) (by unfold maxLen; omega) (by omega) hb
      have hfr : Fr (fun k => v.ownBlock = some k) w w' := (Fr.refl _ w).grown hgr fun k hk _ => hk
      have hown : ∀ k, v'.ownBlock = some k → v.ownBlock = some k ∨ w.heap.size ≤ k := fun k hk => by
        rcases hat with e1 | e1
        · rw [e1] at hk; exact .inl hk
        · rw [e1] at hk; injection hk with hk; exact .inr (by omega)
      rw [List.append_nil] at how
      refine ⟨v', w', fun ty => hr, ⟨K, xs, how, fun j hj => ?_, fun k hk => ?_⟩, hfr, hown⟩
      · obtain ⟨cs, h1, h3, h4⟩ := hel j hj
        exact ⟨cs, h1, h3, rwG_elem.mono _ _ _ _ _ _ h4 fun k hk hlt => ⟨hk, hfr.block k hlt (hKK k hk).2.2⟩⟩
      · obtain ⟨h1, h3, h4⟩ := hKK k hk
        refine ⟨h1, Nat.lt_of_lt_of_le h3 hfr.size, fun e => ?_⟩
        rcases hown k e with h | h
        · exact h4 h
        · omega
set_option maxRecDepth 100000 in
theorem grow_nil (n : Nat) (h0 : 0 < n) (hn : n ≤ 20000000) (w : World) : Calls Tryz.prog 81 #[.slice none 0 0, .int .i64 (n : Nat)] w fun e w' => ∃ v, e = .returned v ∧ w'.ownsRow w.heap.size 50 3 v 0 [] ∧ Fr No w w' := by
  obtain ⟨i0, hi, hz0, hz1, hz2⟩ := info_parts info50
  have hold : (Builtin.firstCells i0.size 0 (.slice none 0 0)).run Tryz.prog w.drew = .ok ([] : List Value).toArray w.drew := run_firstCells_none w.drew i0.size 0 0 0
  have hr : ∀ ty, _ := fun ty => Lib.run_append_grow_zeros w 28 3 ty 50 i0 _ .i64 .i64 Tryz.underlying28 Tryz.underlying3 hi hz0 none 0 0 [] hold n h0 (by rw [hz1]; decide) (by omega) (by omega) (by rw [hz2]; omega) (growslice_fits (by omega) (by rw [hz2]; omega))
  rw [Nat.zero_add] at hr
  have hGn : n ≤ grownCap w n 0 50 := grownCap_ge w n 0 50
  have hG63 := grownCap_le_maxLen w n 0 50 (by unfold maxLen; omega)
  obtain ⟨G, hG⟩ : ∃ G, grownCap w n 0 50 = G := ⟨_, rfl⟩
  rw [hG] at hr hGn hG63
  obtain ⟨w1, hw1⟩ : ∃ x, w.drew.alloc (.cells (([] : List Value).toArray ++ Builtin.zeroCells (Value.agg #[.slice none 0 0, .int .i64 0, .slice none 0 0]).cells n ++ Builtin.zeroCells (Value.agg #[.slice none 0 0, .int .i64 0, .slice none 0 0]).cells (G - n)) 50) = x := ⟨_, rfl⟩
  rw [hw1] at hr
  have f1 : Fr No w w1 := by rw [← hw1]; exact ((Fr.refl No w).drew).alloc _
  have hb : Blk w1 w.heap.size 50 (([] : List Value).toArray ++ Builtin.zeroCells (Value.agg #[.slice none 0 0, .int .i64 0, .slice none 0 0]).cells n ++ Builtin.zeroCells (Value.agg #[.slice none 0 0, .int .i64 0, .slice none 0 0]).cells (G - n)) := by rw [← hw1]; exact Blk.new w.drew 50 _
  have hgr : w1.ownsRow w.heap.size 50 3 (.slice (some ⟨w.heap.size, 0, none⟩) 0 G) 0 [] := by
    refine ⟨by simp, .inr ⟨w.heap.size, G, _, rfl, Nat.le_refl _, hb, by simp, hG63, ?_, by simp⟩⟩
    simp [Builtin.zeroCells, Value.cells]
    omega
  have HG := Lib.hid hgr
  have HF := Lib.hid f1
  have HR : Hid (∀ ty, (Builtin.append_ #[28, 3] ty #[.slice none 0 0, .int .i64 (n : Nat)]).run Tryz.prog w = .ok (.slice (some ⟨w.heap.size, 0, none⟩) n G) w1) := Lib.hid hr
  have n1 : ((n : Int) < 0) = False := eq_false (by omega)
  have n2 : (0 : Int) < (n : Int) := by omega
  have hGi : (0 : Int) ≤ (G : Int) := by omega
  unfold maxLen at hG63
  clear hr hgr f1 hw1 hb hG hold
  go_enter Tryz.func81, Tryz.ntmps81
  go_wp2_with (at_builtin; refine wpList_add rfl _ _ _ _ rfl _ _ _ _ rfl rfl (HR.out _) ?_)
  go_ret
  exact ⟨_, rfl, HG.out, HF.out⟩
theorem grow_zero (w : World) : Calls Tryz.prog 81 #[.slice none 0 0, .int .i64 0] w fun e w' => ∃ v, e = .returned v ∧ w'.ownsRow w.heap.size 50 3 v 0 [] ∧ Fr No w w' := by
  go_enter Tryz.func81, Tryz.ntmps81
  go_wp2_with fail
  go_ret
  exact ⟨_, rfl, ⟨by simp, .inl ⟨rfl, rfl⟩⟩, Fr.refl _ _⟩
end Go.Proofs.YtlpglijikmnopaaGreatDoor
namespace Go.Proofs.YtlpglijikmnopaaGreatDoor
open Go.RowKit Go.Maps Go.Sort Go.Proofs
set_option linter.unusedVariables false

theorem rr_of_own {X : Nat → Prop} {b : Nat} {w : World} {v : Value} {l : List Rw} (h : GrX X b 50 3 rwG w v l) : RowE (fun k => X k ∨ b ≤ k) w 3 (rwG X w) v l := by
  obtain ⟨K, xs, ho, hel, hKK⟩ := h
  have ho' := ho
  rcases ho.2 with ⟨e1, h0⟩ | ⟨g, cap, cur, e1, hg, hh, hn, hcm, hcs, htk⟩
  · exact ⟨none, 0, by rw [h0]; exact e1, by omega, by decide, fun h => by omega⟩
  · subst e1
    refine ⟨some ⟨g, 0, none⟩, cap, rfl, hn, hcm, fun h0 => ⟨g, 0, rfl, .inr hg, (Array.getElem?_eq_some_iff.1 hh).1, fun j hj => ?_⟩⟩
    obtain ⟨cs, h1, h2, h3⟩ := hel j hj
    refine ⟨cs, h1, fun i hi => ?_, rwG_elem.mono _ _ _ _ _ _ h3 fun k hk _ => ⟨(hKK k hk).1, rfl⟩⟩
    have h4 := ho'.cellAt (j * 3 + i) (by omega)
    rw [h2 i hi] at h4
    rw [Nat.zero_add]
    exact h4
def TellsCat (K : Nat → Prop) (l : List Rw) (w : World) (e : Ending) (w' : World) : Prop := ∃ A n c, e = .returned (.slice A n c) ∧ n = l.length ∧ RowE (fun k => K k ∨ w.heap.size ≤ k) w' 3 (rwG K w') (.slice A n c) l ∧ Fr No w w'
set_option maxRecDepth 100000 in
set_option maxHeartbeats 4000000 in
theorem concat_any {K : Nat → Prop} {D M : List Rw} {dv mv : Value} {y : Nat} (w : World) (hy : y < w.heap.size) (c0 : w.cell? ⟨y, 0, none⟩ = some dv) (c1 : w.cell? ⟨y, 1, none⟩ = some mv) (hD : RR K w dv D) (hM : RR K w mv M) (hK : ∀ k, K k → k < w.heap.size)
    (hd : D.length ≤ 5000000) (hm : M.length ≤ 5000000) : Calls Tryz.prog 53 #[.slice (some ⟨y, 0, none⟩) 2 2] w (TellsCat K (D ++ M) w) := by
  have HD : Hid (∀ w', Fr No w w' → RR K w' dv D ∧ RR K w' mv M ∧ w'.cell? ⟨y, 0, none⟩ = some dv ∧ w'.cell? ⟨y, 1, none⟩ = some mv) := Lib.hid fun w' f' =>
    ⟨hD.no f', hM.no f', (cell_of_heap (f'.block y hy id)).trans c0, (cell_of_heap (f'.block y hy id)).trans c1⟩
  have HGW : Hid (Calls Tryz.prog 81 #[.slice none 0 0, .int .i64 ((D.length : Int) + (M.length : Int))] w fun e w' => ∃ v, e = .returned v ∧ w'.ownsRow w.heap.size 50 3 v 0 [] ∧ Fr No w w') := Lib.hid (by
    by_cases h0 : 0 < D.length + M.length
    · have := grow_nil (D.length + M.length) h0 (by omega) w
      rwa [Int.natCast_add] at this
    · have e1 : D.length = 0 := by omega
      have e2 : M.length = 0 := by omega
      rw [e1, e2]
      exact grow_zero w)
  have HK := Lib.hid hK
  obtain ⟨A1, k1, rfl, hl1, hm1⟩ := rr_form hD
  obtain ⟨A2, k2, rfl, hl2, hm2⟩ := rr_form hM
  obtain ⟨nD, hnD⟩ : ∃ n, D.length = n := ⟨_, rfl⟩
  obtain ⟨nM, hnM⟩ : ∃ n, M.length = n := ⟨_, rfl⟩
  have HND := Lib.hid hnD
  have HNM := Lib.hid hnM
  unfold maxLen at hm1 hm2
  rw [hnD] at hl1 hd HD c0 HGW
  rw [hnM] at hl2 hm HD c1 HGW
  obtain ⟨b, hb⟩ : ∃ b, w.heap.size = b := ⟨_, rfl⟩
  have HB := Lib.hid hb
  have n1 : ((nD : Int) < 0) = False := eq_false (by omega)
  have n2 : ((nD : Int) + (nM : Int) < 0) = False := eq_false (by omega)
  clear hnD hnM hb hK hD hM
  go_enter Tryz.func53, Tryz.ntmps53
  go_wp2_with fail
  refine wp_loop_rounds 3 ?_
  rw [rounds_succ]
  go_wp2_with fail
  rw [rounds_succ]
  go_wp2_with fail
  rw [rounds_succ]
  go_wp2_with fail
  refine HGW.out.mono ?_
  rintro e w2 ⟨v, rfl, hown, f2⟩
  rw [HB.out] at hown
  have hown0 : GrX K b 50 3 rwG w2 v [] := ⟨fun _ => False, [], hown, fun j hj => absurd hj (by simp), fun k hk => hk.elim⟩
  have HF2 := Lib.hid f2
  obtain ⟨r1, r2, e0, e1⟩ := HD.out w2 f2
  have hs2 := f2.size
  have hv0 : ∀ k, v.ownBlock = some k → b ≤ k := fun k hk => (hown0.lt k hk).1
  have hB := HB.out
  obtain ⟨v3, w3, hrun3, ho3, f3, hv3⟩ := app_rows hown0 (by omega) r1 (fun k hk => ⟨hk, fun e => by have := hv0 k e; have := HK.out k hk; omega⟩) (by simp) (by rw [HND.out]; omega)
  have f03 : Fr No w w3 := ⟨f3.os.trans f2.os, f3.tape.trans f2.tape, f3.output.trans f2.output, Nat.le_trans f2.size f3.size, fun k hk _ => (f3.block k (by omega) fun e => by have := hv0 k e; omega).trans (f2.block k hk id)⟩
  obtain ⟨q1, q2, g0, g1⟩ := HD.out w3 f03
  have hv3' : ∀ k, v3.ownBlock = some k → b ≤ k := fun k hk => by
    rcases hv3 k hk with h | h
    · exact hv0 k h
    · omega
  have HRUN3 := Lib.hid hrun3
  obtain ⟨v4, w4, hrun4, ho4, f4, hv4⟩ := app_rows ho3 (by have := f3.size; omega) q2 (fun k hk => ⟨hk, fun e => by have := hv3' k e; have := HK.out k hk; omega⟩) (by simp; rw [HND.out]; omega) (by rw [HNM.out]; omega)
  have f04 : Fr No w w4 := ⟨f4.os.trans f03.os, f4.tape.trans f03.tape, f4.output.trans f03.output, Nat.le_trans f03.size f4.size, fun k hk _ => (f4.block k (by have := f03.size; omega) fun e => by have := hv3' k e; omega).trans (f03.block k hk id)⟩
  have HRUN4 := Lib.hid hrun4
  rw [List.nil_append] at ho4
  have hrow := rr_of_own ho4
  obtain ⟨A5, c5, hv5, _⟩ := rr_form hrow
  subst hv5
  rw [← HB.out] at hrow
  obtain ⟨n5, hn5⟩ : ∃ n, (D ++ M).length = n := ⟨_, rfl⟩
  have HEND : Hid (TellsCat K (D ++ M) w (.returned (.slice A5 n5 c5)) w4) := Lib.hid ⟨A5, n5, c5, rfl, hn5.symm, by rw [← hn5]; exact hrow, f04⟩
  rw [hn5] at HRUN4
  clear hown hown0 f2 r1 r2 hrun3 ho3 f3 q1 q2 hrun4 ho4 f4 hrow f03 f04 hv0 hv3 hv3' hv4 hB hn5 hs2
  go_wp2_with fail
  refine wp_loop_rounds 3 ?_
  rw [rounds_succ]
  go_wp2_with (at_builtin; refine wpList_add rfl _ _ _ _ rfl _ _ _ _ rfl rfl (HRUN3.out _) ?_)
  rw [rounds_succ]
  go_wp2_with (at_builtin; refine wpList_add rfl _ _ _ _ rfl _ _ _ _ rfl rfl (HRUN4.out _) ?_)
  rw [rounds_succ]
  go_wp2_with fail
  go_ret
  exact HEND.out
end Go.Proofs.YtlpglijikmnopaaGreatDoor
namespace Go.Proofs.YtlpglijikmnopaaGreatDoor
open Go.RowKit Go.Maps Go.Sort Go.Proofs
set_option linter.unusedVariables false

def pairs (l : List Rw) : List (Ky × Ac) := l.map fun r => (r.key, r.acc)
def Rok (l : List Rw) : Prop := ∀ r ∈ l, Kok r.key ∧ Lok r.acc.parts
def zA : Ac := ⟨0, []⟩
theorem zA_lok : Lok zA.parts := ⟨(fun p hp => by cases hp), by simp [zA]⟩
theorem mergeL_lok {l m : List Pt} (hl : Lok l) (hm : Lok m) : Lok (mergeL l m) := ⟨mergeL_ok hl.1 hm.1, by
  rw [mergeL_max]
  have := hl.2
  have := hm.2
  omega⟩
theorem Wf.updM {l : List Rw} (h : Wf l) {k : Ky} {z : Ac} (hz : Lok z.parts) {a : Ac} (ha : Lok a.parts) : Wf (updG mergeA z l k a) := by
  unfold updG
  exact (h.row hz k).setA _ (mergeL_lok (h.at_ hz) ha)
theorem ownNot {b g m n0 : Nat} {z : Ac} {rv : Value} {l : List Rw} {w : World} (h : Gs b g m n0 z rv l w) {j : Nat} (hj : j = g ∨ j = m ∨ rv.ownBlock = some j) : j = g ∨ j = m ∨ n0 ≤ j := by
  rcases hj with h1 | h1 | h1
  · exact .inl h1
  · exact .inr (.inl h1)
  · exact .inr (.inr (h.own j h1))
set_option maxRecDepth 100000 in
set_option maxHeartbeats 4000000 in
theorem mergeR_any {B : Nat} {av bv : Value} {a b : List Rw} (w : World) (hBs : w.heap.size = B) (ha : RR (fun k => k < B) w av a) (hb : RR (fun k => k < B) w bv b) (hok : Rok (a ++ b)) (hl : a.length + b.length < 4000000) (hp : Pv w) :
    Calls Tryz.prog 20 #[av, bv] w (TellsH B (grpL mergeA zA (pairs (a ++ b))) w) := by
  obtain ⟨A1, k1, rfl, -⟩ := rr_form ha
  obtain ⟨A2, k2, rfl, -⟩ := rr_form hb
  obtain ⟨nA, hnA⟩ : ∃ n, a.length = n := ⟨_, rfl⟩
  obtain ⟨nB, hnB⟩ : ∃ n, b.length = n := ⟨_, rfl⟩
  have hBl : B ≤ w.heap.size := by omega
  have HNG := Lib.hid (newGroups_any (b := B) zA (.slice none 0 0) w hBl (PRz.nil _ _))
  have HA := Lib.hid ha
  have HB := Lib.hid hb
  have HP := Lib.hid hp
  have HBS := Lib.hid hBs
  have HOK := Lib.hid hok
  have HL : Hid (nA + nB < 4000000 ∧ (a ++ b).length = nA + nB) := Lib.hid ⟨by omega, by rw [List.length_append, hnA, hnB]⟩
  rw [hnA] at HA
  rw [hnB] at HB
  have HLA : Hid (a.length ≤ 5000000 ∧ b.length ≤ 5000000) := Lib.hid ⟨by omega, by omega⟩
  rw [hnA, hnB]
  clear ha hb hp hBs hok hl hnA hnB hBl
  go_enter Tryz.func20, Tryz.ntmps20
  go_upto_region 2 with (go_at_call 36; refine HNG.out.mono ?_; rintro e w1 ⟨g, m, n0, rfl, hgs, hg1, hm1, f1⟩; have HGS := Lib.hid hgs; have HF1 := Lib.hid f1; clear hgs f1)
  obtain ⟨y, hy⟩ : ∃ y, w1.heap.size = y := ⟨_, rfl⟩
  obtain ⟨w2, hw2⟩ : ∃ x, w1.alloc (.cells #[.slice A1 nA k1, .slice A2 nB k2] 28) = x := ⟨_, rfl⟩
  have f2 : Fr No w1 w2 := by rw [← hw2]; exact (Fr.refl No w1).alloc _
  have hyb : Blk w2 y 28 #[.slice A1 nA k1, .slice A2 nB k2] := by rw [← hw2, ← hy]; exact Blk.new w1 28 _
  have f02 : Fr No w w2 := HF1.out.trans f2 fun _ _ h => h
  have HCC := Lib.hid (concat_any w2 hyb.lt (hyb.cell 0) (hyb.cell 1) (HA.out.no f02) (HB.out.no f02) (fun k hk => by have := f02.size; have := HBS.out; omega) HLA.out.1 HLA.out.2)
  have HF02 := Lib.hid f02
  have HF2 := Lib.hid f2
  have HY := Lib.hid hy
  have HW2 := Lib.hid hw2
  have HYB := Lib.hid hyb
  clear hy hw2 f2 hyb f02
  go_wp2_with (go_at_call 53; rw [HY.out, HW2.out]; refine HCC.out.mono ?_; rintro e w3 ⟨Ac, nc, cc, rfl, hnc, hrc, f3⟩; have HNC := Lib.hid hnc; have HRC := Lib.hid hrc; have HF3 := Lib.hid f3; clear hnc hrc f3)
  obtain ⟨N0, hN0⟩ : ∃ x, w3.heap.size = x := ⟨_, rfl⟩
  have hap := HGS.out.ap
  have hs1 := HF1.out.size
  have hs2 := HF2.out.size
  have hs3 := HF3.out.size
  have hB := HBS.out
  have hy2 := HYB.out.lt
  have hyy := HY.out
  have f13 : Fr No w1 w3 := HF2.out.trans HF3.out fun _ _ h => h
  have f03 : Fr No w w3 := HF02.out.trans HF3.out fun _ _ h => h
  have HG3 : Hid (Gs B g m N0 zA (.slice none 0 0) [] w3) := Lib.hid ((HGS.out.no f13).raise (by omega) (by omega))
  have HP3 : Hid (Pv w3) := Lib.hid (HP.out.no f03)
  have HZ0 : Hid (0 < g ∧ 0 < m ∧ 0 < N0 ∧ B ≤ g ∧ B ≤ m ∧ g < w2.heap.size ∧ m < w2.heap.size ∧ w2.heap.size ≤ N0 ∧ m < N0) := Lib.hid (by have := HP.out.lt; refine ⟨?_, ?_, ?_, ?_, ?_, ?_, ?_, ?_, ?_⟩ <;> omega)
  have HNN : Hid (nc = nA + nB) := Lib.hid (by rw [HNC.out]; exact HL.out.2)
  have HRD : Hid (∀ wr, Fr (fun k => k = g ∨ k = m ∨ N0 ≤ k) w3 wr → ∀ j (h : j < (a ++ b).length), ∃ gc off A1 n1 c1 A2 n2 c2, Ac = some ⟨gc, off, none⟩ ∧ gc < wr.heap.size ∧ wr.cell? ⟨gc, off + j * 3, none⟩ = some (.slice A1 n1 c1) ∧ wr.cell? ⟨gc, off + j * 3 + 1, none⟩ = some (.int .i64 (a ++ b)[j].acc.count) ∧ wr.cell? ⟨gc, off + j * 3 + 2, none⟩ = some (.slice A2 n2 c2) ∧ KR (fun k => k < B) wr (.slice A1 n1 c1) (a ++ b)[j].key ∧ PR (fun k => k < B) wr (.slice A2 n2 c2) (a ++ b)[j].acc.parts) := Lib.hid fun wr f j h => by
    have hz := HZ0.out
    have hr : RowE (fun k => k < B ∨ w2.heap.size ≤ k) wr 3 (rwG (fun k => k < B) wr) (.slice Ac nc cc) (a ++ b) := by
      have hr0 := HRC.out
      obtain ⟨A', c', e, h1, h2, h3⟩ := hr0
      refine ⟨A', c', e, h1, h2, fun hl => ?_⟩
      obtain ⟨gc, off, ea, hgk, hgl, hel⟩ := h3 hl
      have hne : ¬ (gc = g ∨ gc = m ∨ N0 ≤ gc) := by
        rintro (h | h | h) <;> rcases hgk with h' | h' <;> omega
      refine ⟨gc, off, ea, hgk, Nat.lt_of_lt_of_le hgl f.size, fun i hi => ?_⟩
      obtain ⟨cs, e1, e2, e3⟩ := hel i hi
      exact ⟨cs, e1, fun q hq => (cell_of_heap (f.block gc hgl hne)).trans (e2 q hq), rwG_elem.mono _ _ _ _ _ _ e3 fun k hk hlt => ⟨hk, f.block k hlt (by rintro (h | h | h) <;> omega)⟩⟩
    obtain ⟨gc, off, A1, n1, c1, A2, n2, c2, e1, _, e3, e4, e5, e6, e7, e8, _⟩ := rr_at hr h
    exact ⟨gc, off, A1, n1, c1, A2, n2, c2, e1, e3, e4, e5, e6, e7, e8⟩
  clear hap hs1 hs2 hs3 hB hy2 hyy f13 f03 hg1 hm1
  obtain ⟨es, hes⟩ : ∃ es, pairs (a ++ b) = es := ⟨_, rfl⟩
  have hel : es.length = nc := by rw [← hes]; unfold pairs; rw [List.length_map, HNC.out]
  have HEL := Lib.hid hel
  have HES := Lib.hid hes
  rw [hes]
  clear hel hes
  go_loopg [7, 15] nc (fun k r7 r15 wr => Hid (∃ (j : Nat), r15 = .int .i64 (j : Nat) ∧ j + k = nc ∧ (∃ rv, Gs B g m N0 zA rv (ordL mergeA zA (es.take j)) wr) ∧ Wf (ordL mergeA zA (es.take j)) ∧ Fr (fun k => k = g ∨ k = m ∨ N0 ≤ k) w3 wr))
  case atStart => exact Lib.hid ⟨0, rfl, by omega, ⟨_, HG3.out⟩, Wf.nil, Fr.refl _ _⟩
  case round =>
    obtain ⟨j, rfl, hjk, ⟨rv, hgs⟩, hwf, hf⟩ := hrel.out
    clear hrel
    by_cases hj : j < nc
    · have hjl : j < (a ++ b).length := by have := HNC.out; omega
      have hje : j < es.length := by have := HEL.out; omega
      have hji : (j : Int) < (nc : Int) := by omega
      obtain ⟨gc, off, B1, n1, d1, B2, n2, d2, rfl, hgl, x0, x1, x2, hkr, hpr⟩ := HRD.out wr hf j hjl
      have hrok := HOK.out _ (List.getElem_mem hjl)
      obtain ⟨k, hk⟩ : ∃ k, (a ++ b)[j].key = k := ⟨_, rfl⟩
      obtain ⟨ac, hac⟩ : ∃ k, (a ++ b)[j].acc = k := ⟨_, rfl⟩
      have hej : es[j] = (k, ac) := by
        have h1 : es[j]? = some (k, ac) := by rw [← HES.out]; unfold pairs; rw [List.getElem?_map, List.getElem?_eq_getElem hjl, Option.map_some, hk, hac]
        rw [List.getElem?_eq_getElem hje] at h1
        exact Option.some.inj h1
      rw [hk] at hkr hrok
      rw [hac] at hpr hrok x1
      have HSTEP : Hid (ordL mergeA zA (es.take (j + 1)) = updG mergeA zA (ordL mergeA zA (es.take j)) k ac) := Lib.hid (by rw [take_succ hje, ord_snoc, hej])
      obtain ⟨q, hq⟩ : ∃ q, wr.heap.size = q := ⟨_, rfl⟩
      obtain ⟨wa, hwa⟩ : ∃ x, wr.alloc (.cells #[.slice B1 n1 d1, .int .i64 ac.count, .slice B2 n2 d2] 50) = x := ⟨_, rfl⟩
      have fa : Fr No wr wa := by rw [← hwa]; exact (Fr.refl No wr).alloc _
      have hqb : Blk wa q 50 #[.slice B1 n1 d1, .int .i64 ac.count, .slice B2 n2 d2] := by rw [← hwa, ← hq]; exact Blk.new wr 50 _
      have q0 := hqb.cell 0
      have q1 := hqb.cell 1
      have q2 := hqb.cell 2
      have hql := hqb.lt
      have HM := Lib.hid (gmerge_any (K2 := fun k => k < B) (cnt := ac.count) wa (hgs.no fa) (hkr.no fa) (by have := HZ0.out; omega) hrok.1 ((HP3.out.fr hf (by have := HZ0.out; omega)).no fa)
        (by have h1 := ord_len mergeA zA (es.take j); have h2 : (es.take j).length ≤ j := List.length_take_le _ _; have := HL.out; have := HNN.out; omega) hwf zA_lok (hpr.no fa) (fun _ h => h) hrok.2)
      have HW : Hid (Wf (updG mergeA zA (ordL mergeA zA (es.take j)) k ac)) := Lib.hid (hwf.updM zA_lok hrok.2)
      have HON : Hid (∀ i, i = g ∨ i = m ∨ rv.ownBlock = some i → i = g ∨ i = m ∨ N0 ≤ i) := Lib.hid fun i hi => ownNot hgs hi
      have HFA := Lib.hid fa
      have HF := Lib.hid hf
      have HWA := Lib.hid hwa
      have HQ := Lib.hid hq
      obtain ⟨cnt, hcnt⟩ : ∃ c, ac.count = c := ⟨_, rfl⟩
      have HRD2 : Hid (updG mergeA zA (ordL mergeA zA (es.take j)) k ⟨ac.count, ac.parts⟩ = ordL mergeA zA (es.take (j + 1))) := Lib.hid HSTEP.out.symm
      rw [HRD2.out, hcnt] at HM
      rw [hcnt] at q1 x1
      have HWA2 : Hid (wr.alloc (.cells #[.slice B1 n1 d1, .int .i64 cnt, .slice B2 n2 d2] 50) = wa) := Lib.hid (by rw [← hcnt]; exact HWA.out)
      have HWF : Hid (Wf (ordL mergeA zA (es.take (j + 1)))) := Lib.hid (by rw [HSTEP.out]; exact HW.out)
      clear hgs hwf hf hkr hpr hrok hk hac hej hq hwa fa hqb hcnt HW HRD2
      have hnb : nc ≤ 4000000 := by have := HNN.out; have := HL.out; omega
      go_upto_region 5 with fail
      rw [HQ.out, HWA2.out]
      go_wp2_with (go_at_call 50; refine HM.out.mono ?_; rintro e wb ⟨rfl, rv', hgs', f'⟩; have HG' := Lib.hid hgs'; have HF' := Lib.hid f'; clear hgs' f')
      obtain ⟨g1, rfl⟩ : ∃ g1, gk = g1 + 1 := ⟨gk - 1, by omega⟩
      go_roundg g1
      case rel => exact Lib.hid ⟨j + 1, by go_num, by omega, ⟨rv', HG'.out⟩, HWF.out, HF.out.trans (HFA.out.any.trans HF'.out fun k _ h => h) fun k _ h => HON.out k h⟩
      all_goals omega
    · have hji : (nc : Int) ≤ (j : Int) := by omega
      have HT : Hid (es.take j = es) := Lib.hid (List.take_of_length_le (by rw [HEL.out]; omega))
      rw [HT.out] at hgs
      have HO := Lib.hid (inOrder_any wr hgs (by have h1 := ord_len mergeA zA es; have := HEL.out; have := HL.out; have := HNN.out; omega))
      have HON : Hid (∀ i, rv.ownBlock = some i → N0 ≤ i) := Lib.hid fun i hi => hgs.own i hi
      have HF := Lib.hid hf
      clear hgs hwf hf
      go_wp2_with (go_at_call 41; refine HO.out.mono ?_; rintro e wb ⟨l', ⟨hpm, hso⟩, Ar, nr, cr, rfl, hnr, hrr, fr⟩; have HEND := Lib.hid (And.intro hpm (And.intro hso (And.intro hnr (And.intro hrr fr)))); clear hpm hso hnr hrr fr)
      go_ret
      obtain ⟨hpm, hso, hnr, hrr, fr⟩ := HEND.out
      have hl' : l' = grpL mergeA zA es := ord_sorted mergeA zA hpm hso
      rw [HES.out, ← hl']
      refine ⟨Ar, nr, cr, rfl, hnr, hrr, ?_⟩
      have f1 : Fr (fun k => B ≤ k) w wb := ((HF02.out.trans HF3.out fun _ _ h => h).any.trans HF.out fun k _ h => by have := HZ0.out; rcases h with h | h | h <;> omega).trans fr fun k _ h => by have := HON.out k h; have := HZ0.out; omega
      exact ⟨f1.os, f1.tape, f1.output, f1.size, fun k hk _ => f1.block k hk (by have := HBS.out; omega)⟩
end Go.Proofs.YtlpglijikmnopaaGreatDoor
namespace Go.Proofs.YtlpglijikmnopaaGreatDoor
open Go.RowKit Go.Maps Go.Sort Go.Proofs
set_option linter.unusedVariables false

def isSetB (n : Int) : Bool := decide (0 ≤ n) && decide (n < 64)
theorem isSet_any (n : Int) (w : World) : Calls Tryz.prog 45 #[.int .i64 n] w (TellsB (isSetB n) w) := by
  by_cases h0 : 0 ≤ n
  · by_cases h1 : n < 64
    · have HV : Hid (isSetB n = true) := Lib.hid (by unfold isSetB; rw [decide_eq_true h0, decide_eq_true h1]; rfl)
      go_enter Tryz.func45, Tryz.ntmps45
      go_wp2_with fail
      go_ret
      exact ⟨by rw [HV.out]; rfl, Fr.refl _ _⟩
    · have HV : Hid (isSetB n = false) := Lib.hid (by unfold isSetB; rw [decide_eq_false h1, Bool.and_false])
      go_enter Tryz.func45, Tryz.ntmps45
      go_wp2_with fail
      go_ret
      exact ⟨by rw [HV.out]; rfl, Fr.refl _ _⟩
  · have HV : Hid (isSetB n = false) := Lib.hid (by unfold isSetB; rw [decide_eq_false h0, Bool.false_and])
    go_enter Tryz.func45, Tryz.ntmps45
    go_wp2_with fail
    go_ret
    exact ⟨by rw [HV.out]; rfl, Fr.refl _ _⟩
/-- A key of another length. -/
def badK (m : Nat) (r : Rw) : Bool := !decide (r.key.length = m)
theorem badK_any {K K2 : Nat → Prop} {m : Nat} {D : Option Addr} {cd y : Nat} (r : Rw) (cs : List Value) (w : World) (hr : rwG K w r cs) (hy : y < w.heap.size) (hc : w.cell? ⟨y, 0, none⟩ = some (.slice D m cd)) : Calls Tryz.prog 48 #[.agg cs.toArray, .pointer (some ⟨y, 0, none⟩)] w (TellsB (badK m r) w) := by
  obtain ⟨kv, pv, rfl, h1, h2⟩ := hr
  obtain ⟨A, ca, rfl, -⟩ := h1.form
  obtain ⟨C, cc, rfl, -⟩ := h2.form
  have HF : Hid (Fr No w (w.alloc (.cells #[.slice A r.key.length ca, .int .i64 r.acc.count, .slice C r.acc.parts.length cc] 50))) := Lib.hid ((Fr.refl No w).alloc _)
  have hc1 := (cell_of_heap (HF.out.block y hy id) (o := 0)).trans hc
  have HV : Hid (badK m r = !decide (r.key.length = m)) := Lib.hid rfl
  obtain ⟨n, hn⟩ : ∃ n, r.key.length = n := ⟨_, rfl⟩
  rw [hn] at HV HF hc1 ⊢
  generalize r.acc.count = xc at *
  generalize r.acc.parts.length = xp at *
  rw [HV.out]
  clear h1 h2 HV hc
  by_cases e : n = m
  · subst e
    go_enter Tryz.func48, Tryz.ntmps48
    go_wp2_with fail
    go_ret
    exact ⟨by simp, HF.out⟩
  · have hi : (n : Int) ≠ (m : Int) := by omega
    have HD : Hid (decide (n = m) = false) := Lib.hid (decide_eq_false e)
    have h9 : ((n : Int) == (m : Int)) = false := by simp [hi]
    have h8 : ((n : Int) != (m : Int)) = true := by simp [hi]
    go_enter Tryz.func48, Tryz.ntmps48
    go_wp2_with fail
    go_ret
    exact ⟨by rw [HD.out]; rfl, HF.out⟩
def idxK (m : Nat) (l : List Rw) : Int := match l.findIdx? (badK m) with | some i => (i : Int) | none => -1
theorem any_take {α : Type} {p : α → Bool} {l : List α} {j : Nat} (h : j < l.length) (h0 : (l.take j).any p = false) (hx : p l[j] = false) : (l.take (j + 1)).any p = false := by
  rw [take_succ h, List.any_append, h0]
  simp [hx]
theorem idxK_some {m : Nat} {l : List Rw} {j : Nat} (h : j < l.length) (h0 : (l.take j).any (badK m) = false) (hx : badK m l[j] = true) : idxK m l = (j : Int) := by
  have : l.findIdx? (badK m) = some j := by
    rw [List.findIdx?_eq_some_iff_getElem]
    refine ⟨h, hx, fun i hi => ?_⟩
    have h1 : l[i] ∈ l.take j := by
      rw [List.mem_take_iff_getElem]
      exact ⟨i, by omega, rfl⟩
    exact List.any_eq_false.1 h0 _ h1
  unfold idxK
  rw [this]
theorem idxK_none {m : Nat} {l : List Rw} (h : l.any (badK m) = false) : idxK m l = -1 := by
  have : l.findIdx? (badK m) = none := by
    rw [List.findIdx?_eq_none_iff]
    intro a ha
    have := List.any_eq_false.1 h a ha
    simpa using this
  unfold idxK
  rw [this]
theorem idxK_any (m : Nat) (l : List Rw) : decide (0 ≤ idxK m l) = l.any (badK m) := by
  cases h : l.any (badK m) with
  | false => rw [idxK_none h]; rfl
  | true =>
    unfold idxK
    cases hf : l.findIdx? (badK m) with
    | some i => simp
    | none =>
      rw [List.findIdx?_eq_none_iff] at hf
      obtain ⟨a, ha, hax⟩ := List.any_eq_true.1 h
      have := hf a ha
      rw [hax] at this
      cases this
abbrev stV (y : Nat) : Value := .func (.func 48) #[] #[.pointer (some ⟨y, 0, none⟩)]
set_option maxRecDepth 100000 in
theorem indexF_any {K : Nat → Prop} {m : Nat} {D : Option Addr} {cd y : Nat} {l : List Rw} {v : Value} (w : World) (hy : y < w.heap.size) (hc : w.cell? ⟨y, 0, none⟩ = some (.slice D m cd)) (h : RR K w v l) : Calls Tryz.prog 78 #[v, stV y] w (TellsI (idxK m l) w) := by
  have HROW : Hid (∀ w', Fr No w w' → RR K w' v l) := Lib.hid fun w' f' => h.no f'
  obtain ⟨A, c, rfl, hlc, hcm⟩ := rr_form h
  obtain ⟨n, hn⟩ : ∃ n, l.length = n := ⟨_, rfl⟩
  rw [hn] at hlc HROW ⊢
  have HN := Lib.hid hn
  have HC : Hid (∀ (r : Rw) cs w', rwG K w' r cs → Fr No w w' → Calls Tryz.prog 48 #[.agg cs.toArray, .pointer (some ⟨y, 0, none⟩)] w' (TellsB (badK m r) w')) := Lib.hid fun r cs w' hr f' => badK_any (K2 := K) r cs w' hr (Nat.lt_of_lt_of_le hy f'.size) ((cell_of_heap (f'.block y hy id)).trans hc)
  unfold maxLen at hcm
  clear hn hc h
  go_enter Tryz.func78, Tryz.ntmps78
  go_wp2_with fail
  go_loopg [5, 8] n (fun k r5 r8 wr => Hid (∃ j : Nat, r8 = .int .i64 (j : Nat) ∧ j + k = n ∧ Fr No w wr ∧ (l.take j).any (badK m) = false))
  case atStart => exact Lib.hid ⟨0, rfl, by omega, Fr.refl _ _, rfl⟩
  case round =>
    obtain ⟨j, rfl, hjn, hf, hall⟩ := hrel.out
    have HALL := Lib.hid hall
    have HF := Lib.hid hf
    clear hrel hall hf
    by_cases hj : j < n
    · have hji : (j : Int) < (n : Int) := by omega
      have hjl : j < l.length := by rw [HN.out]; exact hj
      obtain ⟨g, off, A1, n1, c1, A2, n2, c2, rfl, -, hgl, x0, x1, x2, xk, xp, -⟩ := rr_at (HROW.out wr HF.out) hjl
      have HC1 := Lib.hid (HC.out l[j] [.slice A1 n1 c1, .int .i64 l[j].acc.count, .slice A2 n2 c2] wr ⟨_, _, rfl, xk, xp⟩ HF.out)
      have HX : Hid (∀ b, badK m l[j] = b → (b = true → idxK m l = (j : Int)) ∧ (b = false → (l.take (j + 1)).any (badK m) = false)) := Lib.hid fun b hb => ⟨fun e => idxK_some hjl HALL.out (hb.trans e), fun e => any_take hjl HALL.out (hb.trans e)⟩
      obtain ⟨q, hq⟩ : ∃ q, badK m l[j] = q := ⟨_, rfl⟩
      have HQ := Lib.hid (HX.out q hq)
      rw [hq] at HC1
      generalize l[j].acc.count = xc at *
      clear hq xk xp HX
      go_upto_region 4 with fail
      cases q with
      | true =>
        go_wp2_with (go_at_call 48; refine HC1.out.mono ?_; rintro e w2 ⟨rfl, f2⟩; have HF2 := Lib.hid (HF.out.trans f2 fun _ _ h => h); clear f2)
        go_ret
        exact ⟨by rw [HQ.out.1 (by first | rfl | trivial)]; rfl, HF2.out⟩
      | false =>
        go_wp2_with (go_at_call 48; refine HC1.out.mono ?_; rintro e w2 ⟨rfl, f2⟩; have HF2 := Lib.hid (HF.out.trans f2 fun _ _ h => h); clear f2)
        obtain ⟨g1, rfl⟩ : ∃ g1, gk = g1 + 1 := ⟨gk - 1, by omega⟩
        go_roundg g1
        case rel => exact Lib.hid ⟨j + 1, by go_num, by omega, HF2.out, HQ.out.2 (by first | rfl | trivial)⟩
        all_goals omega
    · have hji : (n : Int) ≤ (j : Int) := by omega
      have HV : Hid (idxK m l = -1) := Lib.hid (idxK_none (by have := HALL.out; rwa [List.take_of_length_le (by rw [HN.out]; omega)] at this))
      go_wp2_with fail
      go_ret
      exact ⟨by rw [HV.out]; rfl, HF.out⟩
theorem containsF_any {K : Nat → Prop} {m : Nat} {D : Option Addr} {cd y : Nat} {l : List Rw} {v : Value} (w : World) (hy : y < w.heap.size) (hc : w.cell? ⟨y, 0, none⟩ = some (.slice D m cd)) (h : RR K w v l) : Calls Tryz.prog 47 #[v, stV y] w (TellsB (l.any (badK m)) w) := by
  have HC := Lib.hid (indexF_any w hy hc h)
  have hd := idxK_any m l
  obtain ⟨x, hx⟩ : ∃ x, idxK m l = x := ⟨_, rfl⟩
  rw [hx] at HC hd
  rw [← hd]
  obtain ⟨A, c, rfl, -⟩ := rr_form h
  generalize l.length = nl at *
  clear hx hd hc h
  go_enter Tryz.func47, Tryz.ntmps47
  go_wp2_with fail
  refine HC.out.mono ?_
  rintro e w2 ⟨rfl, f2⟩
  have HF := Lib.hid f2
  clear f2
  go_wp2_with fail
  go_ret
  exact ⟨rfl, HF.out⟩
/-- Where a number stands in a list. -/
def idxN (d : List Nat) (x : Nat) : Int := match d.findIdx? (fun y => decide (y = x)) with | some i => (i : Int) | none => -1
set_option maxRecDepth 100000 in
theorem index_any {K : Nat → Prop} {d : List Nat} {v : Value} {x : Nat} (w : World) (h : RowE K w 1 (natG K w) v d) : Calls Tryz.prog 49 #[v, .int .i64 (x : Nat)] w (TellsI (idxN d x) w) := by
  have HROW : Hid (∀ w', Fr No w w' → RowE K w' 1 (natG K w') v d) := Lib.hid fun w' f' => RowE.at_ natG_elem h f'
  obtain ⟨A, c, rfl, hlc, hcm, -⟩ := h
  obtain ⟨n, hn⟩ : ∃ n, d.length = n := ⟨_, rfl⟩
  rw [hn] at hlc HROW ⊢
  have HN := Lib.hid hn
  unfold maxLen at hcm
  clear hn
  go_enter Tryz.func49, Tryz.ntmps49
  go_wp2_with fail
  go_loopg [5, 8] n (fun k r5 r8 wr => Hid (∃ j : Nat, r8 = .int .i64 (j : Nat) ∧ j + k = n ∧ Fr No w wr ∧ ∀ i (h : i < d.length), i < j → d[i] ≠ x))
  case atStart => exact Lib.hid ⟨0, rfl, by omega, Fr.refl _ _, fun i h hi => absurd hi (by omega)⟩
  case round =>
    obtain ⟨j, rfl, hjn, hf, hall⟩ := hrel.out
    have HALL := Lib.hid hall
    have HF := Lib.hid hf
    clear hrel hall hf
    by_cases hj : j < n
    · have hji : (j : Int) < (n : Int) := by omega
      have hjl : j < d.length := by rw [HN.out]; exact hj
      obtain ⟨A0, c0, e0, hmc, hcm2, hrow2⟩ := HROW.out wr HF.out
      injection e0 with e1 e2 e3
      subst e1 e3
      obtain ⟨g2, o2, rfl, _, hgl, hel⟩ := hrow2 (by omega)
      obtain ⟨cs, hcl, hcs, hE⟩ := hel j hjl
      have hd2 : wr.cell? ⟨g2, o2 + j, none⟩ = some (.int .i64 (d[j] : Nat)) := by have := hcs 0 (by decide); rw [hE] at this; simpa using this
      obtain ⟨q, hq⟩ : ∃ q, d[j] = q := ⟨_, rfl⟩
      rw [hq] at hd2
      have HQ := Lib.hid hq
      clear hcs hel hE hrow2 e2 hmc hcm2 hq
      by_cases e : x = q
      · subst e
        have HV : Hid (idxN d x = (j : Int)) := Lib.hid (by
          have : d.findIdx? (fun y => decide (y = x)) = some j := by
            rw [List.findIdx?_eq_some_iff_getElem]
            exact ⟨hjl, by simp [HQ.out], fun i hi => by simpa using HALL.out i (by omega) hi⟩
          unfold idxN
          rw [this])
        go_wp2_with fail
        go_ret
        exact ⟨by rw [HV.out]; rfl, HF.out⟩
      · have HT : Hid (∀ i (h : i < d.length), i < j + 1 → d[i] ≠ x) := Lib.hid fun i h hi => by
          rcases Nat.lt_or_ge i j with h1 | h1
          · exact HALL.out i h h1
          · obtain rfl : i = j := by omega
            rw [HQ.out]; exact fun h => e h.symm
        have hxi : (x : Int) ≠ (q : Int) := by omega
        go_wp2_with fail
        obtain ⟨g1, rfl⟩ : ∃ g1, gk = g1 + 1 := ⟨gk - 1, by omega⟩
        go_roundg g1
        case rel => exact Lib.hid ⟨j + 1, by go_num, by omega, HF.out, HT.out⟩
        all_goals omega
    · have hji : (n : Int) ≤ (j : Int) := by omega
      have HV : Hid (idxN d x = -1) := Lib.hid (by
        have : d.findIdx? (fun y => decide (y = x)) = none := by
          rw [List.findIdx?_eq_none_iff]
          intro a ha
          obtain ⟨i, hi, e⟩ := List.getElem_of_mem ha
          have := HALL.out i hi (by have := HN.out; omega)
          rw [e] at this
          simpa using this
        unfold idxN
        rw [this])
      go_wp2_with fail
      go_ret
      exact ⟨by rw [HV.out]; rfl, HF.out⟩
end Go.Proofs.YtlpglijikmnopaaGreatDoor
