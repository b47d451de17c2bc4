/- Same, may, Valid, New. -/
import Derived.Test.YtgjpdagbbljmpaaB6
import Derived.Laws.MakeOwn
namespace Go.Proofs.Ytgjpdagbbljmpaa
open Go.RowKit Go.Maps Go.Sort
set_option linter.unusedVariables false

def sameA (a b : Ac) : Bool := decide (a.count = b.count) && decide (a.parts = b.parts)
theorem sameA_iff {a b : Ac} : sameA a b = true ↔ a = b := by
  unfold sameA
  rw [Bool.and_eq_true, decide_eq_true_eq, decide_eq_true_eq]
  exact ⟨fun h => Ac.ext h.1 h.2, fun h => by rw [h]; exact ⟨rfl, rfl⟩⟩
set_option maxRecDepth 100000 in
theorem same_any {K K2 : Nat → Prop} (c1 c2 : Int) (l m : List Pt) (v v2 : Value) (w : World) (h : PR K w v l) (h2 : PR K2 w v2 m) : Calls Try.prog 29 #[.agg #[.int .i64 c1, v], .agg #[.int .i64 c2, v2]] w (TellsB (sameA ⟨c1, l⟩ ⟨c2, m⟩) w) := by
  have HC : Hid (∀ w', Fr No w w' → Calls Try.prog 43 #[v, v2] w' (TellsB (decide (l = m)) w')) := Lib.hid fun w' f' => equal_any l m v v2 w' (h.no f') (h2.no f')
  obtain ⟨A, ca, rfl, ha1, ha2⟩ := h.form
  obtain ⟨B, cb, rfl, hb1, hb2⟩ := h2.form
  obtain ⟨N, hN⟩ : ∃ N, l.length = N := ⟨_, rfl⟩
  obtain ⟨M, hM⟩ : ∃ M, m.length = M := ⟨_, rfl⟩
  rw [hN, hM] at HC
  obtain ⟨d, hd⟩ : ∃ d, decide (l = m) = d := ⟨_, rfl⟩
  rw [hd] at HC
  rw [hN, hM]
  by_cases e : c1 = c2
  · subst e
    have HV : Hid (sameA ⟨c1, l⟩ ⟨c1, m⟩ = d) := Lib.hid (by unfold sameA; rw [decide_eq_true rfl, hd]; rfl)
    rw [HV.out]
    clear h h2 HV hd hN hM
    go_enter Try.func29, Try.ntmps29
    go_wp2_with (go_at_call 43; refine (HC.out _ (((Fr.refl No w).alloc _).alloc _)).mono ?_; rintro e w1 ⟨rfl, f1⟩; have HF1 := Lib.hid f1; clear f1)
    go_ret
    exact ⟨rfl, (((Fr.refl No w).alloc _).alloc _).trans HF1.out fun _ _ h => h⟩
  · have HV : Hid (sameA ⟨c1, l⟩ ⟨c2, m⟩ = false) := Lib.hid (by unfold sameA; rw [decide_eq_false e]; rfl)
    rw [HV.out]
    clear h h2 HV hd hN hM HC
    go_enter Try.func29, Try.ntmps29
    go_wp2_with fail
    go_ret
    exact ⟨rfl, ((Fr.refl No w).alloc _).alloc _⟩
set_option maxRecDepth 100000 in
theorem may_any (p : Pt) (c : Int) (w : World) : Calls Try.prog 44 #[ptV p, .int .i64 c] w (TellsB (mayP p c) w) := by
  have hq := eql46 p Pt.zero
  obtain ⟨d, hd⟩ : ∃ d, decide (p = Pt.zero) = d := ⟨_, rfl⟩
  rw [hd] at hq
  unfold mayP
  rw [hd]
  clear hd
  obtain ⟨pa, ⟨ph, pl⟩, pn, px⟩ := p
  cases pa with
  | false =>
    have hq2 : ∀ w, (binOp .eql 46 (.agg #[.bool false, .int .i64 ph, .int .u64 pl, .int .i64 pn, .int .i64 px]) (.agg #[.bool false, .int .i64 0, .int .u64 0, .int .i64 0, .int .i64 0])).run Try.prog w = .ok (.bool d) w := hq
    clear hq
    rw [if_neg (by simp)]
    go_enter Try.func44, Try.ntmps44
    go_wp2_with fail
    go_ret
    exact ⟨rfl, (Fr.refl No w).alloc _⟩
  | true =>
    clear hq
    rw [if_pos rfl]
    by_cases h1 : 0 < c
    · rw [decide_eq_true h1, Bool.true_and]
      by_cases h2 : pn ≤ px
      · rw [decide_eq_true h2]
        have e1 : (0 < c) = True := eq_true h1
        have e2 : (pn ≤ px) = True := eq_true h2
        clear h1 h2
        go_enter Try.func44, Try.ntmps44
        go_wp2_with fail
        go_ret
        exact ⟨by first | rfl | simp, (Fr.refl No w).alloc _⟩
      · rw [decide_eq_false h2]
        have e1 : (0 < c) = True := eq_true h1
        have e2 : (pn ≤ px) = False := eq_false h2
        clear h1 h2
        go_enter Try.func44, Try.ntmps44
        go_wp2_with fail
        go_ret
        exact ⟨by first | rfl | simp, (Fr.refl No w).alloc _⟩
    · rw [decide_eq_false h1, Bool.false_and]
      have e1 : (0 < c) = False := eq_false h1
      clear h1
      go_enter Try.func44, Try.ntmps44
      go_wp2_with fail
      go_ret
      exact ⟨by first | rfl | simp, (Fr.refl No w).alloc _⟩
theorem validA_all {c : Int} {l : List Pt} {m : Int} (h0 : 0 ≤ c) (hm : (l.length : Int) = m) : validA ⟨c, l⟩ m = l.all fun p => mayP p c := by
  unfold validA
  simp only
  rw [decide_eq_true h0, decide_eq_true hm]; rfl
set_option maxRecDepth 100000 in
theorem valid_any {K : Nat → Prop} (c : Int) (l : List Pt) (m : Int) (v : Value) (w : World) (h : PR K w v l) : Calls Try.prog 30 #[.agg #[.int .i64 c, v], .int .i64 m] w (TellsB (validA ⟨c, l⟩ m) w) := by
  have HP := Lib.hid h
  obtain ⟨A, ca, rfl, ha1, ha2⟩ := h.form
  obtain ⟨N, hN⟩ : ∃ N, l.length = N := ⟨_, rfl⟩
  rw [hN] at HP ⊢
  have hNb : N ≤ 9223372036854775807 := by unfold maxLen at ha2; omega
  by_cases h0 : 0 ≤ c
  · have k1 : (c < 0) = False := eq_false (by omega)
    by_cases hm : (N : Int) = m
    · subst hm
      have HV := Lib.hid (validA_all (c := c) (l := l) (m := (N : Int)) h0 (by rw [hN]))
      have HN := Lib.hid hN
      obtain ⟨b, hb⟩ : ∃ b, w.heap.size = b := ⟨_, rfl⟩
      obtain ⟨w1, hw1⟩ : ∃ w1, w.alloc (.cells #[.int .i64 c, .slice A N ca] 39) = w1 := ⟨_, rfl⟩
      have f1 : Fr No w w1 := by rw [← hw1]; exact (Fr.refl No w).alloc _
      have hx : Blk w1 b 39 #[.int .i64 c, .slice A N ca] := by rw [← hw1, ← hb]; exact Blk.new w 39 _
      have HX := Lib.hid hx
      have HB := Lib.hid hb
      have HW1 := Lib.hid hw1
      have HF1 := Lib.hid f1
      have x0 := hx.cell 0
      have x1 := hx.cell 1
      clear h h0 hN ha1 ha2 hb hw1 f1 hx
      go_enter Try.func30, Try.ntmps30
      go_upto_region 1 with fail
      rw [HW1.out, HB.out]
      go_wp2_with fail
      clear x0 x1
      go_loopg [5, 17] N (fun k r5 r17 wr => Hid (∃ (j : Nat), r17 = .int .i64 (j : Nat) ∧ j + k = N ∧ ((l.take j).all fun p => mayP p c) = true ∧ Fr No w1 wr))
      case atStart => exact Lib.hid ⟨0, rfl, by omega, rfl, Fr.refl _ _⟩
      case round =>
      obtain ⟨j, rfl, hjk, hall, hf⟩ := hrel.out
      clear hrel
      by_cases hj : j < N
      · have hji : (j : Int) < (N : Int) := by omega
        have hjl : j < l.length := by have := HN.out; omega
        obtain ⟨g1, o1, rfl, -, -, h5⟩ := (HP.out.no (HF1.out.trans hf fun _ _ h => h)).at_ hjl
        have h5 := h5 j hjl
        obtain ⟨p, hp⟩ : ∃ p, l[j] = p := ⟨_, rfl⟩
        rw [hp] at h5
        obtain ⟨d, hd⟩ : ∃ d, mayP p c = d := ⟨_, rfl⟩
        have hma := may_any p c
        rw [hd] at hma
        have hbx := HX.out.no hf
        have y0 := fun dd os => (five_regrown h5 dd os).1
        have y1 := fun dd os => (five_regrown h5 dd os).2.1
        have y2 := fun dd os => (five_regrown h5 dd os).2.2.1
        have y3 := fun dd os => (five_regrown h5 dd os).2.2.2.1
        have y4 := fun dd os => (five_regrown h5 dd os).2.2.2.2
        have z0 := fun dd os => cell_regrown (hbx.cell 0) dd os
        have z1 := fun dd os => cell_regrown (hbx.cell 1) dd os
        obtain ⟨pa, ⟨ph, pl⟩, pn, px⟩ := p
        have K1 := Lib.hid (fun dd os => tells_grown (w := wr) (v := .bool d) (fun w' _ => hma w') dd os)
        have HF := Lib.hid hf
        have HNX : Hid (d = true → ((l.take (j + 1)).all fun p => mayP p c) = true) := Lib.hid fun e => by
          rw [List.take_add_one, List.getElem?_eq_getElem hjl, hp, List.all_append, hall]
          simp [hd, e]
        have HNO : Hid (d = false → (l.all fun p => mayP p c) = false) := Lib.hid fun e => by
          rw [List.all_eq_false]
          exact ⟨l[j], List.getElem_mem _, by rw [hp, hd, e]; decide⟩
        clear hall hf h5 hp hd hma hbx
        cases d with
        | true =>
          go_upto_region 6 with fail
          refine wp_region_quiet_below mixedB (by kernel_rfl) ?_
          repeat (first | go_big_quiet_step (with_reducible exact K1.out _ _) | quiet_step (with_reducible exact K1.out _ _))
          refine wpQuiet_nil ?_
          intro wx hp
          have HG : Hid (Fr No w1 wx) := Lib.hid (HF.out.trans (by obtain ⟨p, rfl⟩ := hp; exact fr_reg _ _ _) fun _ _ h => h)
          clear hp y0 y1 y2 y3 y4 z0 z1
          go_wp2_with fail
          obtain ⟨g1, rfl⟩ : ∃ g1, gk = g1 + 1 := ⟨gk - 1, by omega⟩
          go_roundg g1
          case rel => exact Lib.hid ⟨j + 1, by go_num, by omega, HNX.out (by first | rfl | trivial), HG.out⟩
          all_goals omega
        | false =>
          go_upto_region 6 with fail
          refine wp_region_quiet_below mixedB (by kernel_rfl) ?_
          repeat (first | go_big_quiet_step (with_reducible exact K1.out _ _) | quiet_step (with_reducible exact K1.out _ _))
          refine wpQuiet_nil ?_
          intro wx hp
          have HG : Hid (Fr No w1 wx) := Lib.hid (HF.out.trans (by obtain ⟨p, rfl⟩ := hp; exact fr_reg _ _ _) fun _ _ h => h)
          clear hp y0 y1 y2 y3 y4 z0 z1
          go_wp2_with fail
          go_ret
          exact ⟨by rw [HV.out, HNO.out (by first | rfl | trivial)]; rfl, HF1.out.trans HG.out fun _ _ h => h⟩
      · have hji : (N : Int) ≤ (j : Int) := by omega
        have HA : Hid ((l.all fun p => mayP p c) = true) := Lib.hid (by rw [List.take_of_length_le (by have := HN.out; omega)] at hall; exact hall)
        have HF := Lib.hid hf
        clear hall hf
        go_wp2_with fail
        go_ret
        exact ⟨by rw [HV.out, HA.out]; rfl, HF1.out.trans HF.out fun _ _ h => h⟩
    · have HV : Hid (validA ⟨c, l⟩ m = false) := Lib.hid (by unfold validA; simp only; rw [hN, decide_eq_false hm]; simp)
      rw [HV.out]
      clear h h0 hN HV HP
      go_enter Try.func30, Try.ntmps30
      go_wp2_with fail
      go_ret
      exact ⟨rfl, (Fr.refl No w).alloc _⟩
  · have k1 : (c < 0) = True := eq_true (by omega)
    have HV : Hid (validA ⟨c, l⟩ m = false) := Lib.hid (by unfold validA; simp only; rw [decide_eq_false h0]; rfl)
    rw [HV.out]
    clear h h0 hN HV HP
    go_enter Try.func30, Try.ntmps30
    go_wp2_with fail
    go_ret
    exact ⟨rfl, (Fr.refl No w).alloc _⟩
theorem make37 (n : Nat) (hn : n ≤ 4) (w : World) : (Instr.makeSlice 37 (.int .i64 n) (.int .i64 n)).run Try.prog w = .ok (.slice (some ⟨w.heap.size, 0, none⟩) n n) (w.alloc (.cells (madeCells (ptA Pt.zero) (n * 5)) 46)) := by
  obtain ⟨i, hi, hz0, hz1, hz2⟩ := info_parts info46
  have h := run_make (P := Try.prog) w 37 46 i _ Try.underlying37 hi hz0 .i64 .i64 (n : Int) (n : Int) (by omega) (Int.le_refl _) (by rw [hz2]; omega) (by omega)
  rw [Int.toNat_natCast, hz1] at h
  exact h
theorem made_po (n : Nat) (hn : n ≤ 4) (w : World) : PO w.heap.size (w.alloc (.cells (madeCells (ptA Pt.zero) (n * 5)) 46)) (.slice (some ⟨w.heap.size, 0, none⟩) n n) (List.replicate n Pt.zero) := by
  refine .inr ⟨w.heap.size, n, _, by rw [List.length_replicate], by rw [List.length_replicate]; exact Nat.le_refl _, by unfold maxLen; omega, Nat.le_refl _, Blk.new w 46 _, fun j hj k hk => ?_⟩
  rw [List.length_replicate] at hj
  rw [List.getElem_replicate]
  have h1 : (madeCells (ptA Pt.zero) (n * 5))[j * 5 + k]? = some ((ptA Pt.zero)[(j * 5 + k) % 5]!) := by
    unfold madeCells
    rw [Array.getElem?_map, Array.getElem?_range, if_pos (by omega)]
    rfl
  rw [h1, show (j * 5 + k) % 5 = k by omega]
  have hk5 : k = 0 ∨ k = 1 ∨ k = 2 ∨ k = 3 ∨ k = 4 := by omega
  rcases hk5 with rfl | rfl | rfl | rfl | rfl <;> rfl
set_option maxRecDepth 100000 in
theorem new_any (m : Int) (w : World) : Calls Try.prog 27 #[.int .i64 m] w (TellsA (newA m) w) := by
  obtain ⟨k, hk⟩ : ∃ k : Nat, (min (max m 0) 4).toNat = k := ⟨_, rfl⟩
  have hk4 : k ≤ 4 := by omega
  obtain ⟨x, hx⟩ : ∃ x, max m 0 = x := ⟨_, rfl⟩
  have e1 : (if m < 0 then 0 else m) = x := by split <;> omega
  have e2 : (if 4 < x then 4 else x) = (k : Int) := by split <;> omega
  unfold newA
  rw [hk]
  obtain ⟨b, hb⟩ : ∃ b, w.heap.size = b := ⟨_, rfl⟩
  obtain ⟨w1, hw1⟩ : ∃ w1, w.alloc (.cells #[.int .i64 0, .slice none 0 0] 39) = w1 := ⟨_, rfl⟩
  have f1 : Fr No w w1 := by rw [← hw1]; exact (Fr.refl No w).alloc _
  have hbx : Blk w1 b 39 #[.int .i64 0, .slice none 0 0] := by rw [← hw1, ← hb]; exact Blk.new w 39 _
  have hmk := make37 k hk4 w1
  have hpo := made_po k hk4 w1
  obtain ⟨w2, hw2⟩ : ∃ w2, w1.alloc (.cells (madeCells (ptA Pt.zero) (k * 5)) 46) = w2 := ⟨_, rfl⟩
  rw [hw2] at hmk hpo
  obtain ⟨y, hy⟩ : ∃ y, w1.heap.size = y := ⟨_, rfl⟩
  rw [hy] at hmk hpo
  have f2 : Fr No w1 w2 := by rw [← hw2]; exact (Fr.refl No w1).alloc _
  obtain ⟨r0, r1, z0, z1⟩ := blk2 (hbx.no f2)
  have hyb : b + 1 = y := by rw [← hy, ← hw1, ← hb]; simp
  have HPO := Lib.hid hpo
  have HF := Lib.hid (f1.trans f2 fun _ _ h => h)
  have HW1 := Lib.hid hw1
  have HB := Lib.hid hb
  have HY := Lib.hid hyb
  clear hk hx hb hw1 f1 hbx hpo hw2 hy f2 hyb
  go_enter Try.func27, Try.ntmps27
  go_upto_region 1 with fail
  rw [HW1.out, HB.out]
  go_wp2_with fail
  refine bodyPost_ret (v := .agg #[.int .i64 0, .slice (some ⟨y, 0, none⟩) k k]) (by simp [results, Try.results27, go_sem, r0, r1]) rfl ⟨_, rfl, ?_, ?_⟩
  · have h1 := HB.out
    have h2 := HY.out
    exact ((HPO.out.set_low (by omega) _).set_low (by omega) _).low (by omega)
  · have hbb : w.heap.size ≤ b := by have := HB.out; omega
    refine Fr.set_new (Fr.set_new ?_ hbb _) hbb _
    exact HF.out
end Go.Proofs.Ytgjpdagbbljmpaa
