/- The document's Valid. -/
import Derived.Test.YtgjpdagbbljmpaaB9
namespace Go.Proofs.Ytgjpdagbbljmpaa
open Go.RowKit Go.Maps Go.Sort
set_option linter.unusedVariables false

set_option maxRecDepth 100000 in
set_option maxHeartbeats 1000000 in
theorem rvalid_any {K : Nat → Prop} (c : Int) (l : List Pt) (m : Int) (v : Value) (w : World) (h : PR K w v l) : Calls Try.prog 31 #[.agg #[.int .i64 c, v], .int .i64 m] w (TellsB (validA ⟨c, l⟩ m) w) := by
  have HP := Lib.hid h
  obtain ⟨A, ca, rfl, ha1, ha2⟩ := h.form
  obtain ⟨N, hN⟩ : ∃ N, l.length = N := ⟨_, rfl⟩
  rw [hN] at HP ⊢
  have hNb : N ≤ 9223372036854775807 := by unfold maxLen at ha2; omega
  by_cases h0 : 0 ≤ c
  · have k1 : (c < 0) = False := eq_false (by omega)
    by_cases hm : (N : Int) = m
    · subst hm
      have HV := Lib.hid (validA_all (c := c) (l := l) (m := (N : Int)) h0 (by rw [hN]))
      have HN := Lib.hid hN
      have HC0 := Lib.hid h0
      obtain ⟨b, hb⟩ : ∃ b, w.heap.size = b := ⟨_, rfl⟩
      obtain ⟨w1, hw1⟩ : ∃ w1, w.alloc (.cells #[.int .i64 c, .slice A N ca] 39) = w1 := ⟨_, rfl⟩
      have f1 : Fr No w w1 := by rw [← hw1]; exact (Fr.refl No w).alloc _
      have hx : Blk w1 b 39 #[.int .i64 c, .slice A N ca] := by rw [← hw1, ← hb]; exact Blk.new w 39 _
      have HX := Lib.hid hx
      have HB := Lib.hid hb
      have HW1 := Lib.hid hw1
      have HF1 := Lib.hid f1
      have x0 := hx.cell 0
      have x1 := hx.cell 1
      clear h h0 hN ha1 ha2 hb hw1 f1 hx
      go_enter Try.func31, Try.ntmps31
      go_upto_region 1 with fail
      rw [HW1.out, HB.out]
      go_wp2_with fail
      clear x0 x1
      go_loopg [5, 6] N (fun k r5 r6 wr => Hid (∃ (j : Nat), r5 = .int .i64 (j : Nat) ∧ j + k = N ∧ ((l.take j).all fun p => mayP p c) = true ∧ Fr No w1 wr))
      case atStart => exact Lib.hid ⟨0, rfl, by omega, rfl, Fr.refl _ _⟩
      case round =>
      obtain ⟨j, rfl, hjk, hall, hf⟩ := hrel.out
      clear hrel
      have HF := Lib.hid hf
      have x1 := (HX.out.no hf).cell 1
      by_cases hj : j < N
      · have hji : (j : Int) < (N : Int) := by omega
        have hjl : j < l.length := by have := HN.out; omega
        obtain ⟨g1, o1, rfl, -, -, h5⟩ := (HP.out.no (HF1.out.trans hf fun _ _ h => h)).at_ hjl
        have h5 := h5 j hjl
        obtain ⟨p, hp⟩ : ∃ p, l[j] = p := ⟨_, rfl⟩
        rw [hp] at h5
        obtain ⟨c0, c1, c2, c3, c4⟩ := h5
        have hz := neq46 p Pt.zero
        obtain ⟨dz, hdz⟩ : ∃ d, decide (p = Pt.zero) = d := ⟨_, rfl⟩
        rw [hdz] at hz
        obtain ⟨d, hd⟩ : ∃ d, mayP p c = d := ⟨_, rfl⟩
        have HNX : Hid (d = true → ((l.take (j + 1)).all fun p => mayP p c) = true) := Lib.hid fun e => by
          rw [List.take_add_one, List.getElem?_eq_getElem hjl, hp, List.all_append, hall]
          simp [hd, e]
        have HNO : Hid (d = false → (l.all fun p => mayP p c) = false) := Lib.hid fun e => by
          rw [List.all_eq_false]
          exact ⟨l[j], List.getElem_mem _, by rw [hp, hd, e]; decide⟩
        have hc0 := HC0.out
        obtain ⟨pa, ⟨ph, pl⟩, pn, px⟩ := p
        have xa : ∀ A, (wr.alloc A).cell? ⟨b, 0, none⟩ = some (.int .i64 c) := fun A => (HX.out.no (hf.alloc A)).cell 0
        obtain ⟨wa, hwa⟩ : ∃ wa, wr.alloc (.cells #[.bool pa, .int .i64 ph, .int .u64 pl, .int .i64 pn, .int .i64 px] 46) = wa := ⟨_, rfl⟩
        obtain ⟨y, hy⟩ : ∃ y, wr.heap.size = y := ⟨_, rfl⟩
        have hba : Blk wa y 46 #[.bool pa, .int .i64 ph, .int .u64 pl, .int .i64 pn, .int .i64 px] := by rw [← hwa, ← hy]; exact Blk.new wr 46 _
        have xa := xa (.cells #[.bool pa, .int .i64 ph, .int .u64 pl, .int .i64 pn, .int .i64 px] 46)
        rw [hwa] at xa
        obtain ⟨⟨d0, d1, d2, d3, d4⟩, -⟩ := blk5 hba
        have HFA : Hid (Fr No w1 wa) := Lib.hid (by rw [← hwa]; exact hf.alloc _)
        have HWA := Lib.hid hwa
        have HY := Lib.hid hy
        unfold mayP at hd
        cases pa with
        | false =>
          rw [if_neg (by simp), hdz] at hd
          subst hd
          have hz2 : ∀ w, (binOp .neq 46 (.agg #[.bool false, .int .i64 ph, .int .u64 pl, .int .i64 pn, .int .i64 px]) (.agg #[.bool false, .int .i64 0, .int .u64 0, .int .i64 0, .int .i64 0])).run Try.prog w = .ok (.bool (!dz)) w := hz
          clear hz hall hf hp hdz hwa hy hba hc0
          cases dz with
          | true =>
            go_upto_region 7 with fail
            rw [HWA.out, HY.out]
            go_wp2_with fail
            obtain ⟨g1, rfl⟩ : ∃ g1, gk = g1 + 1 := ⟨gk - 1, by omega⟩
            go_roundg g1
            case rel => exact Lib.hid ⟨j + 1, by go_num, by omega, HNX.out (by first | rfl | trivial), HFA.out⟩
            all_goals omega
          | false =>
            go_upto_region 7 with fail
            rw [HWA.out, HY.out]
            go_wp2_with fail
            go_ret
            exact ⟨by rw [HV.out, HNO.out (by first | rfl | trivial)]; rfl, HF1.out.trans HFA.out fun _ _ h => h⟩
        | true =>
          rw [if_pos rfl] at hd
          have hcase : (d = true ∧ ((c == 0) = false) ∧ ((px < pn) = False)) ∨ (d = false ∧ ((c == 0) = true)) ∨ (d = false ∧ ((c == 0) = false) ∧ ((px < pn) = True)) := by
            by_cases h1 : c = 0
            · refine .inr (.inl ⟨?_, by simp [h1]⟩)
              rw [← hd, decide_eq_false (by omega)]; rfl
            · have h2 : (c == 0) = false := by simpa using h1
              by_cases h3 : px < pn
              · refine .inr (.inr ⟨?_, h2, eq_true h3⟩)
                rw [← hd, decide_eq_false (p := pn ≤ px) (by omega), Bool.and_false]
              · refine .inl ⟨?_, h2, eq_false h3⟩
                rw [← hd, decide_eq_true (p := 0 < c) (by omega), decide_eq_true (p := pn ≤ px) (by omega)]; rfl
          clear hz hall hf hp hdz hwa hy hba hc0 hd
          rcases hcase with ⟨rfl, e1, e2⟩ | ⟨rfl, e1⟩ | ⟨rfl, e1, e2⟩
          · go_upto_region 7 with fail
            rw [HWA.out, HY.out]
            go_wp2_with fail
            obtain ⟨g1, rfl⟩ : ∃ g1, gk = g1 + 1 := ⟨gk - 1, by omega⟩
            go_roundg g1
            case rel => exact Lib.hid ⟨j + 1, by go_num, by omega, HNX.out (by first | rfl | trivial), HFA.out⟩
            all_goals omega
          · go_upto_region 7 with fail
            rw [HWA.out, HY.out]
            go_wp2_with fail
            go_ret
            exact ⟨by rw [HV.out, HNO.out (by first | rfl | trivial)]; rfl, HF1.out.trans HFA.out fun _ _ h => h⟩
          · go_upto_region 7 with fail
            rw [HWA.out, HY.out]
            go_wp2_with fail
            go_ret
            exact ⟨by rw [HV.out, HNO.out (by first | rfl | trivial)]; rfl, HF1.out.trans HFA.out fun _ _ h => h⟩
      · have hji : (N : Int) ≤ (j : Int) := by omega
        have HA : Hid ((l.all fun p => mayP p c) = true) := Lib.hid (by rw [List.take_of_length_le (by have := HN.out; omega)] at hall; exact hall)
        clear hall hf
        go_wp2_with fail
        go_ret
        exact ⟨by rw [HV.out, HA.out]; rfl, HF1.out.trans HF.out fun _ _ h => h⟩
    · have HV : Hid (validA ⟨c, l⟩ m = false) := Lib.hid (by unfold validA; simp only; rw [hN, decide_eq_false hm]; simp)
      rw [HV.out]
      clear h h0 hN HV HP
      go_enter Try.func31, Try.ntmps31
      go_wp2_with fail
      go_ret
      exact ⟨rfl, (Fr.refl No w).alloc _⟩
  · have k1 : (c < 0) = True := eq_true (by omega)
    have HV : Hid (validA ⟨c, l⟩ m = false) := Lib.hid (by unfold validA; simp only; rw [decide_eq_false h0]; rfl)
    rw [HV.out]
    clear h h0 hN HV HP
    go_enter Try.func31, Try.ntmps31
    go_wp2_with fail
    go_ret
    exact ⟨rfl, (Fr.refl No w).alloc _⟩
end Go.Proofs.Ytgjpdagbbljmpaa
