/- The document's comparison of two elements. -/
import Derived.Test.YtkcnbmgaeompjaaGreatDoorW3
namespace Go.Proofs.YtkcnbmgaeompjaaGreatDoor
open Go.RowKit Go.Maps
set_option linter.unusedVariables false

set_option maxRecDepth 100000 in
set_option maxHeartbeats 4000000 in
theorem dgroup_any {K K2 : Nat → Prop} (x y : Gp) {a b a2 b2 : Value} (w : World) (hA : RowE K w 1 (strG K w) a x.cols) (hB : RowE K w 1 (lsG K w) b x.sets) (hA2 : RowE K2 w 1 (strG K2 w) a2 y.cols) (hB2 : RowE K2 w 1 (lsG K2 w) b2 y.sets) :
    Calls Tryz.prog 32 #[.agg #[.int .i64 x.kind, a, b], .agg #[.int .i64 y.kind, a2, b2]] w (TellsB (decide (x = y)) w) := by
  obtain ⟨kind, cols, sets⟩ := x
  obtain ⟨kind2, cols2, sets2⟩ := y
  simp only at hA hB hA2 hB2 ⊢
  obtain ⟨A1, n1, c1, rfl⟩ : ∃ A1 n1 c1, a = .slice A1 n1 c1 := by obtain ⟨A1, c1, e, _⟩ := hA; exact ⟨_, _, _, e⟩
  obtain ⟨A2, c2, rfl⟩ : ∃ A2 c2, b = .slice A2 sets.length c2 := by obtain ⟨A2, c2, e, _⟩ := hB; exact ⟨_, _, e⟩
  obtain ⟨A3, n3, c3, rfl⟩ : ∃ A1 n1 c1, a2 = .slice A1 n1 c1 := by obtain ⟨A1, c1, e, _⟩ := hA2; exact ⟨_, _, _, e⟩
  obtain ⟨A4, c4, rfl⟩ : ∃ A2 c2, b2 = .slice A2 sets2.length c2 := by obtain ⟨A2, c2, e, _⟩ := hB2; exact ⟨_, _, e⟩
  obtain ⟨w1, hw1⟩ : ∃ w1, w.alloc (.cells #[.int .i64 kind, .slice A1 n1 c1, .slice A2 sets.length c2] 66) = w1 := ⟨_, rfl⟩
  obtain ⟨z, hz⟩ : ∃ z, w.heap.size = z := ⟨_, rfl⟩
  have f1 : Fr No w w1 := by rw [← hw1]; exact (Fr.refl No w).alloc _
  have hb1 : Blk w1 z 66 #[.int .i64 kind, .slice A1 n1 c1, .slice A2 sets.length c2] := by rw [← hw1, ← hz]; exact Blk.new w 66 _
  have hs1 : w1.heap.size = z + 1 := by rw [← hw1, ← hz]; simp
  obtain ⟨w2, hw2⟩ : ∃ w2, w1.alloc (.cells #[.int .i64 kind2, .slice A3 n3 c3, .slice A4 sets2.length c4] 66) = w2 := ⟨_, rfl⟩
  have f2 : Fr No w1 w2 := by rw [← hw2]; exact (Fr.refl No w1).alloc _
  have hb2 : Blk w2 (z + 1) 66 #[.int .i64 kind2, .slice A3 n3 c3, .slice A4 sets2.length c4] := by rw [← hw2, ← hs1]; exact Blk.new w1 66 _
  have hb12 := hb1.of (f2.block z hb1.lt id)
  have f12 := f1.trans f2 fun _ _ h => h
  have H12 := Lib.hid f12
  have HC1 := Lib.hid (rnames_any w2 (hA.at_ strG_elem f12) (hA2.at_ strG_elem f12))
  have hB3 := hB.at_ lsG_elem f12
  have hB4 := hB2.at_ lsG_elem f12
  have HW1 := Lib.hid hw1
  have HW2 := Lib.hid hw2
  have HZ := Lib.hid hz
  have HEND : Hid (∀ (bb : Bool) e q, decide ((⟨kind, cols, sets⟩ : Gp) = ⟨kind2, cols2, sets2⟩) = bb → e = .returned (.bool bb) → TellsB (decide ((⟨kind, cols, sets⟩ : Gp) = ⟨kind2, cols2, sets2⟩)) w e (w2.drewN q)) := Lib.hid fun bb e q h1 h2 => ⟨by rw [h2, h1], f12.drewN q⟩
  have s0 : w2.cell? ⟨z, 0, none⟩ = some (.int .i64 kind) := hb12.cell 0
  have s1 : w2.cell? ⟨z, 1, none⟩ = some (.slice A1 n1 c1) := hb12.cell 1
  have s2 : w2.cell? ⟨z, 2, none⟩ = some (.slice A2 sets.length c2) := hb12.cell 2
  have t0 : w2.cell? ⟨z + 1, 0, none⟩ = some (.int .i64 kind2) := hb2.cell 0
  have t1 : w2.cell? ⟨z + 1, 1, none⟩ = some (.slice A3 n3 c3) := hb2.cell 1
  have t2 : w2.cell? ⟨z + 1, 2, none⟩ = some (.slice A4 sets2.length c4) := hb2.cell 2
  clear hw1 hz f1 hb1 hs1 hw2 f2 hb2 hb12 f12 hA hB hA2 hB2
  obtain ⟨A, c, eA, hlc, hcm, hrow⟩ := hB3
  obtain ⟨A', c', eA2, hlc2, hcm2, hrow2⟩ := hB4
  injection eA with eA ea2 ea3
  injection eA2 with eB eb2 eb3
  subst eA ea3 eB eb3
  have HROW := Lib.hid hrow
  have HROW2 := Lib.hid hrow2
  unfold maxLen at hcm hcm2
  clear hrow hrow2 ea2 eb2
  go_enter Tryz.func32, Tryz.ntmps32
  go_upto_region 1 with fail
  rw [HZ.out, HW1.out, HW2.out]
  go_wp2_with fail
  refine HC1.out.mono ?_
  rintro e w3 ⟨rfl, qa, rfl⟩
  clear HC1
  by_cases hc : cols = cols2
  · rw [decide_eq_true hc]
    by_cases hk : kind = kind2
    · have hk' : (kind != kind2) = false := by simpa using hk
      by_cases hlm : sets.length = sets2.length
      · have hl' : ((sets.length : Int) != (sets2.length : Int)) = false := by simp; omega
        have HD : Hid (decide ((⟨kind, cols, sets⟩ : Gp) = ⟨kind2, cols2, sets2⟩) = decide (sets = sets2)) := Lib.hid (by rw [hc, hk]; exact decide_eq_decide.2 (by simp))
        obtain ⟨n, hn⟩ : ∃ n, sets.length = n := ⟨_, rfl⟩
        have hn2 : sets2.length = n := by omega
        rw [hn] at hlc s2 hl'
        rw [hn2] at hlc2 t2 hl'
        have HN := Lib.hid hn
        have HN2 := Lib.hid hn2
        clear hc hk hlm hn hn2
        go_wp2_with fail
        go_loopg [6, 7] n (fun k r6 r7 wr => Hid (∃ j : Nat, r6 = .int .i64 (j : Nat) ∧ j + k = n ∧ (∃ q, wr = w2.drewN q) ∧ sets.take j = sets2.take j))
        case atStart => exact Lib.hid ⟨0, rfl, by omega, ⟨_, rfl⟩, rfl⟩
        case round =>
          obtain ⟨j, rfl, hjn, ⟨qq, rfl⟩, hall⟩ := hrel.out
          have HALL := Lib.hid hall
          clear hrel hall
          by_cases hj : j < n
          · have hji : (j : Int) < (n : Int) := by omega
            have hjl : j < sets.length := by rw [HN.out]; exact hj
            have hjm : j < sets2.length := by rw [HN2.out]; exact hj
            obtain ⟨g, off, rfl, hK, hg, hel⟩ := HROW.out (by omega)
            obtain ⟨g2, off2, rfl, hK2, hg2, hel2⟩ := HROW2.out (by omega)
            obtain ⟨cs, hcl, hcs, hE⟩ := hel j hjl
            obtain ⟨cs2, hcl2, hcs2, hE2⟩ := hel2 j hjm
            obtain ⟨x, hx⟩ : ∃ x, sets[j] = x := ⟨_, rfl⟩
            obtain ⟨y, hy⟩ : ∃ y, sets2[j] = y := ⟨_, rfl⟩
            have HX := Lib.hid hx
            have HY := Lib.hid hy
            rw [hx] at hE
            rw [hy] at hE2
            obtain ⟨v1, hEx, _, hR1⟩ := hE
            obtain ⟨v2, hEy, _, hR2⟩ := hE2
            obtain ⟨B1, m1, d1, rfl⟩ : ∃ A1 n1 d1, v1 = .slice A1 n1 d1 := by obtain ⟨A, c, e, _⟩ := hR1; exact ⟨_, _, _, e⟩
            obtain ⟨B3, m3, d3, rfl⟩ : ∃ A3 n3 d3, v2 = .slice A3 n3 d3 := by obtain ⟨A, c, e, _⟩ := hR2; exact ⟨_, _, _, e⟩
            have p0 : w2.cell? ⟨g, off + j, none⟩ = some (.slice B1 m1 d1) := (by have := hcs 0 (by decide); rw [hEx] at this; simpa using this)
            have q0 : w2.cell? ⟨g2, off2 + j, none⟩ = some (.slice B3 m3 d3) := (by have := hcs2 0 (by decide); rw [hEy] at this; simpa using this)
            obtain ⟨wr, hwr⟩ : ∃ wr, w2.drewN qq = wr := ⟨_, rfl⟩
            have HC : ∀ q', Hid (Calls Tryz.prog 80 #[.slice B1 m1 d1, .slice B3 m3 d3] (wr.drewN q') fun e w'' => e = .returned (.bool (decide (x = y))) ∧ ∃ m, w'' = wr.drewN m) := fun q' => Lib.hid ((rnames_any (wr.drewN q') (by rw [← hwr, World.drewN_drewN]; exact hR1.drewN strG_elem _) (by rw [← hwr, World.drewN_drewN]; exact hR2.drewN strG_elem _)).mono fun e w'' ⟨h1, m, h2⟩ => ⟨h1, q' + m, by rw [h2, World.drewN_drewN]⟩)
            have p1 : wr.cell? ⟨g, off + j, none⟩ = some (.slice B1 m1 d1) := by rw [← hwr]; exact p0
            have q1 : wr.cell? ⟨g2, off2 + j, none⟩ = some (.slice B3 m3 d3) := by rw [← hwr]; exact q0
            have s2' : wr.cell? ⟨z, 2, none⟩ = some (.slice (some ⟨g, off, none⟩) n c2) := by rw [← hwr]; exact s2
            have t2' : wr.cell? ⟨z + 1, 2, none⟩ = some (.slice (some ⟨g2, off2, none⟩) n c4) := by rw [← hwr]; exact t2
            have HWR := Lib.hid hwr
            rw [hwr]
            clear hcs hcl hel hK hEx hcs2 hcl2 hel2 hK2 hEy hx hy hR1 hR2 p0 q0 hwr
            by_cases hxy : x = y
            · rw [decide_eq_true hxy] at HC
              have HT : Hid (sets.take (j + 1) = sets2.take (j + 1)) := Lib.hid (take_eq hjl hjm HALL.out (by rw [HX.out, HY.out]; exact hxy))
              clear hxy
              go_upto_region 7 with fail
              go_quiet ((go_at_call 80; exact (HC _).out))
              all_goals
                go_wp2_with fail
                obtain ⟨g1, rfl⟩ : ∃ g1, gk = g1 + 1 := ⟨gk - 1, by omega⟩
                go_roundg g1
                case rel => exact Lib.hid ⟨j + 1, by go_num, by omega, ⟨_, by rw [← HWR.out, World.drewN_drewN]⟩, HT.out⟩
                all_goals omega
            · rw [decide_eq_false hxy] at HC
              have HT : Hid (decide (sets = sets2) = false) := Lib.hid (decide_eq_false (nth_ne hjl hjm (by rw [HX.out, HY.out]; exact hxy)))
              clear hxy
              go_upto_region 7 with fail
              go_quiet ((go_at_call 80; exact (HC _).out))
              all_goals
                go_wp2_with fail
                go_ret
                rw [← HWR.out, World.drewN_drewN]
                exact HEND.out _ _ _ (HD.out.trans HT.out) rfl
          · have hji : (n : Int) ≤ (j : Int) := by omega
            have HT : Hid (decide (sets = sets2) = true) := Lib.hid (decide_eq_true (by have := HALL.out; rwa [List.take_of_length_le (by rw [HN.out]; omega), List.take_of_length_le (by rw [HN2.out]; omega)] at this))
            go_wp2_with fail
            go_ret
            exact HEND.out _ _ _ (HD.out.trans HT.out) rfl
      · have hl' : ((sets.length : Int) != (sets2.length : Int)) = true := by simp; omega
        have HD : Hid (decide ((⟨kind, cols, sets⟩ : Gp) = ⟨kind2, cols2, sets2⟩) = false) := Lib.hid (decide_eq_false (by intro e; injection e with _ _ e; exact hlm (by rw [e])))
        clear hlm hc hk
        go_wp2_with fail
        go_ret
        exact HEND.out _ _ _ HD.out rfl
    · have hk' : (kind != kind2) = true := by simpa using hk
      have HD : Hid (decide ((⟨kind, cols, sets⟩ : Gp) = ⟨kind2, cols2, sets2⟩) = false) := Lib.hid (decide_eq_false (by intro e; injection e with e; exact hk e))
      clear hk hc
      go_wp2_with fail
      go_ret
      exact HEND.out _ _ _ HD.out rfl
  · have HD : Hid (decide ((⟨kind, cols, sets⟩ : Gp) = ⟨kind2, cols2, sets2⟩) = false) := Lib.hid (decide_eq_false (by intro e; injection e with _ e _; exact hc e))
    rw [decide_eq_false hc]
    clear hc
    go_wp2_with fail
    go_ret
    exact HEND.out _ _ _ HD.out rfl
end Go.Proofs.YtkcnbmgaeompjaaGreatDoor
