/- The document's comparison of two queries. -/
import Derived.Test.YtkcnbmgaeompjaaGreatDoorW5D
namespace Go.Proofs.YtkcnbmgaeompjaaGreatDoor
open Go.RowKit Go.Maps
set_option linter.unusedVariables false

set_option maxRecDepth 100000 in
set_option maxHeartbeats 16000000 in
theorem dsame_any {d : Nat} (hd : 4096 ≤ d) {K K2 : Nat → Prop} (q q2 : Qy) {v v2 : Value} (w : World) (h : QyTo d K w q v) (h2 : QyTo d K2 w q2 v2) : Calls Tryz.prog 15 #[v, v2] w (TellsB (sameQ q q2) w) := by
  obtain ⟨A1, c1, px, A2, c2, rfl, hv, hc⟩ := h.qv
  obtain ⟨B1, d1, px2, B2, d2, rfl, hv2, hc2⟩ := h2.qv
  clear h h2
  unfold qyV
  obtain ⟨tb, grp, cond, items, groups⟩ : Tx × Bool × Cd × List It × List Gp := ⟨q.table, q.grouped, q.cond, q.items, q.groups⟩
  obtain ⟨w1, hw1⟩ : ∃ w1, w.alloc (.cells #[.slice A1 q.items.length c1, sv q.table, .pointer px, .bool q.grouped, .slice A2 q.groups.length c2] 27) = w1 := ⟨_, rfl⟩
  obtain ⟨z, hz⟩ : ∃ z, w.heap.size = z := ⟨_, rfl⟩
  have f1 : Fr No w w1 := by rw [← hw1]; exact (Fr.refl No w).alloc _
  have hb1 : Blk w1 z 27 #[.slice A1 q.items.length c1, sv q.table, .pointer px, .bool q.grouped, .slice A2 q.groups.length c2] := by rw [← hw1, ← hz]; exact Blk.new w 27 _
  have hs1 : w1.heap.size = z + 1 := by rw [← hw1, ← hz]; simp
  obtain ⟨w2, hw2⟩ : ∃ w2, w1.alloc (.cells #[.slice B1 q2.items.length d1, sv q2.table, .pointer px2, .bool q2.grouped, .slice B2 q2.groups.length d2] 27) = w2 := ⟨_, rfl⟩
  have f2 : Fr No w1 w2 := by rw [← hw2]; exact (Fr.refl No w1).alloc _
  have hb2 : Blk w2 (z + 1) 27 #[.slice B1 q2.items.length d1, sv q2.table, .pointer px2, .bool q2.grouped, .slice B2 q2.groups.length d2] := by rw [← hw2, ← hs1]; exact Blk.new w1 27 _
  have hs2 : w2.heap.size = z + 2 := by rw [← hw2]; simp [hs1]
  have f12 := f1.trans f2 fun _ _ h => h
  have hb12 := hb1.of (f2.block z hb1.lt id)
  have HAT : Hid (∀ w', Fr No w2 w' → Fr No w w' ∧ Blk w' z 27 #[.slice A1 q.items.length c1, sv q.table, .pointer px, .bool q.grouped, .slice A2 q.groups.length c2] ∧ Blk w' (z + 1) 27 #[.slice B1 q2.items.length d1, sv q2.table, .pointer px2, .bool q2.grouped, .slice B2 q2.groups.length d2] ∧ CdTo (fun k => K k ∧ k < z) w' d q.cond (.pointer px) ∧ CdTo (fun k => K2 k ∧ k < z) w' d q2.cond (.pointer px2) ∧ z + 2 ≤ w'.heap.size) := Lib.hid fun w' f' => by
    have fw := f12.trans f' fun _ _ h => h
    exact ⟨fw, hb12.of (f'.block z hb12.lt id), hb2.of (f'.block _ hb2.lt id), hc.mono fun k hk hkl => ⟨⟨hk, by omega⟩, fw.block k hkl id⟩, hc2.mono fun k hk hkl => ⟨⟨hk, by omega⟩, fw.block k hkl id⟩, by have := f'.size; omega⟩
  obtain ⟨Ai, ci, ei, hlc, hcm, hrow⟩ := hv.items.at_ itG_elem f12
  obtain ⟨Aj, cj, ej, hlc2, hcm2, hrow2⟩ := hv2.items.at_ itG_elem f12
  obtain ⟨Ag, cg, eg, hgc, hgm, hgrow⟩ := hv.groups.at_ gpG_elem f12
  obtain ⟨Ah, ch, eh, hgc2, hgm2, hgrow2⟩ := hv2.groups.at_ gpG_elem f12
  injection ei with e1 _ e3; subst e1 e3
  injection ej with e1 _ e3; subst e1 e3
  injection eg with e1 _ e3; subst e1 e3
  injection eh with e1 _ e3; subst e1 e3
  have HROW := Lib.hid hrow
  have HROW2 := Lib.hid hrow2
  have HGR := Lib.hid hgrow
  have HGR2 := Lib.hid hgrow2
  have s0 : w2.cell? ⟨z, 0, none⟩ = some (.slice A1 q.items.length c1) := hb12.cell 0
  have s1 : w2.cell? ⟨z, 1, none⟩ = some (sv q.table) := hb12.cell 1
  have s3 : w2.cell? ⟨z, 3, none⟩ = some (.bool q.grouped) := hb12.cell 3
  have s4 : w2.cell? ⟨z, 4, none⟩ = some (.slice A2 q.groups.length c2) := hb12.cell 4
  have t0 : w2.cell? ⟨z + 1, 0, none⟩ = some (.slice B1 q2.items.length d1) := hb2.cell 0
  have t1 : w2.cell? ⟨z + 1, 1, none⟩ = some (sv q2.table) := hb2.cell 1
  have t3 : w2.cell? ⟨z + 1, 3, none⟩ = some (.bool q2.grouped) := hb2.cell 3
  have t4 : w2.cell? ⟨z + 1, 4, none⟩ = some (.slice B2 q2.groups.length d2) := hb2.cell 4
  have HEND : Hid (∀ (bb : Bool) e w', sameQ q q2 = bb → e = .returned (.bool bb) → Fr No w w' → TellsB (sameQ q q2) w e w') := Lib.hid fun bb e w2 h1 h2 h3 => ⟨by rw [h2, h1], h3⟩
  have HW1 := Lib.hid hw1
  have HW2 := Lib.hid hw2
  have HZ := Lib.hid hz
  have H12 := Lib.hid f12
  have HSQ : Hid (sameQ q q2 = (decide (q.table = q2.table) && q.grouped == q2.grouped && decide (q.items = q2.items) && decide (q.groups = q2.groups) && (sameC q.cond q2.cond 4096).isSome)) := Lib.hid rfl
  unfold maxLen at hcm hcm2 hgm hgm2
  clear hw1 hz f1 hb1 hs1 hw2 f2 hb2 hs2 hb12 f12 hv hv2 hc hc2 hrow hrow2 hgrow hgrow2 tb grp cond items groups
  obtain ⟨t, ht⟩ : ∃ x, q.table = x := ⟨_, rfl⟩
  obtain ⟨t', ht'⟩ : ∃ x, q2.table = x := ⟨_, rfl⟩
  obtain ⟨gr, hgr⟩ : ∃ x, q.grouped = x := ⟨_, rfl⟩
  obtain ⟨gr', hgr'⟩ : ∃ x, q2.grouped = x := ⟨_, rfl⟩
  obtain ⟨is, his⟩ : ∃ x, q.items = x := ⟨_, rfl⟩
  obtain ⟨is', his'⟩ : ∃ x, q2.items = x := ⟨_, rfl⟩
  obtain ⟨gs, hgs⟩ : ∃ x, q.groups = x := ⟨_, rfl⟩
  obtain ⟨gs', hgs'⟩ : ∃ x, q2.groups = x := ⟨_, rfl⟩
  rw [ht] at s1 HSQ HW1 HAT ⊢
  rw [ht'] at t1 HSQ HW2 HAT ⊢
  rw [hgr] at s3 HSQ HW1 HAT ⊢
  rw [hgr'] at t3 HSQ HW2 HAT ⊢
  rw [his] at s0 HSQ HROW hlc HW1 HAT ⊢
  rw [his'] at t0 HSQ HROW2 hlc2 HW2 HAT ⊢
  rw [hgs] at s4 HSQ HGR hgc HW1 HAT ⊢
  rw [hgs'] at t4 HSQ HGR2 hgc2 HW2 HAT ⊢
  clear ht ht' hgr hgr' his his' hgs hgs'
  go_enter Tryz.func15, Tryz.ntmps15
  go_upto_region 1 with fail
  rw [HZ.out, HW1.out, HW2.out]
  by_cases ht : t = t'
  · subst ht
    by_cases hg : gr = gr'
    · subst hg
      by_cases hi : is.length = is'.length
      · by_cases hgl : gs.length = gs'.length
        · obtain ⟨n, hn⟩ : ∃ n, is.length = n := ⟨_, rfl⟩
          have hn2 : is'.length = n := by omega
          obtain ⟨m, hm⟩ : ∃ n, gs.length = n := ⟨_, rfl⟩
          have hm2 : gs'.length = m := by omega
          rw [hn] at hlc s0
          rw [hn2] at hlc2 t0
          rw [hm] at hgc s4
          rw [hm2] at hgc2 t4
          have HN := Lib.hid hn
          have HN2 := Lib.hid hn2
          have HM := Lib.hid hm
          have HM2 := Lib.hid hm2
          clear hi hgl hn hn2 hm hm2
          go_wp2_with fail
          go_loopg [5] n (fun k r5 wr => Hid (∃ j : Nat, r5 = .int .i64 (j : Nat) ∧ j + k = n ∧ (∃ q, wr = w2.drewN q) ∧ is.take j = is'.take j))
          case atStart => exact Lib.hid ⟨0, rfl, by omega, ⟨0, rfl⟩, rfl⟩
          case round =>
            obtain ⟨j, rfl, hjn, ⟨qq, rfl⟩, hall⟩ := hrel.out
            have HALL := Lib.hid hall
            clear hrel hall
            by_cases hj : j < n
            · have hji : (j : Int) < (n : Int) := by omega
              have hjl : j < is.length := by rw [HN.out]; exact hj
              have hjm : j < is'.length := by rw [HN2.out]; exact hj
              obtain ⟨ga, off, rfl, hKa, hga, hel⟩ := HROW.out (by omega)
              obtain ⟨gb, off2, rfl, hKc, hgc', hel2⟩ := HROW2.out (by omega)
              obtain ⟨cs, hcl, hcs, hE⟩ := hel j hjl
              obtain ⟨cs2, hcl2, hcs2, hE2⟩ := hel2 j hjm
              obtain ⟨x, hx⟩ : ∃ x, is[j] = x := ⟨_, rfl⟩
              obtain ⟨y, hy⟩ : ∃ y, is'[j] = y := ⟨_, rfl⟩
              have HX := Lib.hid hx
              have HY := Lib.hid hy
              rw [hx] at hE
              rw [hy] at hE2
              have hE := hE.1
              have hE2 := hE2.1
              have p0 : w2.cell? ⟨ga, off + j * 2, none⟩ = some (.int .i64 x.kind) := by have := hcs 0 (by decide); rw [hE] at this; simpa using this
              have p1 : w2.cell? ⟨ga, off + j * 2 + 1, none⟩ = some (sv x.col) := by have := hcs 1 (by decide); rw [hE] at this; simpa using this
              have q0 : w2.cell? ⟨gb, off2 + j * 2, none⟩ = some (.int .i64 y.kind) := by have := hcs2 0 (by decide); rw [hE2] at this; simpa using this
              have q1 : w2.cell? ⟨gb, off2 + j * 2 + 1, none⟩ = some (sv y.col) := by have := hcs2 1 (by decide); rw [hE2] at this; simpa using this
              have hgd := guard_it
              clear hcs hcl hel hKa hE hcs2 hcl2 hel2 hKc hE2 hx hy
              by_cases hxy : x = y
              · have hne : ∀ w, (binOp .neq 45 (.agg #[.int .i64 x.kind, sv x.col]) (.agg #[.int .i64 y.kind, sv y.col])).run Tryz.prog w = .ok (.bool false) w := fun w => by rw [neq_it x y, decide_eq_false (by simpa using hxy)]
                have HT : Hid (is.take (j + 1) = is'.take (j + 1)) := Lib.hid (take_eq hjl hjm HALL.out (by rw [HX.out, HY.out]; exact hxy))
                clear hxy
                go_upto_region 6 with fail
                go_quiet (fail)
                all_goals
                  go_wp2_with fail
                  obtain ⟨g1, rfl⟩ : ∃ g1, gk = g1 + 1 := ⟨gk - 1, by omega⟩
                  go_roundg g1
                  case rel => exact Lib.hid ⟨j + 1, by go_num, by omega, ⟨_, by first | rfl | rw [World.drewN_drewN]⟩, HT.out⟩
                  all_goals omega
              · have hne : ∀ w, (binOp .neq 45 (.agg #[.int .i64 x.kind, sv x.col]) (.agg #[.int .i64 y.kind, sv y.col])).run Tryz.prog w = .ok (.bool true) w := fun w => by rw [neq_it x y, decide_eq_true (by simpa using hxy)]
                have HT : Hid (decide (is = is') = false) := Lib.hid (decide_eq_false (nth_ne hjl hjm (by rw [HX.out, HY.out]; exact hxy)))
                clear hxy
                go_upto_region 6 with fail
                go_quiet (fail)
                all_goals
                  go_wp2_with fail
                  go_ret
                  exact HEND.out false _ _ (by rw [HSQ.out, HT.out]; simp) rfl ((H12.out.drewN _).drewN _)
            · have hji : (n : Int) ≤ (j : Int) := by omega
              have HT : Hid (decide (is = is') = true) := Lib.hid (decide_eq_true (by have := HALL.out; rwa [List.take_of_length_le (by rw [HN.out]; omega), List.take_of_length_le (by rw [HN2.out]; omega)] at this))
              have hg0 : gk = 0 := by omega
              subst hg0
              clear HROW HROW2 t0 s1 t1 s3 t3 hjn HALL
              obtain ⟨wo, hwo⟩ : ∃ wo, w2.drewN qq = wo := ⟨_, rfl⟩
              have HWO : Hid (Fr No w2 wo) := Lib.hid (by rw [← hwo]; exact (Fr.refl No w2).drewN _)
              have HCL : Hid (∀ wr, Fr No w2 wr → wr.cell? ⟨z, 4, none⟩ = some (.slice A2 m c2) ∧ wr.cell? ⟨z + 1, 4, none⟩ = some (.slice B2 m d2) ∧ wr.cell? ⟨z, 2, none⟩ = some (.pointer px) ∧ wr.cell? ⟨z + 1, 2, none⟩ = some (.pointer px2)) := Lib.hid fun wr f' => by
                obtain ⟨_, h1, h2, _, _, _⟩ := HAT.out wr f'
                rw [HM.out] at h1
                rw [HM2.out] at h2
                exact ⟨h1.cell 4, h2.cell 4, h1.cell 2, h2.cell 2⟩
              obtain ⟨s4', t4', -, -⟩ := HCL.out wo HWO.out
              have s0' : wo.cell? ⟨z, 0, none⟩ = some (.slice A1 n c1) := by rw [← hwo]; exact s0
              rw [hwo]
              clear hwo s4 t4 s0
              go_wp2_with fail
              go_loopg [6, 7] m (fun k r6 r7 wr => Hid (∃ j : Nat, r6 = .int .i64 (j : Nat) ∧ j + k = m ∧ Fr No w2 wr ∧ gs.take j = gs'.take j))
              case atStart => exact Lib.hid ⟨0, rfl, by omega, HWO.out, rfl⟩
              case round =>
                clear s4' t4' s0'
                obtain ⟨i, rfl, hin, hf, hall⟩ := hrel.out
                have HALL := Lib.hid hall
                obtain ⟨s4, t4, s2, t2⟩ := HCL.out _ hf
                clear hrel hall
                by_cases hjm0 : i < m
                · have hji : (i : Int) < (m : Int) := by omega
                  have hjl : i < gs.length := by rw [HM.out]; exact hjm0
                  have hjm : i < gs'.length := by rw [HM2.out]; exact hjm0
                  obtain ⟨ga, off, rfl, hKa, hga, hel⟩ := HGR.out (by omega)
                  obtain ⟨gb, off2, rfl, hKc, hgc', hel2⟩ := HGR2.out (by omega)
                  obtain ⟨cs, hcl, hcs, hE⟩ := hel i hjl
                  obtain ⟨cs2, hcl2, hcs2, hE2⟩ := hel2 i hjm
                  obtain ⟨x, hx⟩ : ∃ x, gs[i] = x := ⟨_, rfl⟩
                  obtain ⟨y, hy⟩ : ∃ y, gs'[i] = y := ⟨_, rfl⟩
                  have HX := Lib.hid hx
                  have HY := Lib.hid hy
                  rw [hx] at hE
                  rw [hy] at hE2
                  obtain ⟨u1, v1, hEx, _, hR1, hS1⟩ := hE
                  obtain ⟨u2, v2, hEy, _, hR2, hS2⟩ := hE2
                  obtain ⟨E1, n1, x1, rfl⟩ : ∃ A1 n1 d1, u1 = .slice A1 n1 d1 := by obtain ⟨A, c, e, _⟩ := hR1; exact ⟨_, _, _, e⟩
                  obtain ⟨E2, m1, x2, rfl⟩ : ∃ A1 n1 d1, v1 = .slice A1 n1 d1 := by obtain ⟨A, c, e, _⟩ := hS1; exact ⟨_, _, _, e⟩
                  obtain ⟨E3, n3, x3, rfl⟩ : ∃ A3 n3 d3, u2 = .slice A3 n3 d3 := by obtain ⟨A, c, e, _⟩ := hR2; exact ⟨_, _, _, e⟩
                  obtain ⟨E4, m2, x4, rfl⟩ : ∃ A2 n2 d2, v2 = .slice A2 n2 d2 := by obtain ⟨A, c, e, _⟩ := hS2; exact ⟨_, _, _, e⟩
                  have p0 : wr.cell? ⟨ga, off + i * 3, none⟩ = some (.int .i64 x.kind) := (cell_of_heap (hf.block ga hga id)).trans (by have := hcs 0 (by decide); rw [hEx] at this; simpa using this)
                  have p1 : wr.cell? ⟨ga, off + i * 3 + 1, none⟩ = some (.slice E1 n1 x1) := (cell_of_heap (hf.block ga hga id)).trans (by have := hcs 1 (by decide); rw [hEx] at this; simpa using this)
                  have p2 : wr.cell? ⟨ga, off + i * 3 + 2, none⟩ = some (.slice E2 m1 x2) := (cell_of_heap (hf.block ga hga id)).trans (by have := hcs 2 (by decide); rw [hEx] at this; simpa using this)
                  have q0 : wr.cell? ⟨gb, off2 + i * 3, none⟩ = some (.int .i64 y.kind) := (cell_of_heap (hf.block gb hgc' id)).trans (by have := hcs2 0 (by decide); rw [hEy] at this; simpa using this)
                  have q1 : wr.cell? ⟨gb, off2 + i * 3 + 1, none⟩ = some (.slice E3 n3 x3) := (cell_of_heap (hf.block gb hgc' id)).trans (by have := hcs2 1 (by decide); rw [hEy] at this; simpa using this)
                  have q2 : wr.cell? ⟨gb, off2 + i * 3 + 2, none⟩ = some (.slice E4 m2 x4) := (cell_of_heap (hf.block gb hgc' id)).trans (by have := hcs2 2 (by decide); rw [hEy] at this; simpa using this)
                  have HF := Lib.hid hf
                  have HC := Lib.hid (dgroup_any x y wr.drew (hR1.at_ strG_elem hf.drew) (hS1.at_ lsG_elem hf.drew) (hR2.at_ strG_elem hf.drew) (hS2.at_ lsG_elem hf.drew))
                  clear hcs hcl hel hKa hEx hcs2 hcl2 hel2 hKc hEy hx hy hR1 hS1 hR2 hS2 hf s2 t2
                  by_cases hxy : x = y
                  · rw [decide_eq_true hxy] at HC
                    have HT : Hid (gs.take (i + 1) = gs'.take (i + 1)) := Lib.hid (take_eq hjl hjm HALL.out (by rw [HX.out, HY.out]; exact hxy))
                    clear hxy
                    go_upto_region 11 with fail
                    go_region_with (go_at_call 32; (with_reducible refine HC.out.mono ?_); rintro e w5 ⟨rfl, f5⟩; have HF5 := Lib.hid (HF.out.drew.trans f5 fun _ _ h => h); clear f5)
                    all_goals
                      go_wp2_with fail
                      obtain ⟨g1, rfl⟩ : ∃ g1, gk = g1 + 1 := ⟨gk - 1, by omega⟩
                      go_roundg g1
                      case rel => exact Lib.hid ⟨i + 1, by go_num, by omega, HF5.out, HT.out⟩
                      all_goals omega
                  · rw [decide_eq_false hxy] at HC
                    have HT : Hid (decide (gs = gs') = false) := Lib.hid (decide_eq_false (nth_ne hjl hjm (by rw [HX.out, HY.out]; exact hxy)))
                    clear hxy
                    go_upto_region 11 with fail
                    go_region_with (go_at_call 32; (with_reducible refine HC.out.mono ?_); rintro e w5 ⟨rfl, f5⟩; have HF5 := Lib.hid (HF.out.drew.trans f5 fun _ _ h => h); clear f5)
                    all_goals
                      go_wp2_with fail
                      go_ret
                      exact HEND.out false _ _ (by rw [HSQ.out, HT.out]; simp) rfl (H12.out.trans HF5.out fun _ _ h => h)
                · have hji : (m : Int) ≤ (i : Int) := by omega
                  have HT2 : Hid (decide (gs = gs') = true) := Lib.hid (decide_eq_true (by have := HALL.out; rwa [List.take_of_length_le (by rw [HM.out]; omega), List.take_of_length_le (by rw [HM2.out]; omega)] at this))
                  obtain ⟨wp, hwp⟩ : ∃ x, wr.alloc (.cells #[.int .i64 4096] 70) = x := ⟨_, rfl⟩
                  obtain ⟨y, hy⟩ : ∃ y, wr.heap.size = y := ⟨_, rfl⟩
                  have fp : Fr No wr wp := by rw [← hwp]; exact (Fr.refl No wr).alloc _
                  have bp : Blk wp y 70 #[.int .i64 4096] := by rw [← hwp, ← hy]; exact Blk.new wr 70 _
                  have hyz : z + 2 ≤ y := by have := (HAT.out wr hf).2.2.2.2.2; omega
                  obtain ⟨hF, -, -, hc1, hc2, -⟩ := HAT.out wp (hf.trans fp fun _ _ h => h)
                  have HC := Lib.hid (dcond_any (fun k => K k ∧ k < z) (fun k => K2 k ∧ k < z) y (fun k hk => by omega) (fun k hk => by omega) d q.cond q2.cond _ _ wp 4096 hd hc1 hc2 bp (by omega))
                  have HF := Lib.hid hF
                  have HWP := Lib.hid hwp
                  have HY := Lib.hid hy
                  have HYZ := Lib.hid hyz
                  clear hf fp bp hyz hF hc1 hc2 hwp hy
                  go_wp2_with fail
                  rw [HY.out, HWP.out]
                  refine HC.out.mono ?_
                  rintro e w7 ⟨rfl, f7, -⟩
                  have HF7 : Hid (Fr No w w7) := Lib.hid ((HF.out.any.trans f7 fun _ _ h => h).notnew fun k hk => by have := HZ.out; have := HYZ.out; rw [show k = y from hk]; omega)
                  clear f7
                  go_wp2_with fail
                  go_ret
                  exact HEND.out _ _ _ (by rw [HSQ.out, HT.out, HT2.out]; simp) rfl HF7.out
        · have hl' : ((gs.length : Int) != (gs'.length : Int)) = true := by simp; omega
          have HD : Hid (decide (gs = gs') = false) := Lib.hid (decide_eq_false fun e => hgl (by rw [e]))
          have hi' : ((is.length : Int) != (is'.length : Int)) = false := by simp; omega
          clear hgl hi
          go_wp2_with fail
          go_ret
          exact HEND.out false _ _ (by rw [HSQ.out, HD.out]; simp) rfl H12.out
      · have hl' : ((is.length : Int) != (is'.length : Int)) = true := by simp; omega
        have HD : Hid (decide (is = is') = false) := Lib.hid (decide_eq_false fun e => hi (by rw [e]))
        clear hi
        go_wp2_with fail
        go_ret
        exact HEND.out false _ _ (by rw [HSQ.out, HD.out]; simp) rfl H12.out
    · have hg' : (gr != gr') = true := by simpa using hg
      have HD : Hid ((gr == gr') = false) := Lib.hid (by simpa using hg)
      have hne : ∀ w, (binOp .neq 4 (.bool gr) (.bool gr')).run Tryz.prog w = .ok (.bool true) w := fun w => by
        cases gr <;> cases gr' <;> first | (exact absurd rfl hg) | rfl
      clear hg
      go_wp2_with fail
      go_ret
      exact HEND.out false _ _ (by rw [HSQ.out, HD.out]; simp) rfl H12.out
  · have hne : ∀ w, (binOp .neq 9 (sv t) (sv t')).run Tryz.prog w = .ok (.bool true) w := fun w => by rw [neq_str t t', decide_eq_true (by simpa using ht)]
    have HD : Hid (decide (t = t') = false) := Lib.hid (decide_eq_false ht)
    have hbe : (t == t') = false := by simpa using ht
    clear ht
    go_wp2_with fail
    go_ret
    exact HEND.out false _ _ (by rw [HSQ.out, HD.out]; simp) rfl H12.out
end Go.Proofs.YtkcnbmgaeompjaaGreatDoor
