/- The document's Show. -/
import Derived.Test.YtkcnbmgaeompjaaGreatDoorY9
import Derived.Test.YtkcnbmgaeompjaaGreatDoorY4
import Derived.Test.YtkcnbmgaeompjaaGreatDoorW2
namespace Go.Proofs.YtkcnbmgaeompjaaGreatDoor
open Go.RowKit Go.Maps Go.Sort
set_option linter.unusedVariables false

theorem rightGs_all {q : Qy} (h : rightGs q = true) : q.groups.length ≤ 16 ∧ (∀ x ∈ q.groups, rightG x = true) ∧ (q.grouped = false → q.groups = []) := by
  cases hg : q.grouped with
  | true =>
    obtain ⟨h1, h2, h3⟩ := rightGs_parts h hg
    exact ⟨h2, h3, fun h => by cases h⟩
  | false =>
    unfold rightGs at h
    rw [hg, if_neg (by decide)] at h
    have : q.groups = [] := by simpa using h
    rw [this]
    exact ⟨by simp, (fun x hx => absurd hx (by simp)), fun _ => rfl⟩
set_option maxRecDepth 100000 in
set_option maxHeartbeats 16000000 in
theorem dshow_any {K : Nat → Prop} (q : Qy) (v : Value) (w : World) (hp : Pv w) (h : QyAt K w q v) : Calls Tryz.prog 17 #[v] w (ShowP q w) := by
  have hfit := h.fits
  have hq0 := h
  obtain ⟨a, C, G, rfl, hit, htl, hcd, hgrs⟩ := h
  have hit0 := hit
  have hgr0 := hgrs
  obtain ⟨A1, c1, rfl, hlc1, hcm1, -⟩ := hit0
  obtain ⟨A2, c2, rfl, hlc2, hcm2, -⟩ := hgr0
  obtain ⟨px, rfl⟩ : ∃ p, C = .pointer p := (cdTo_of q.cond 0 C hcd).p
  obtain ⟨n1, hn1⟩ : ∃ n, q.items.length = n := ⟨_, rfl⟩
  obtain ⟨n2, hn2⟩ : ∃ n, q.groups.length = n := ⟨_, rfl⟩
  obtain ⟨gr, hgr⟩ : ∃ n, q.grouped = n := ⟨_, rfl⟩
  obtain ⟨tb, htb⟩ : ∃ n, q.table = n := ⟨_, rfl⟩
  obtain ⟨w1, hw1⟩ : ∃ w1, w.alloc (.cells #[.slice A1 n1 c1, sv tb, .pointer px, .bool gr, .slice A2 n2 c2] 27) = w1 := ⟨_, rfl⟩
  obtain ⟨y, hy⟩ : ∃ y, w.heap.size = y := ⟨_, rfl⟩
  have f1 : Fr No w w1 := by rw [← hw1]; exact (Fr.refl No w).alloc _
  have hb : Blk w1 y 27 #[.slice A1 n1 c1, sv tb, .pointer px, .bool gr, .slice A2 n2 c2] := by rw [← hw1, ← hy]; exact Blk.new w 27 _
  rw [hn1] at hit hlc1
  rw [hn2] at hgrs hlc2
  rw [hn1, hn2, hgr, htb] at hq0 ⊢
  have HAT : Hid (∀ w', Fr No w1 w' → Blk w' y 27 #[.slice A1 n1 c1, sv tb, .pointer px, .bool gr, .slice A2 n2 c2] ∧ Pv w' ∧ RowE K w' 2 (itG K w') (.slice A1 n1 c1) q.items ∧ CdAt K w' q.cond (.pointer px) ∧ RowE K w' 3 (gpG K w') (.slice A2 n2 c2) q.groups ∧ Fr No w w') := Lib.hid fun w' f' => by
    have fw := f1.trans f' fun _ _ h => h
    exact ⟨hb.of (f'.block y hb.lt id), hp.no fw, hit.at_ itG_elem fw, hcd.no' fw, hgrs.at_ gpG_elem fw, fw⟩
  have HRQ := Lib.hid (dright_query (d := 32) (Nat.le_refl _) K q _ w1 (qyTo_of (hq0.no f1)))
  have HW1 := Lib.hid hw1
  have HY := Lib.hid hy
  have HN1 := Lib.hid hn1
  have HN2 := Lib.hid hn2
  have HGR := Lib.hid hgr
  have HTB := Lib.hid htb
  have HFIT := Lib.hid hfit
  have d0 : w1.cell? ⟨y, 0, none⟩ = some (.slice A1 n1 c1) := hb.cell 0
  have d1 : w1.cell? ⟨y, 1, none⟩ = some (sv tb) := hb.cell 1
  have d2 : w1.cell? ⟨y, 2, none⟩ = some (.pointer px) := hb.cell 2
  have d3 : w1.cell? ⟨y, 3, none⟩ = some (.bool gr) := hb.cell 3
  have d4 : w1.cell? ⟨y, 4, none⟩ = some (.slice A2 n2 c2) := hb.cell 4
  have HF1 := Lib.hid f1
  unfold maxLen at hcm1 hcm2
  clear hit hcd hgrs hb hw1 hy f1 htl hn1 hn2 hgr htb hfit hq0 hp
  go_enter Tryz.func17, Tryz.ntmps17
  go_upto_region 1 with fail
  rw [HY.out, HW1.out]
  go_wp2_with fail
  refine HRQ.out.mono ?_
  clear HRQ
  rintro e w2 ⟨rfl, f2⟩
  have HF2 := Lib.hid f2
  clear f2 d0 d1 d2 d3 d4
  cases hr : rightQ q with
  | false =>
    have HV : Hid (showB q = ([], 1)) := Lib.hid (showB_no hr)
    have HFF := Lib.hid (HAT.out w2 HF2.out).2.2.2.2.2
    clear hr
    go_wp2_with fail
    go_ret2
    exact ⟨by rw [HV.out]; rfl, HFF.out⟩
  | true =>
  have hlen := show_len hr HFIT.out
  have hEQ := showT_eq hr
  obtain ⟨⟨i1, i2, i3⟩, hnm, h3, h4⟩ := rightQ_parts hr
  obtain ⟨g1, g2, g3⟩ := rightGs_all h4
  have hSB : showB q = if 4096 < (showT q).length then ([], 45) else (showT q, 0) := by unfold showB; rw [if_pos hr]
  obtain ⟨ST, hST⟩ : ∃ S, showT q = S := ⟨_, rfl⟩
  rw [hST] at hlen hEQ hSB
  have hsel : selT q = [83, 69, 76, 69, 67, 84, 32] ++ jn (q.items.map itemT) ++ [32, 70, 82, 79, 77, 32] ++ q.table := rfl
  have hLW : (selT q).length + (whereT q.cond).length + (grpsT q).length ≤ 100000000 := by rw [hEQ] at hlen; simp at hlen; omega
  have hL1 : (selT q).length = 13 + (jn (q.items.map itemT)).length + q.table.length := by rw [hsel]; simp; omega
  have HJ1 : Hid ((jn (q.items.map itemT)).length ≤ 100000000) := Lib.hid (by omega)
  have HJ2 : Hid ((jn (q.groups.map groupT)).length ≤ 100000000) := Lib.hid (by
    cases hg : q.grouped with
    | true =>
      have : grpsT q = [32, 71, 82, 79, 85, 80, 32, 66, 89, 32] ++ jn (q.groups.map groupT) := by unfold grpsT; rw [if_pos hg]
      rw [this] at hLW
      simp at hLW; omega
    | false => rw [g3 hg]; decide)
  have HSEL := Lib.hid hsel
  have HLW := Lib.hid hLW
  have HL1 := Lib.hid hL1
  have HEQ := Lib.hid hEQ
  have HSB := Lib.hid hSB
  have HI3 := Lib.hid i3
  have HG2 := Lib.hid g2
  have HC3 := Lib.hid h3
  have HN16 : Hid (n1 ≤ 16 ∧ n2 ≤ 16) := Lib.hid ⟨by rw [← HN1.out]; exact i2, by rw [← HN2.out]; exact g1⟩
  obtain ⟨b, hb⟩ : ∃ b, w1.heap.size = b := ⟨_, rfl⟩
  have HB := Lib.hid hb
  clear hr hlen hEQ hSB hST hsel hLW hL1 i1 i2 i3 hnm h3 h4 g1 g2 g3 hb
  go_wp2_with fail
  go_loopg [5, 6] n1 (fun k r5 r6 wr => Hid (∃ j : Nat, r6 = .int .i64 (j : Nat) ∧ j + k = n1 ∧ Fr No w1 wr ∧ Grow b 9 1 strG wr r5 ((q.items.take j).map itemT)))
  case atStart => exact Lib.hid ⟨0, rfl, by omega, HF2.out, grow_nil _ _⟩
  case round =>
    obtain ⟨j, rfl, hjn, hf, hgw⟩ := hrel.out
    obtain ⟨A5, c5, rfl⟩ := hgw.len
    obtain ⟨L5, hL5⟩ : ∃ L5, (q.items.take j).map itemT = L5 := ⟨_, rfl⟩
    have hlt5 : L5.length = j := by rw [← hL5, List.length_map, List.length_take, HN1.out]; omega
    rw [hL5] at hgw
    have HLT := Lib.hid hlt5
    have HL5 := Lib.hid hL5
    have HG := Lib.hid hgw
    have HFN := Lib.hid hf
    simp only [hL5, hlt5]
    rw [hlt5] at HG
    have d0 : wr.cell? ⟨y, 0, none⟩ = some (.slice A1 n1 c1) := (HAT.out wr hf).1.cell 0
    clear hrel hgw hlt5 hL5
    by_cases hj : j < n1
    · have hji : (j : Int) < (n1 : Int) := by omega
      have hjl : j < q.items.length := by rw [HN1.out]; exact hj
      obtain ⟨A', c', e, _, _, hrow⟩ := (HAT.out wr hf).2.2.1
      obtain ⟨ga, off, rfl, hKa, hga, hel⟩ := hrow (by omega)
      obtain ⟨rfl, rfl⟩ : A1 = some ⟨ga, off, none⟩ ∧ c1 = c' := by injection e with e1 e2 e3; exact ⟨e1, e3⟩
      obtain ⟨cs, hcl, hcs, hE⟩ := hel j hjl
      have hokx := HI3.out q.items[j] (List.getElem_mem hjl)
      have hmt := map_take (f := itemT) hjl
      rw [HL5.out] at hmt
      have hxle : (itemT q.items[j]).length ≤ 100000000 := Nat.le_trans (jn_mem (f := itemT) (x := q.items[j]) (List.getElem_mem hjl)) HJ1.out
      obtain ⟨x, hx⟩ : ∃ x, q.items[j] = x := ⟨_, rfl⟩
      rw [hx] at hE hmt hxle hokx
      have HMT := Lib.hid hmt
      obtain ⟨hE, hxl, hxi⟩ := hE
      have e0 : wr.cell? ⟨ga, off + j * 2, none⟩ = some (.int .i64 x.kind) := by have := hcs 0 (by decide); rw [hE] at this; simpa using this
      have e1 : wr.cell? ⟨ga, off + j * 2 + 1, none⟩ = some (sv x.col) := by have := hcs 1 (by decide); rw [hE] at this; simpa using this
      have HC := Lib.hid (ditem_any x wr hokx)
      obtain ⟨X, hX⟩ : ∃ X, itemT x = X := ⟨_, rfl⟩
      rw [hX] at HC hxle
      have HXE := Lib.hid hX
      have HXL := Lib.hid hxle
      clear hcs hcl hel hKa hga hE hx hf hmt hxl hxi hokx hxle hX hrow e
      go_wp2_with fail
      refine HC.out.mono ?_
      clear HC
      rintro e w5 ⟨rfl, f5⟩
      have hg5 := HG.out.keep strG_elem f5 (fun _ h => h.elim)
      have hf5 := HFN.out.trans f5 fun _ _ h => h
      have hxm : E9 X := by have := HXL.out; unfold E9; unfold maxLen; omega
      have h16 := HN16.out
      rw [← HLT.out] at hg5
      obtain ⟨A', c', w6, hrun, hg6, hfr6, hlt6⟩ := Grow.more (bytes := 16) strG_elem (w0 := w5) hg5 (by have := hf5.size; have := HB.out; omega) (Nat.le_refl _) (fun k hk => (hg5.lt k hk).2) 52 Tryz.underlying52 (.string ⟨#[]⟩) (by kernel_rfl) rfl (by decide) X [sv X] rfl (by simp [Value.oneCell']) ⟨rfl, hxm⟩ (by rw [HLT.out]; omega) (by rw [HLT.out]; unfold maxLen; omega)
      have HF6 : Hid (Fr No w1 w6) := Lib.hid (hf5.own hfr6 fun k hk => by have := (hg5.lt k hk).1; have := HB.out; omega)
      rw [← HXE.out, ← HMT.out] at hg6
      have HG6 := Lib.hid hg6
      have HRUN := Lib.hid hrun
      rw [HLT.out] at HRUN HG6
      have HW5 : Hid (∀ ty, (Builtin.append_ #[52, 52] ty #[.slice A5 j c5, .slice (some ⟨w5.heap.size, 0, none⟩) 1 1]).run Tryz.prog (w5.alloc (.cells #[sv X] 9)) = .ok (.slice A' (j + 1) c') w6) := HRUN
      clear hg5 hf5 hg6 hfr6 hlt6 hrun f5 hxm HRUN h16
      go_wp2_with (at_builtin; refine wpList_add rfl _ _ _ _ rfl _ _ _ _ rfl rfl (HW5.out _) ?_)
      obtain ⟨g1, rfl⟩ : ∃ g1, gk = g1 + 1 := ⟨gk - 1, by omega⟩
      go_roundg g1
      case rel => exact Lib.hid ⟨j + 1, by go_num, by omega, HF6.out, HG6.out⟩
      all_goals omega
    · have hji : (n1 : Int) ≤ (j : Int) := by omega
      obtain rfl : j = n1 := by omega
      have hrow2 := HG.out
      rw [← HLT.out] at hrow2
      have hrow3 := hrow2.row strG_elem
      rw [HLT.out, ← HL5.out, List.take_of_length_le (by rw [HN1.out]; omega)] at hrow3
      have hJ := HJ1.out
      have K1 := fun dd os => tellsT_grown (w := wr) (fun w' f' => dlist_any w' (hrow3.at_ strG_elem f') hJ) dd os
      have hsel := HSEL.out
      have hl1 := HL1.out
      have hlw := HLW.out
      rw [HTB.out] at hsel hl1
      obtain ⟨J, hJe⟩ : ∃ J, jn (q.items.map itemT) = J := ⟨_, rfl⟩
      rw [hJe] at K1 hJ hsel hl1
      obtain ⟨S1, hS1⟩ : ∃ S, selT q = S := ⟨_, rfl⟩
      rw [hS1] at hsel hl1 hlw
      have HS1 := Lib.hid hS1
      have z1 : ∀ dd os, (grow (redrawn wr dd) os).cell? ⟨y, 1, none⟩ = some (sv tb) := fun dd os => cell_regrown ((HAT.out wr hf).1.cell 1) dd os
      have a1 : ∀ w0, (Op.stringOp .add ⟨#[83, 69, 76, 69, 67, 84, 32]⟩ ⟨J.toArray⟩).run Tryz.prog w0 = .ok (.string ⟨([83, 69, 76, 69, 67, 84, 32] ++ J).toArray⟩) w0 := fun w0 => run_cat [83, 69, 76, 69, 67, 84, 32] J (by unfold maxLen; simp; omega) w0
      have a2 : ∀ w0, (Op.stringOp .add ⟨([83, 69, 76, 69, 67, 84, 32] ++ J).toArray⟩ ⟨#[32, 70, 82, 79, 77, 32]⟩).run Tryz.prog w0 = .ok (.string ⟨([83, 69, 76, 69, 67, 84, 32] ++ J ++ [32, 70, 82, 79, 77, 32]).toArray⟩) w0 := fun w0 => run_cat _ [32, 70, 82, 79, 77, 32] (by unfold maxLen; simp; omega) w0
      have a3 : ∀ w0, (Op.stringOp .add ⟨([83, 69, 76, 69, 67, 84, 32] ++ J ++ [32, 70, 82, 79, 77, 32]).toArray⟩ ⟨tb.toArray⟩).run Tryz.prog w0 = .ok (.string ⟨([83, 69, 76, 69, 67, 84, 32] ++ J ++ [32, 70, 82, 79, 77, 32] ++ tb).toArray⟩) w0 := fun w0 => run_cat _ tb (by unfold maxLen; simp; omega) w0
      rw [← hsel] at a3
      obtain ⟨X1, hX1⟩ : ∃ X, [83, 69, 76, 69, 67, 84, 32] ++ J = X := ⟨_, rfl⟩
      rw [hX1] at a1 a2 a3
      obtain ⟨X2, hX2⟩ : ∃ X, X1 ++ [32, 70, 82, 79, 77, 32] = X := ⟨_, rfl⟩
      rw [hX2] at a2 a3
      have K1 := Lib.hid K1
      clear hf hrow2 hrow3 hJ hsel hl1 hlw hJe hS1 hX1 hX2 HG HL5 HLT
      go_upto_region 9 with fail
      go_cut [7] (fun rv wx => rv = sv S1 ∧ Fr No wr wx)
      case first =>
        refine wp_region_quiet_below mixedQ (by kernel_rfl) ?_
        repeat (first | go_big_quiet_step (with_reducible exact K1.out _ _) | quiet_step (with_reducible exact K1.out _ _))
        refine wpQuiet_nil ?_
        intro wx hp
        have HBW : Hid (Fr No wr wx) := Lib.hid (by obtain ⟨p, rfl⟩ := hp; exact fr_reg _ _ _)
        clear hp
        go_wp2_with fail
        go_meet
        exact ⟨rfl, HBW.out⟩
      case rest =>
      obtain ⟨rfl, hfx⟩ := hcut
      have HFX := Lib.hid (HFN.out.trans hfx fun _ _ h => h)
      clear a1 a2 a3 z1 K1 hfx d0
      obtain ⟨S2, hS2⟩ : ∃ S, S1 ++ whereT q.cond = S := ⟨_, rfl⟩
      have HS2 := Lib.hid hS2
      have HST : Hid (ST = S2 ++ grpsT q) := Lib.hid (by rw [HEQ.out, ← hS2, ← HS1.out])
      have HLS : Hid (S1.length + (whereT q.cond).length + (grpsT q).length ≤ 100000000) := Lib.hid (by rw [← HS1.out]; exact HLW.out)
      have hbk := (HAT.out _ HFX.out).1
      have d2 := (hbk.cell 2 : World.cell? _ ⟨y, 2, none⟩ = some (.pointer px))
      clear hS2 hbk
      go_upto_if 39 with fail
      go_cut [7] (fun rv wx => rv = sv S2 ∧ Fr No w1 wx)
      case first =>
        have hcd := (HAT.out _ HFX.out).2.2.2.1
        rcases (cdTo_of q.cond 0 _ hcd).ptr with ⟨hc, e⟩ | ⟨hc, gp, op, e⟩
        · obtain rfl : px = none := by injection e
          have HV : Hid (S1 = S2) := Lib.hid (by rw [← HS2.out, hc]; unfold whereT; rw [if_pos rfl]; simp)
          clear hcd hc e
          go_wp2_with fail
          go_meet
          exact ⟨by rw [HV.out], HFX.out⟩
        · obtain rfl : px = some ⟨gp, op, none⟩ := by injection e
          obtain ⟨m0, hm0⟩ := HC3.out.resolve_left hc
          have hwt : whereT q.cond = [32, 87, 72, 69, 82, 69, 32] ++ nodeT q.cond := by unfold whereT; rw [if_neg hc, condT_0]
          have hls := HLS.out
          rw [hwt] at hls
          have hnl : S1.length + 7 + (nodeT q.cond).length ≤ 100000000 := by simp at hls; omega
          have HC := Lib.hid (dcondT_any q.cond hc ⟨_, _, _, hm0⟩ K _ _ hcd (HAT.out _ HFX.out).2.1 (by omega))
          have hs2 := HS2.out
          rw [hwt] at hs2
          obtain ⟨N, hN⟩ : ∃ N, nodeT q.cond = N := ⟨_, rfl⟩
          rw [hN] at HC hnl hs2
          have a1 : ∀ w0, (Op.stringOp .add ⟨S1.toArray⟩ ⟨#[32, 87, 72, 69, 82, 69, 32]⟩).run Tryz.prog w0 = .ok (.string ⟨(S1 ++ [32, 87, 72, 69, 82, 69, 32]).toArray⟩) w0 := fun w0 => run_cat S1 [32, 87, 72, 69, 82, 69, 32] (by unfold maxLen; simp; omega) w0
          have a2 : ∀ w0, (Op.stringOp .add ⟨(S1 ++ [32, 87, 72, 69, 82, 69, 32]).toArray⟩ ⟨N.toArray⟩).run Tryz.prog w0 = .ok (.string ⟨(S1 ++ [32, 87, 72, 69, 82, 69, 32] ++ N).toArray⟩) w0 := fun w0 => run_cat _ N (by unfold maxLen; simp; omega) w0
          rw [List.append_assoc, hs2] at a2
          obtain ⟨X1, hX1⟩ : ∃ X, S1 ++ [32, 87, 72, 69, 82, 69, 32] = X := ⟨_, rfl⟩
          rw [hX1] at a1
          have a2 : ∀ w0, (Op.stringOp .add ⟨X1.toArray⟩ ⟨N.toArray⟩).run Tryz.prog w0 = .ok (.string ⟨S2.toArray⟩) w0 := fun w0 => by rw [← hX1]; exact a2 w0
          clear hcd hc e hm0 hwt hls hnl hs2 hN hX1
          go_wp2_with fail
          refine HC.out.mono ?_
          rintro e w5 ⟨rfl, f5⟩
          have HF5 := Lib.hid (HFX.out.trans f5 fun _ _ h => h)
          clear f5
          go_wp2_with fail
          go_meet
          exact ⟨rfl, HF5.out⟩
      case rest =>
      obtain ⟨rfl, hfy⟩ := hcut
      have HFY := Lib.hid hfy
      clear hfy d2
      go_wp2_with fail
      go_loopg [8, 9] n2 (fun k r8 r9 wr => Hid (∃ m : Nat, r9 = .int .i64 (m : Nat) ∧ m + k = n2 ∧ Fr No w1 wr ∧ Grow b 9 1 strG wr r8 ((q.groups.take m).map groupT)))
      case atStart => exact Lib.hid ⟨0, rfl, by omega, HFY.out, grow_nil _ _⟩
      case round =>
        obtain ⟨m, rfl, hmn, hf, hgw⟩ := hrel.out
        obtain ⟨A6, c6, rfl⟩ := hgw.len
        obtain ⟨L6, hL6⟩ : ∃ L, (q.groups.take m).map groupT = L := ⟨_, rfl⟩
        have hlt6 : L6.length = m := by rw [← hL6, List.length_map, List.length_take, HN2.out]; omega
        rw [hL6] at hgw
        have HLT := Lib.hid hlt6
        have HL6 := Lib.hid hL6
        have HG := Lib.hid hgw
        have HFM := Lib.hid hf
        simp only [hL6, hlt6]
        rw [hlt6] at HG
        have d4 := ((HAT.out _ hf).1.cell 4 : World.cell? _ ⟨y, 4, none⟩ = some (.slice A2 n2 c2))
        clear hrel hgw hlt6 hL6
        by_cases hm : m < n2
        · have hmi : (m : Int) < (n2 : Int) := by omega
          have hml : m < q.groups.length := by rw [HN2.out]; exact hm
          obtain ⟨A', c', e, _, _, hrow⟩ := (HAT.out _ hf).2.2.2.2.1
          obtain ⟨ga, off, rfl, hKa, hga, hel⟩ := hrow (by omega)
          obtain ⟨rfl, rfl⟩ : A2 = some ⟨ga, off, none⟩ ∧ c2 = c' := by injection e with e1 e2 e3; exact ⟨e1, e3⟩
          obtain ⟨cs, hcl, hcs, hE⟩ := hel m hml
          have hokx := HG2.out q.groups[m] (List.getElem_mem hml)
          have hmt := map_take (f := groupT) hml
          rw [HL6.out] at hmt
          have hxle : (groupT q.groups[m]).length ≤ 100000000 := Nat.le_trans (jn_mem (f := groupT) (x := q.groups[m]) (List.getElem_mem hml)) HJ2.out
          obtain ⟨x, hx⟩ : ∃ x, q.groups[m] = x := ⟨_, rfl⟩
          rw [hx] at hE hmt hxle hokx
          have HMT := Lib.hid hmt
          obtain ⟨ca, cb, hE, _, hRA, hRB⟩ := hE
          have e0 : wr.cell? ⟨ga, off + m * 3, none⟩ = some (.int .i64 x.kind) := by have := hcs 0 (by decide); rw [hE] at this; simpa using this
          have e1 : wr.cell? ⟨ga, off + m * 3 + 1, none⟩ = some ca := by have := hcs 1 (by decide); rw [hE] at this; simpa using this
          have e2 : wr.cell? ⟨ga, off + m * 3 + 2, none⟩ = some cb := by have := hcs 2 (by decide); rw [hE] at this; simpa using this
          have HC := Lib.hid (dgroupT_any x _ hRA hRB hokx hxle)
          obtain ⟨xk, hxk⟩ : ∃ k, x.kind = k := ⟨_, rfl⟩
          rw [hxk] at e0 HC
          obtain ⟨X, hX⟩ : ∃ X, groupT x = X := ⟨_, rfl⟩
          rw [hX] at HC hxle
          obtain ⟨R1, r1, s1, rfl⟩ : ∃ R r s, ca = .slice R r s := by obtain ⟨R, s, e, _⟩ := hRA; exact ⟨_, _, _, e⟩
          obtain ⟨R2, r2, s2, rfl⟩ : ∃ R r s, cb = .slice R r s := by obtain ⟨R, s, e, _⟩ := hRB; exact ⟨_, _, _, e⟩
          have HXE := Lib.hid hX
          have HXL := Lib.hid hxle
          clear hcs hcl hel hKa hga hE hx hf hmt hokx hxle hX hrow e hRA hRB hxk
          go_wp2_with fail
          refine HC.out.mono ?_
          clear HC
          rintro e w5 ⟨rfl, f5⟩
          have hg5 := HG.out.keep strG_elem f5 (fun _ h => h.elim)
          have hf5 := HFM.out.trans f5 fun _ _ h => h
          have hxm : E9 X := by have := HXL.out; unfold E9; unfold maxLen; omega
          have h16 := HN16.out
          rw [← HLT.out] at hg5
          obtain ⟨A', c', w6, hrun, hg6, hfr6, hlt6⟩ := Grow.more (bytes := 16) strG_elem (w0 := w5) hg5 (by have := hf5.size; have := HB.out; omega) (Nat.le_refl _) (fun k hk => (hg5.lt k hk).2) 52 Tryz.underlying52 (.string ⟨#[]⟩) (by kernel_rfl) rfl (by decide) X [sv X] rfl (by simp [Value.oneCell']) ⟨rfl, hxm⟩ (by rw [HLT.out]; omega) (by rw [HLT.out]; unfold maxLen; omega)
          have HF6 : Hid (Fr No w1 w6) := Lib.hid (hf5.own hfr6 fun k hk => by have := (hg5.lt k hk).1; have := HB.out; omega)
          rw [← HXE.out, ← HMT.out] at hg6
          have HG6 := Lib.hid hg6
          have HRUN := Lib.hid hrun
          rw [HLT.out] at HRUN HG6
          have HW5 : Hid (∀ ty, (Builtin.append_ #[52, 52] ty #[.slice A6 m c6, .slice (some ⟨w5.heap.size, 0, none⟩) 1 1]).run Tryz.prog (w5.alloc (.cells #[sv X] 9)) = .ok (.slice A' (m + 1) c') w6) := HRUN
          clear hg5 hf5 hg6 hfr6 hlt6 hrun f5 hxm HRUN h16
          go_wp2_with (at_builtin; refine wpList_add rfl _ _ _ _ rfl _ _ _ _ rfl rfl (HW5.out _) ?_)
          obtain ⟨g1, rfl⟩ : ∃ g1, gk = g1 + 1 := ⟨gk - 1, by omega⟩
          go_roundg g1
          case rel => exact Lib.hid ⟨m + 1, by go_num, by omega, HF6.out, HG6.out⟩
          all_goals omega
        · have hmi : (n2 : Int) ≤ (m : Int) := by omega
          obtain rfl : m = n2 := by omega
          have hrow2 := HG.out
          rw [← HLT.out] at hrow2
          have hrow3 := hrow2.row strG_elem
          rw [HLT.out, ← HL6.out, List.take_of_length_le (by rw [HN2.out]; omega)] at hrow3
          have hJ := HJ2.out
          have d3 := ((HAT.out _ HFM.out).1.cell 3 : World.cell? _ ⟨y, 3, none⟩ = some (.bool gr))
          have HFW := Lib.hid (HAT.out _ HFM.out).2.2.2.2.2
          have hgr := HGR.out
          cases gr with
          | false =>
            have hg0 : grpsT q = [] := by unfold grpsT; rw [hgr]; rfl
            have hst : ST = S2 := by rw [HST.out, hg0]; simp
            subst hst
            clear hrow2 hrow3 hJ hgr hg0 hf
            by_cases hlong : 4096 < ST.length
            · have HV : Hid (showB q = ([], 45)) := Lib.hid (by rw [HSB.out, if_pos hlong])
              have hgt : ((4096 : Int) < (ST.length : Int)) = True := eq_true (by omega)
              go_wp2_with fail
              go_ret2
              exact ⟨by rw [HV.out]; rfl, HFW.out⟩
            · have HV : Hid (showB q = (ST, 0)) := Lib.hid (by rw [HSB.out, if_neg hlong])
              have hgt : ((4096 : Int) < (ST.length : Int)) = False := eq_false (by omega)
              go_wp2_with fail
              go_ret2
              exact ⟨by rw [HV.out]; rfl, HFW.out⟩
          | true =>
            have hg0 : grpsT q = [32, 71, 82, 79, 85, 80, 32, 66, 89, 32] ++ jn (q.groups.map groupT) := by unfold grpsT; rw [hgr]; rfl
            have HC := Lib.hid (dlist_any _ hrow3 hJ)
            have hst := HST.out
            rw [hg0] at hst
            have hls := HLS.out
            rw [hg0] at hls
            have hs2l : S2.length = S1.length + (whereT q.cond).length := by rw [← HS2.out]; simp
            obtain ⟨J, hJe⟩ : ∃ J, jn (q.groups.map groupT) = J := ⟨_, rfl⟩
            rw [hJe] at HC hst hls
            have hll : S2.length + 10 + J.length ≤ 100000000 := by simp at hls; omega
            have a1 : ∀ w0, (Op.stringOp .add ⟨S2.toArray⟩ ⟨#[32, 71, 82, 79, 85, 80, 32, 66, 89, 32]⟩).run Tryz.prog w0 = .ok (.string ⟨(S2 ++ [32, 71, 82, 79, 85, 80, 32, 66, 89, 32]).toArray⟩) w0 := fun w0 => run_cat S2 [32, 71, 82, 79, 85, 80, 32, 66, 89, 32] (by unfold maxLen; simp; omega) w0
            have a2 : ∀ w0, (Op.stringOp .add ⟨(S2 ++ [32, 71, 82, 79, 85, 80, 32, 66, 89, 32]).toArray⟩ ⟨J.toArray⟩).run Tryz.prog w0 = .ok (.string ⟨ST.toArray⟩) w0 := fun w0 => by rw [run_cat _ J (by unfold maxLen; simp; omega) w0, hst, List.append_assoc]
            obtain ⟨X1, hX1⟩ : ∃ X, S2 ++ [32, 71, 82, 79, 85, 80, 32, 66, 89, 32] = X := ⟨_, rfl⟩
            rw [hX1] at a1 a2
            clear hrow2 hrow3 hJ hgr hg0 hf hst hls hs2l hJe hll hX1
            go_wp2_with fail
            refine HC.out.mono ?_
            rintro e w5 ⟨rfl, f5⟩
            have HF5 := Lib.hid (HFW.out.trans f5 fun _ _ h => h)
            clear f5
            by_cases hlong : 4096 < ST.length
            · have HV : Hid (showB q = ([], 45)) := Lib.hid (by rw [HSB.out, if_pos hlong])
              have hgt : ((4096 : Int) < (ST.length : Int)) = True := eq_true (by omega)
              go_wp2_with fail
              go_ret2
              exact ⟨by rw [HV.out]; rfl, HF5.out⟩
            · have HV : Hid (showB q = (ST, 0)) := Lib.hid (by rw [HSB.out, if_neg hlong])
              have hgt : ((4096 : Int) < (ST.length : Int)) = False := eq_false (by omega)
              go_wp2_with fail
              go_ret2
              exact ⟨by rw [HV.out]; rfl, HF5.out⟩
end Go.Proofs.YtkcnbmgaeompjaaGreatDoor
