/- ParseBack, walked. -/
import Derived.Test.YtkcnbmgaeompjaaGreatDoorW1
namespace Go.Proofs.YtkcnbmgaeompjaaGreatDoor
open Go.RowKit Go.Maps
set_option linter.unusedVariables false

theorem CdAt.fits {K : Nat → Prop} {w : World} : ∀ {c : Cd} {v : Value}, CdAt K w c v → c.Fits
  | .none, v, h => trivial
  | .node k l r col op vals, v, h => by
    obtain ⟨g, o, L, R, V, h1, h2, h3, c0, c1, c2, c3, c4, c5, hl, hr, hv, h4⟩ := h
    refine ⟨hl.fits, hr.fits, fun x hx => ?_⟩
    obtain ⟨A, c, _, _, _, hrow⟩ := hv
    obtain ⟨j, hj, rfl⟩ := List.getElem_of_mem hx
    obtain ⟨b, off, _, _, _, hel⟩ := hrow (by omega)
    obtain ⟨cs, _, _, hvl⟩ := hel j hj
    exact hvl.2.2
theorem QyAt.fits {K : Nat → Prop} {w : World} {q : Qy} {v : Value} (h : QyAt K w q v) : q.cond.Fits := by
  obtain ⟨_, _, _, _, _, _, hc, _⟩ := h
  exact hc.fits

set_option maxRecDepth 100000 in
set_option maxHeartbeats 8000000 in
theorem back_any {K : Nat → Prop} (q : Qy) (v : Value) (w : World) (hp : Pv w) (h : QyAt K w q v) : Calls Tryz.prog 6 #[v] w (TellsB true w) := by
  have hgd := eqd26
  have heq := eql26
  have hfit := h.fits
  obtain ⟨A1, c1, px, A2, c2, rfl, -, -⟩ := (qyTo_of (d := 0) h).qv
  have hV : qyV q A1 c1 px A2 c2 = .agg #[.slice A1 q.items.length c1, sv q.table, .pointer px, .bool q.grouped, .slice A2 q.groups.length c2] := rfl
  rw [hV] at h ⊢
  obtain ⟨n1, hn1⟩ : ∃ n, q.items.length = n := ⟨_, rfl⟩
  obtain ⟨n2, hn2⟩ : ∃ n, q.groups.length = n := ⟨_, rfl⟩
  obtain ⟨tb, htb⟩ : ∃ n, q.table = n := ⟨_, rfl⟩
  obtain ⟨gr, hgr⟩ : ∃ n, q.grouped = n := ⟨_, rfl⟩
  rw [hn1, hn2, htb, hgr] at h ⊢
  obtain ⟨wa, hwa⟩ : ∃ w1, w.alloc (.cells #[.slice A1 n1 c1, sv tb, .pointer px, .bool gr, .slice A2 n2 c2] 27) = w1 := ⟨_, rfl⟩
  obtain ⟨ya, hya⟩ : ∃ z, w.heap.size = z := ⟨_, rfl⟩
  have fa : Fr No w wa := by rw [← hwa]; exact (Fr.refl No w).alloc _
  have hba : Blk wa ya 27 #[.slice A1 n1 c1, sv tb, .pointer px, .bool gr, .slice A2 n2 c2] := by rw [← hwa, ← hya]; exact Blk.new w 27 _
  have HAW : Hid (Calls Tryz.prog 12 #[] wa (TellsB true wa)) := Lib.hid (awake_any wa (hp.no fa))
  have HPV : Hid (∀ w', Fr No w w' → Pv w') := Lib.hid fun w' f' => hp.no f'
  have HQ := Lib.hid (h.no fa)
  have HB := Lib.hid hba
  have HFA := Lib.hid fa
  have HWA := Lib.hid hwa
  have HYA := Lib.hid hya
  have HN1 := Lib.hid hn1
  have HN2 := Lib.hid hn2
  have HTB := Lib.hid htb
  have HGR := Lib.hid hgr
  have HFIT := Lib.hid hfit
  clear hp h hV hn1 hn2 htb hgr fa hba hwa hya hfit
  go_enter Tryz.func6, Tryz.ntmps6
  go_upto_region 1 with fail
  rw [HYA.out, HWA.out]
  go_wp2_with fail
  refine HAW.out.mono ?_
  clear HAW
  rintro e w1 ⟨rfl, f1⟩
  have HF1 := Lib.hid (HFA.out.trans f1 fun _ _ h => h)
  have HQ1 := Lib.hid (HQ.out.no f1)
  have HB1 := Lib.hid (HB.out.of (f1.block _ HB.out.lt id))
  clear f1
  have d0 : w1.cell? ⟨ya, 0, none⟩ = some (.slice A1 n1 c1) := HB1.out.cell 0
  have d1 : w1.cell? ⟨ya, 1, none⟩ = some (sv tb) := HB1.out.cell 1
  have d2 : w1.cell? ⟨ya, 2, none⟩ = some (.pointer px) := HB1.out.cell 2
  have d3 : w1.cell? ⟨ya, 3, none⟩ = some (.bool gr) := HB1.out.cell 3
  have d4 : w1.cell? ⟨ya, 4, none⟩ = some (.slice A2 n2 c2) := HB1.out.cell 4
  have HSH := Lib.hid (show_any q _ w1 (HPV.out w1 HF1.out) HQ1.out fun hr => show_len hr HFIT.out)
  unfold ShowP at HSH
  cases hr : rightQ q with
  | false =>
    rw [showB_no hr] at HSH
    have HRQ : Hid (∀ wb, Fr No w1 wb → Calls Tryz.prog 18 #[.agg #[.slice A1 n1 c1, sv tb, .pointer px, .bool gr, .slice A2 n2 c2]] wb (TellsB false wb)) := Lib.hid fun wb fb => by
      have := right_query (d := 32) (Nat.le_refl _) _ q _ wb (HPV.out wb (HF1.out.trans fb fun _ _ h => h)).lr (qyTo_of (HQ1.out.no fb))
      rw [hr] at this; exact this
    clear hr
    go_wp2_with fail
    refine HSH.out.mono ?_
    clear HSH
    rintro e wb ⟨rfl, fb⟩
    have HFB := Lib.hid (HF1.out.trans fb fun _ _ h => h)
    have HBB := Lib.hid (HB1.out.of (fb.block _ HB1.out.lt id))
    have HR2 := Lib.hid (HRQ.out wb fb)
    clear fb d0 d1 d2 d3 d4
    have d0 : wb.cell? ⟨ya, 0, none⟩ = some (.slice A1 n1 c1) := HBB.out.cell 0
    have d1 : wb.cell? ⟨ya, 1, none⟩ = some (sv tb) := HBB.out.cell 1
    have d2 : wb.cell? ⟨ya, 2, none⟩ = some (.pointer px) := HBB.out.cell 2
    have d3 : wb.cell? ⟨ya, 3, none⟩ = some (.bool gr) := HBB.out.cell 3
    have d4 : wb.cell? ⟨ya, 4, none⟩ = some (.slice A2 n2 c2) := HBB.out.cell 4
    go_wp2_with fail
    refine HR2.out.mono ?_
    rintro e wc ⟨rfl, fc⟩
    have HFC := Lib.hid (HFB.out.trans fc fun _ _ h => h)
    clear fc d0 d1 d2 d3 d4
    go_wp2_with fail
    go_ret
    exact ⟨rfl, HFC.out⟩
  | true =>
    have HR := Lib.hid hr
    by_cases hl : 4096 < (showT q).length
    · rw [showB_long hr hl] at HSH
      have HRQ : Hid (∀ wb, Fr No w1 wb → Calls Tryz.prog 18 #[.agg #[.slice A1 n1 c1, sv tb, .pointer px, .bool gr, .slice A2 n2 c2]] wb (TellsB true wb)) := Lib.hid fun wb fb => by
        have := right_query (d := 32) (Nat.le_refl _) _ q _ wb (HPV.out wb (HF1.out.trans fb fun _ _ h => h)).lr (qyTo_of (HQ1.out.no fb))
        rw [hr] at this; exact this
      clear hr hl
      go_wp2_with fail
      refine HSH.out.mono ?_
      clear HSH
      rintro e wb ⟨rfl, fb⟩
      have HFB := Lib.hid (HF1.out.trans fb fun _ _ h => h)
      have HBB := Lib.hid (HB1.out.of (fb.block _ HB1.out.lt id))
      have HR2 := Lib.hid (HRQ.out wb fb)
      clear fb d0 d1 d2 d3 d4
      have d0 : wb.cell? ⟨ya, 0, none⟩ = some (.slice A1 n1 c1) := HBB.out.cell 0
      have d1 : wb.cell? ⟨ya, 1, none⟩ = some (sv tb) := HBB.out.cell 1
      have d2 : wb.cell? ⟨ya, 2, none⟩ = some (.pointer px) := HBB.out.cell 2
      have d3 : wb.cell? ⟨ya, 3, none⟩ = some (.bool gr) := HBB.out.cell 3
      have d4 : wb.cell? ⟨ya, 4, none⟩ = some (.slice A2 n2 c2) := HBB.out.cell 4
      go_wp2_with fail
      refine HR2.out.mono ?_
      rintro e wc ⟨rfl, fc⟩
      have HFC := Lib.hid (HFB.out.trans fc fun _ _ h => h)
      clear fc d0 d1 d2 d3 d4
      go_wp2_with fail
      go_ret
      exact ⟨rfl, HFC.out⟩
    · rw [showB_ok hr hl] at HSH
      have HAG := Lib.hid (again hr HFIT.out hl)
      have HSS := Lib.hid (sameQ_self hr)
      have HTL : Hid ((showT q).length ≤ maxLen) := Lib.hid (by unfold maxLen; omega)
      obtain ⟨T, hT⟩ : ∃ T, showT q = T := ⟨_, rfl⟩
      rw [hT] at HSH HAG HTL
      clear hr hl hT
      go_wp2_with fail
      refine HSH.out.mono ?_
      clear HSH
      rintro e wb ⟨rfl, fb⟩
      have HFB := Lib.hid (HF1.out.trans fb fun _ _ h => h)
      have HBB := Lib.hid (HB1.out.of (fb.block _ HB1.out.lt id))
      have HQB := Lib.hid (HQ1.out.no fb)
      have HP2 := Lib.hid (l_parse T wb (HPV.out wb HFB.out) HTL.out HAG.out)
      clear fb d0 d1 d2 d3 d4
      go_wp2_with fail
      refine HP2.out.mono ?_
      clear HP2
      rintro e wc ⟨B1, k1, py, B2, k2, rfl, hq3, f3⟩
      have hV : qyV q B1 k1 py B2 k2 = .agg #[.slice B1 q.items.length k1, sv q.table, .pointer py, .bool q.grouped, .slice B2 q.groups.length k2] := rfl
      rw [hV] at hq3 ⊢
      rw [HN1.out, HN2.out, HTB.out, HGR.out] at hq3 ⊢
      obtain ⟨yd, hyd⟩ : ∃ z, wc.heap.size = z := ⟨_, rfl⟩
      obtain ⟨wxd, hwxd⟩ : ∃ x, wc.alloc (.cells #[.slice B1 n1 k1, sv tb, .pointer py, .bool gr, .slice B2 n2 k2] 27) = x := ⟨_, rfl⟩
      have gxd : Fr No wc wxd := by rw [← hwxd]; exact (Fr.refl No wc).alloc _
      have bxd : Blk wxd yd 27 #[.slice B1 n1 k1, sv tb, .pointer py, .bool gr, .slice B2 n2 k2] := by rw [← hwxd, ← hyd]; exact Blk.new wc 27 _
      have sxd : wxd.heap.size = yd + 1 := by rw [← hwxd, ← hyd]; simp
      obtain ⟨wzd, hwzd⟩ : ∃ x, wxd.alloc (.cells #[.int .i64 (0 : Int), .int .i64 (0 : Int)] 30) = x := ⟨_, rfl⟩
      have gzd : Fr No wxd wzd := by rw [← hwzd]; exact (Fr.refl No wxd).alloc _
      have bzd : Blk wzd (yd + 1) 30 #[.int .i64 (0 : Int), .int .i64 (0 : Int)] := by rw [← hwzd, ← sxd]; exact Blk.new wxd 30 _
      have gd := gxd.trans gzd fun _ _ h => h
      have bqd := bxd.of (gzd.block _ bxd.lt id)
      have HYd := Lib.hid hyd
      have HXd := Lib.hid hwxd
      have HZd := Lib.hid hwzd
      have fcd := f3.trans gd fun _ _ h => h
      have HFD := Lib.hid (HFB.out.trans fcd fun _ _ h => h)
      have HQD := Lib.hid (hq3.no gd)
      have HQE := Lib.hid (HQB.out.no fcd)
      have HBD := Lib.hid (HBB.out.of (fcd.block _ HBB.out.lt id))
      have HBE := Lib.hid bqd
      have HBF := Lib.hid bzd
      clear hV hyd hwxd gxd bxd sxd hwzd gzd bzd gd bqd f3 hq3 fcd
      go_upto_region 6 with fail
      rw [HYd.out, HXd.out, HZd.out]
      have d0 : wzd.cell? ⟨ya, 0, none⟩ = some (.slice A1 n1 c1) := HBD.out.cell 0
      have d1 : wzd.cell? ⟨ya, 1, none⟩ = some (sv tb) := HBD.out.cell 1
      have d2 : wzd.cell? ⟨ya, 2, none⟩ = some (.pointer px) := HBD.out.cell 2
      have d3 : wzd.cell? ⟨ya, 3, none⟩ = some (.bool gr) := HBD.out.cell 3
      have d4 : wzd.cell? ⟨ya, 4, none⟩ = some (.slice A2 n2 c2) := HBD.out.cell 4
      have b0 : wzd.cell? ⟨yd, 0, none⟩ = some (.slice B1 n1 k1) := HBE.out.cell 0
      have b1 : wzd.cell? ⟨yd, 1, none⟩ = some (sv tb) := HBE.out.cell 1
      have b2 : wzd.cell? ⟨yd, 2, none⟩ = some (.pointer py) := HBE.out.cell 2
      have b3 : wzd.cell? ⟨yd, 3, none⟩ = some (.bool gr) := HBE.out.cell 3
      have b4 : wzd.cell? ⟨yd, 4, none⟩ = some (.slice B2 n2 k2) := HBE.out.cell 4
      have z0 : wzd.cell? ⟨yd + 1, 0, none⟩ = some (.int .i64 0) := HBF.out.cell 0
      have z1 : wzd.cell? ⟨yd + 1, 1, none⟩ = some (.int .i64 0) := HBF.out.cell 1
      have HSM := Lib.hid (same_query (d := 4096) (Nat.le_refl _) q q wzd (qyTo_of HQE.out) (qyTo_of HQD.out))
      rw [HSS.out] at HSM
      go_wp2_with fail
      refine HSM.out.mono ?_
      clear HSM
      rintro e wf ⟨rfl, ff⟩
      have HFF := Lib.hid (HFD.out.trans ff fun _ _ h => h)
      clear ff d0 d1 d2 d3 d4 b0 b1 b2 b3 b4 z0 z1
      go_wp2_with fail
      go_ret
      exact ⟨rfl, HFF.out⟩
end Go.Proofs.YtkcnbmgaeompjaaGreatDoor
