/- ParseAgain, walked. -/
import Derived.Test.YtkcnbmgaeompjaaGreatDoorGV
import Derived.Test.YtkcnbmgaeompjaaGreatDoorP15
namespace Go.Proofs.YtkcnbmgaeompjaaGreatDoor
open Go.RowKit Go.Maps
set_option linter.unusedVariables false

theorem QyAt.no {K : Nat → Prop} {w w' : World} {q : Qy} {v : Value} (h : QyAt K w q v) (f : Fr No w w') : QyAt K w' q v := h.mono fun k hk hkl => ⟨hk, f.block k hkl id⟩
theorem QyAt.nul {K : Nat → Prop} {w : World} {A1 : Option Addr} {n1 c1 : Nat} {tb : Tx} {px : Option Addr} {gr : Bool} {A2 : Option Addr} {n2 c2 : Nat} (h : QyAt K w Qy0 (.agg #[.slice A1 n1 c1, sv tb, .pointer px, .bool gr, .slice A2 n2 c2])) : px = none := by
  obtain ⟨_, _, _, e, _, _, hc, _⟩ := h
  injection e with e
  have h2 : Value.pointer px = Value.pointer none := by
    have := congrArg (fun a => a[2]?) e
    simp at this
    rw [this]; exact hc
  injection h2
set_option maxRecDepth 100000 in
set_option maxHeartbeats 8000000 in
theorem again_any (t : Tx) (ht : t.length ≤ maxLen) (w : World) (hp : Pv w) : Calls Tryz.prog 7 #[sv t] w (TellsB true w) := by
  have hgd := eqd26
  have heq := eql26
  have HAW := Lib.hid (awake_any w hp)
  have HPV : Hid (∀ w', Fr No w w' → Pv w') := Lib.hid fun w' f' => hp.no f'
  have HSZ := Lib.hid (sz t)
  have HT := Lib.hid ht
  obtain ⟨h1, h2, h3⟩ := parse_right t
  obtain ⟨q, c, p, hpw⟩ : ∃ q c p, parseW t = (q, c, p) := ⟨_, _, _, rfl⟩
  rw [hpw] at h1 h2 h3
  simp only at h1 h2 h3
  have HPW := Lib.hid hpw
  have HH1 := Lib.hid h1
  have HH2 := Lib.hid h2
  have HH3 := Lib.hid h3
  clear hp ht h1 h2 h3 hpw
  go_enter Tryz.func7, Tryz.ntmps7
  go_wp2_with fail
  refine HAW.out.mono ?_
  rintro e w1 ⟨rfl, f1⟩
  have HF1 := Lib.hid f1
  have HP1 := Lib.hid (l_parse t w1 (HPV.out w1 f1) HT.out HPW.out)
  clear f1 HAW
  go_wp2_with fail
  refine HP1.out.mono ?_
  clear HP1
  rintro e w2 ⟨A1, c1, px, A2, c2, rfl, hq2, f2⟩
  unfold qyV at hq2
  have hV : qyV q A1 c1 px A2 c2 = .agg #[.slice A1 q.items.length c1, sv q.table, .pointer px, .bool q.grouped, .slice A2 q.groups.length c2] := rfl
  rw [hV]
  obtain ⟨n1, hn1⟩ : ∃ n, q.items.length = n := ⟨_, rfl⟩
  obtain ⟨n2, hn2⟩ : ∃ n, q.groups.length = n := ⟨_, rfl⟩
  obtain ⟨tb, htb⟩ : ∃ n, q.table = n := ⟨_, rfl⟩
  obtain ⟨gr, hgr⟩ : ∃ n, q.grouped = n := ⟨_, rfl⟩
  rw [hn1, hn2, htb, hgr] at hq2 ⊢
  obtain ⟨ya, hya⟩ : ∃ z, w2.heap.size = z := ⟨_, rfl⟩
  obtain ⟨wxa, hwxa⟩ : ∃ x, w2.alloc (.cells #[.slice A1 n1 c1, sv tb, .pointer px, .bool gr, .slice A2 n2 c2] 27) = x := ⟨_, rfl⟩
  have gxa : Fr No w2 wxa := by rw [← hwxa]; exact (Fr.refl No w2).alloc _
  have bxa : Blk wxa ya 27 #[.slice A1 n1 c1, sv tb, .pointer px, .bool gr, .slice A2 n2 c2] := by rw [← hwxa, ← hya]; exact Blk.new w2 27 _
  have sxa : wxa.heap.size = ya + 1 := by rw [← hwxa, ← hya]; simp
  obtain ⟨wza, hwza⟩ : ∃ x, wxa.alloc (.cells #[.int .i64 (c : Int), .int .i64 (p : Int)] 30) = x := ⟨_, rfl⟩
  have gza : Fr No wxa wza := by rw [← hwza]; exact (Fr.refl No wxa).alloc _
  have bza : Blk wza (ya + 1) 30 #[.int .i64 (c : Int), .int .i64 (p : Int)] := by rw [← hwza, ← sxa]; exact Blk.new wxa 30 _
  have ga := gxa.trans gza fun _ _ h => h
  have bqa := bxa.of (gza.block _ bxa.lt id)
  have HYa := Lib.hid hya
  have HXa := Lib.hid hwxa
  have HZa := Lib.hid hwza
  have HFA := Lib.hid ((HF1.out.trans f2 fun _ _ h => h).trans ga fun _ _ h => h)
  have HQA := Lib.hid (hq2.no ga)
  have HBA := Lib.hid bqa
  have HBZ := Lib.hid bza
  have HN1 := Lib.hid hn1
  have HN2 := Lib.hid hn2
  have HTB := Lib.hid htb
  clear hV hn1 hn2 htb hgr hya hwxa gxa bxa sxa hwza gza bza ga bqa f2 hq2
  go_upto_region 3 with fail
  rw [HYa.out, HXa.out, HZa.out]
  have d0 : wza.cell? ⟨ya, 0, none⟩ = some (.slice A1 n1 c1) := HBA.out.cell 0
  have d1 : wza.cell? ⟨ya, 1, none⟩ = some (sv tb) := HBA.out.cell 1
  have d2 : wza.cell? ⟨ya, 2, none⟩ = some (.pointer px) := HBA.out.cell 2
  have d3 : wza.cell? ⟨ya, 3, none⟩ = some (.bool gr) := HBA.out.cell 3
  have d4 : wza.cell? ⟨ya, 4, none⟩ = some (.slice A2 n2 c2) := HBA.out.cell 4
  have e0 : wza.cell? ⟨ya + 1, 0, none⟩ = some (.int .i64 (c : Int)) := HBZ.out.cell 0
  have e1 : wza.cell? ⟨ya + 1, 1, none⟩ = some (.int .i64 (p : Int)) := HBZ.out.cell 1
  by_cases hc : c = 0
  · subst hc
    obtain ⟨hr, hfit, hp0⟩ := HH2.out rfl
    have HR := Lib.hid hr
    have HSH := Lib.hid (show_any q _ wza (HPV.out wza HFA.out) HQA.out fun _ => show_len hr hfit)
    unfold ShowP at HSH
    by_cases hl : 4096 < (showT q).length
    · rw [showB_long hr hl] at HSH
      clear hr hfit hp0 hl
      go_wp2_with fail
      refine HSH.out.mono ?_
      rintro e wb ⟨rfl, fb⟩
      have HFB := Lib.hid (HFA.out.trans fb fun _ _ h => h)
      clear fb d0 d1 d2 d3 d4 e0 e1
      go_wp2_with fail
      go_ret
      exact ⟨rfl, HFB.out⟩
    · rw [showB_ok hr hl] at HSH
      have HAG := Lib.hid (again hr hfit hl)
      have HSS := Lib.hid (sameQ_self hr)
      have HTL : Hid ((showT q).length ≤ maxLen) := Lib.hid (by unfold maxLen; omega)
      obtain ⟨T, hT⟩ : ∃ T, showT q = T := ⟨_, rfl⟩
      rw [hT] at HSH HAG HTL
      clear hr hfit hp0 hl hT
      go_wp2_with fail
      refine HSH.out.mono ?_
      clear HSH
      rintro e wb ⟨rfl, fb⟩
      have HFB := Lib.hid (HFA.out.trans fb fun _ _ h => h)
      have HBB := Lib.hid (HBA.out.of (fb.block _ HBA.out.lt id))
      have HQB := Lib.hid (HQA.out.no fb)
      have HP2 := Lib.hid (l_parse T wb (HPV.out wb HFB.out) HTL.out HAG.out)
      clear fb d0 d1 d2 d3 d4 e0 e1
      go_wp2_with fail
      refine HP2.out.mono ?_
      clear HP2
      rintro e wc ⟨B1, k1, py, B2, k2, rfl, hq3, f3⟩
      have hV : qyV q B1 k1 py B2 k2 = .agg #[.slice B1 q.items.length k1, sv q.table, .pointer py, .bool q.grouped, .slice B2 q.groups.length k2] := rfl
      rw [hV] at hq3 ⊢
      rw [HN1.out, HN2.out, HTB.out] at hq3 ⊢
      obtain ⟨gr2, hgr2⟩ : ∃ n, q.grouped = n := ⟨_, rfl⟩
      rw [hgr2] at hq3 ⊢
      obtain ⟨yd, hyd⟩ : ∃ z, wc.heap.size = z := ⟨_, rfl⟩
      obtain ⟨wxd, hwxd⟩ : ∃ x, wc.alloc (.cells #[.slice B1 n1 k1, sv tb, .pointer py, .bool gr2, .slice B2 n2 k2] 27) = x := ⟨_, rfl⟩
      have gxd : Fr No wc wxd := by rw [← hwxd]; exact (Fr.refl No wc).alloc _
      have bxd : Blk wxd yd 27 #[.slice B1 n1 k1, sv tb, .pointer py, .bool gr2, .slice B2 n2 k2] := by rw [← hwxd, ← hyd]; exact Blk.new wc 27 _
      have sxd : wxd.heap.size = yd + 1 := by rw [← hwxd, ← hyd]; simp
      obtain ⟨wzd, hwzd⟩ : ∃ x, wxd.alloc (.cells #[.int .i64 (0 : Int), .int .i64 (0 : Int)] 30) = x := ⟨_, rfl⟩
      have gzd : Fr No wxd wzd := by rw [← hwzd]; exact (Fr.refl No wxd).alloc _
      have bzd : Blk wzd (yd + 1) 30 #[.int .i64 (0 : Int), .int .i64 (0 : Int)] := by rw [← hwzd, ← sxd]; exact Blk.new wxd 30 _
      have gd := gxd.trans gzd fun _ _ h => h
      have bqd := bxd.of (gzd.block _ bxd.lt id)
      have HYd := Lib.hid hyd
      have HXd := Lib.hid hwxd
      have HZd := Lib.hid hwzd
      have fcd := f3.trans gd fun _ _ h => h
      have HFD := Lib.hid (HFB.out.trans fcd fun _ _ h => h)
      have HQD := Lib.hid (hq3.no gd)
      have HQE := Lib.hid (HQB.out.no fcd)
      have HBD := Lib.hid (HBB.out.of (fcd.block _ HBB.out.lt id))
      have HBE := Lib.hid bqd
      have HBF := Lib.hid bzd
      clear hV hgr2 hyd hwxd gxd bxd sxd hwzd gzd bzd gd bqd f3 hq3 fcd
      go_upto_region 9 with fail
      rw [HYd.out, HXd.out, HZd.out]
      have d0 : wzd.cell? ⟨ya, 0, none⟩ = some (.slice A1 n1 c1) := HBD.out.cell 0
      have d1 : wzd.cell? ⟨ya, 1, none⟩ = some (sv tb) := HBD.out.cell 1
      have d2 : wzd.cell? ⟨ya, 2, none⟩ = some (.pointer px) := HBD.out.cell 2
      have d3 : wzd.cell? ⟨ya, 3, none⟩ = some (.bool gr) := HBD.out.cell 3
      have d4 : wzd.cell? ⟨ya, 4, none⟩ = some (.slice A2 n2 c2) := HBD.out.cell 4
      have HRQ := Lib.hid (right_query (d := 32) (Nat.le_refl _) _ q _ wzd (HPV.out wzd HFD.out).lr (qyTo_of HQE.out))
      rw [HR.out] at HRQ
      go_wp2_with fail
      refine HRQ.out.mono ?_
      clear HRQ
      rintro e we ⟨rfl, fe⟩
      have HFE := Lib.hid (HFD.out.trans fe fun _ _ h => h)
      have HBD2 := Lib.hid (HBD.out.of (fe.block _ HBD.out.lt id))
      have HBE2 := Lib.hid (HBE.out.of (fe.block _ HBE.out.lt id))
      have HBF2 := Lib.hid (HBF.out.of (fe.block _ HBF.out.lt id))
      have HSM := Lib.hid (same_query (d := 4096) (Nat.le_refl _) q q we (qyTo_of (HQE.out.no fe)) (qyTo_of (HQD.out.no fe)))
      rw [HSS.out] at HSM
      clear fe d0 d1 d2 d3 d4
      have d0 : we.cell? ⟨ya, 0, none⟩ = some (.slice A1 n1 c1) := HBD2.out.cell 0
      have d1 : we.cell? ⟨ya, 1, none⟩ = some (sv tb) := HBD2.out.cell 1
      have d2 : we.cell? ⟨ya, 2, none⟩ = some (.pointer px) := HBD2.out.cell 2
      have d3 : we.cell? ⟨ya, 3, none⟩ = some (.bool gr) := HBD2.out.cell 3
      have d4 : we.cell? ⟨ya, 4, none⟩ = some (.slice A2 n2 c2) := HBD2.out.cell 4
      have b0 : we.cell? ⟨yd, 0, none⟩ = some (.slice B1 n1 k1) := HBE2.out.cell 0
      have b1 : we.cell? ⟨yd, 1, none⟩ = some (sv tb) := HBE2.out.cell 1
      have b2 : we.cell? ⟨yd, 2, none⟩ = some (.pointer py) := HBE2.out.cell 2
      have b3 : we.cell? ⟨yd, 3, none⟩ = some (.bool gr2) := HBE2.out.cell 3
      have b4 : we.cell? ⟨yd, 4, none⟩ = some (.slice B2 n2 k2) := HBE2.out.cell 4
      have z0 : we.cell? ⟨yd + 1, 0, none⟩ = some (.int .i64 0) := HBF2.out.cell 0
      have z1 : we.cell? ⟨yd + 1, 1, none⟩ = some (.int .i64 0) := HBF2.out.cell 1
      go_wp2_with fail
      refine HSM.out.mono ?_
      clear HSM
      rintro e wf ⟨rfl, ff⟩
      have HFF := Lib.hid (HFE.out.trans ff fun _ _ h => h)
      clear ff d0 d1 d2 d3 d4 b0 b1 b2 b3 b4 z0 z1
      go_wp2_with fail
      go_ret
      exact ⟨rfl, HFF.out⟩
  · have hq0 := HH3.out hc
    subst hq0
    have hpx := HQA.out.nul
    subst hpx
    have h1 : n1 = 0 := HN1.out.symm
    have h2 : n2 = 0 := HN2.out.symm
    have h3 : tb = [] := HTB.out.symm
    subst h1 h2 h3
    have hcb : ((c : Int) == 0) = false := by simp; omega
    have hsz := HSZ.out
    have hple : (p : Int) ≤ (t.length : Int) := by have := HH1.out; omega
    have hp0 : (0 : Int) ≤ (p : Int) := by omega
    clear hc
    go_wp2_with fail
    all_goals
      go_ret
      exact ⟨by first | rfl | (simp; done) | (simp_all; done) | (simp_all; omega), HFA.out⟩
end Go.Proofs.YtkcnbmgaeompjaaGreatDoor
