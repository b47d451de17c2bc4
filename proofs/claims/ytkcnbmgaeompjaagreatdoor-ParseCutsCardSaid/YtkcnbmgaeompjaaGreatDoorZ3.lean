/- ParseCuts, walked. -/
import Derived.Test.YtkcnbmgaeompjaaGreatDoorP17
import Derived.Test.YtkcnbmgaeompjaaGreatDoorW2
namespace Go.Proofs.YtkcnbmgaeompjaaGreatDoor
open Go.RowKit Go.Maps
set_option linter.unusedVariables false

theorem showB_cases3 (q : Qy) : (∃ c, (c = 1 ∨ c = 45) ∧ showB q = ([], c)) ∨ (rightQ q = true ∧ ¬ 4096 < (showT q).length ∧ showB q = (showT q, 0)) := by
  cases hr : rightQ q with
  | false => exact .inl ⟨1, .inl rfl, showB_no hr⟩
  | true =>
    by_cases hl : 4096 < (showT q).length
    · exact .inl ⟨45, .inr rfl, showB_long hr hl⟩
    · exact .inr ⟨rfl, hl, showB_ok hr hl⟩
theorem show_any3 {K : Nat → Prop} (q : Qy) (v : Value) (w : World) (hp : Pv w) (h : QyAt K w q v) {T : Tx} {c : Nat} (hs : showB q = (T, c)) : Calls Tryz.prog 16 #[v] w fun e w' => e = .returned (.tuple #[sv T, .int .i64 (c : Nat)]) ∧ Fr No w w' := by
  have := show_any q v w hp h fun hr => show_len hr h.fits
  unfold ShowP at this
  rw [hs] at this
  exact this
theorem words_two {q : Qy} (h : rightQ q = true) (hf : q.cond.Fits) (hl : ¬ 4096 < (showT q).length) : ∃ ws, wordsB (showT q) = (ws, 0, 0) ∧ 2 ≤ ws.length ∧ ws.length ≤ 4097 := by
  have hw := words_show (rq_of h) hf (by omega)
  have h2 := wordsB_len (showT q)
  rw [hw] at h2
  refine ⟨_, hw, ?_, h2⟩
  have : 1 ≤ (queryP q).length := by unfold queryP; simp
  simp [mk_len]; omega
set_option maxRecDepth 100000 in
set_option maxHeartbeats 8000000 in
theorem cuts_law {K : Nat → Prop} (q : Qy) (k0 : Int) (hm : i64 k0) (v : Value) (w : World) (hp : Pv w) (h : QyAt K w q v) : Calls Tryz.prog 8 #[v, .int .i64 k0] w (TellsB true w) := by
  have hgd := eqd26
  have heq := eql26
  have hfit := h.fits
  obtain ⟨A1, c1, px, A2, c2, rfl, -, -⟩ := (qyTo_of (d := 0) h).qv
  have hV : qyV q A1 c1 px A2 c2 = .agg #[.slice A1 q.items.length c1, sv q.table, .pointer px, .bool q.grouped, .slice A2 q.groups.length c2] := rfl
  rw [hV] at h ⊢
  obtain ⟨n1, hn1⟩ : ∃ n, q.items.length = n := ⟨_, rfl⟩
  obtain ⟨n2, hn2⟩ : ∃ n, q.groups.length = n := ⟨_, rfl⟩
  obtain ⟨tb, htb⟩ : ∃ n, q.table = n := ⟨_, rfl⟩
  obtain ⟨gr, hgr⟩ : ∃ n, q.grouped = n := ⟨_, rfl⟩
  rw [hn1, hn2, htb, hgr] at h ⊢
  obtain ⟨wa, hwa⟩ : ∃ w1, w.alloc (.cells #[.slice A1 n1 c1, sv tb, .pointer px, .bool gr, .slice A2 n2 c2] 27) = w1 := ⟨_, rfl⟩
  obtain ⟨ya, hya⟩ : ∃ z, w.heap.size = z := ⟨_, rfl⟩
  have fa : Fr No w wa := by rw [← hwa]; exact (Fr.refl No w).alloc _
  have hba : Blk wa ya 27 #[.slice A1 n1 c1, sv tb, .pointer px, .bool gr, .slice A2 n2 c2] := by rw [← hwa, ← hya]; exact Blk.new w 27 _
  have HAW : Hid (Calls Tryz.prog 12 #[] wa (TellsB true wa)) := Lib.hid (awake_any wa (hp.no fa))
  have HPV : Hid (∀ w', Fr No w w' → Pv w') := Lib.hid fun w' f' => hp.no f'
  have HQ := Lib.hid (h.no fa)
  have HB := Lib.hid hba
  have HFA := Lib.hid fa
  have HWA := Lib.hid hwa
  have HYA := Lib.hid hya
  have HTB := Lib.hid htb
  have HFIT := Lib.hid hfit
  have HM := Lib.hid hm
  clear hp h hV hn1 hn2 htb hgr fa hba hwa hya hfit hm
  go_enter Tryz.func8, Tryz.ntmps8
  go_upto_region 1 with fail
  rw [HYA.out, HWA.out]
  go_wp2_with fail
  refine HAW.out.mono ?_
  clear HAW
  rintro e w1 ⟨rfl, f1⟩
  have HF1 := Lib.hid (HFA.out.trans f1 fun _ _ h => h)
  have HQ1 := Lib.hid (HQ.out.no f1)
  have HB1 := Lib.hid (HB.out.of (f1.block _ HB.out.lt id))
  clear f1
  have d0 : w1.cell? ⟨ya, 0, none⟩ = some (.slice A1 n1 c1) := HB1.out.cell 0
  have d1 : w1.cell? ⟨ya, 1, none⟩ = some (sv tb) := HB1.out.cell 1
  have d2 : w1.cell? ⟨ya, 2, none⟩ = some (.pointer px) := HB1.out.cell 2
  have d3 : w1.cell? ⟨ya, 3, none⟩ = some (.bool gr) := HB1.out.cell 3
  have d4 : w1.cell? ⟨ya, 4, none⟩ = some (.slice A2 n2 c2) := HB1.out.cell 4
  rcases showB_cases3 q with ⟨c, hc, hs⟩ | ⟨hr, hl, hs⟩
  · have HSH := Lib.hid (show_any3 q _ w1 (HPV.out w1 HF1.out) HQ1.out hs)
    clear hs
    rcases hc with rfl | rfl
    all_goals
      go_wp2_with fail
      refine HSH.out.mono ?_
      clear HSH
      rintro e wb ⟨rfl, fb⟩
      have HFB := Lib.hid (HF1.out.trans fb fun _ _ h => h)
      clear fb d0 d1 d2 d3 d4
      go_wp2_with fail
      go_ret
      exact ⟨rfl, HFB.out⟩
  have HSH := Lib.hid (show_any3 q _ w1 (HPV.out w1 HF1.out) HQ1.out hs)
  obtain ⟨ws, hws, hN2, hN9⟩ := words_two hr HFIT.out hl
  have HCUT := Lib.hid (fun k hk => cut_parse hr HFIT.out hl k (by rw [hws]; exact hk))
  simp only [hws] at HCUT
  obtain ⟨T, hT⟩ : ∃ T, showT q = T := ⟨_, rfl⟩
  rw [hT] at HSH HCUT hws hl
  have HWS := Lib.hid hws
  have HTL : Hid (T.length ≤ 4096) := Lib.hid (by omega)
  clear hr hl hs hT hws
  go_wp2_with fail
  refine HSH.out.mono ?_
  clear HSH
  rintro e wb ⟨rfl, fb⟩
  have HFB := Lib.hid (HF1.out.trans fb fun _ _ h => h)
  have HBB := Lib.hid (HB1.out.of (fb.block _ HB1.out.lt id))
  have HW := Lib.hid (l_words ⟨T.toArray⟩ wb (HPV.out wb HFB.out).lr (by rw [sz]; have := HTL.out; unfold maxLen; omega) HWS.out)
  clear fb d0 d1 d2 d3 d4
  go_wp2_with fail
  refine HW.out.mono ?_
  clear HW
  rintro e wc ⟨vl, rfl, hlw, fc, -, -⟩
  obtain ⟨AL, cL, rfl, -, hrow⟩ := hlw
  obtain ⟨gl, rfl, hgl, hcells⟩ := hrow (by omega)
  obtain ⟨N, hN⟩ : ∃ N, ws.length = N := ⟨_, rfl⟩
  rw [hN] at hN2 hN9 HCUT
  rw [hN]
  obtain ⟨yd, hyd⟩ : ∃ z, wc.heap.size = z := ⟨_, rfl⟩
  obtain ⟨wd, hwd⟩ : ∃ x, wc.alloc (.cells #[.int .i64 (0 : Int), .int .i64 (0 : Int)] 30) = x := ⟨_, rfl⟩
  have gd : Fr No wc wd := by rw [← hwd]; exact (Fr.refl No wc).alloc _
  have bd : Blk wd yd 30 #[.int .i64 (0 : Int), .int .i64 (0 : Int)] := by rw [← hwd, ← hyd]; exact Blk.new wc 30 _
  have fcd := fc.trans gd fun _ _ h => h
  have z0 : wd.cell? ⟨yd, 0, none⟩ = some (.int .i64 0) := bd.cell 0
  have HFD := Lib.hid (HFB.out.trans fcd fun _ _ h => h)
  have HBD := Lib.hid (HBB.out.of (fcd.block _ HBB.out.lt id))
  have HCELL : Hid (∀ k x, ws[k]? = some x → wd.cell? ⟨gl, k * 3 + 2, none⟩ = some (.int .i64 (x.pos : Nat))) := Lib.hid fun k x hx => (cell_of_heap (gd.block gl hgl id)).trans (hcells k x hx).2.2
  have HYD := Lib.hid hyd
  have HWD := Lib.hid hwd
  obtain ⟨M, rfl⟩ : ∃ M, N = M + 1 := ⟨N - 1, by omega⟩
  have hM1 : IntKind.i64.wrap ((M : Int) + 1 - 1) = (M : Int) := by rw [IntWalk.i64_in _ (by omega)]; omega
  have hM2 : IntKind.i64.wrap (M : Int) = (M : Int) := IntWalk.i64_in _ (by omega)
  have hM0 : ((M : Int) == 0) = false := by simp; omega
  have hM3 : ¬ (M : Int) = 0 := by omega
  have hN2i : ((M : Int) + 1 < 2) = False := eq_false (by omega)
  have HN := Lib.hid hN
  have HMB : Hid (1 ≤ M ∧ M ≤ 4096) := Lib.hid (by omega)
  have hkm := HM.out
  unfold i64 at hkm
  clear hrow hcells hgl fc gd bd fcd hyd hwd hN
  obtain ⟨x, hx0, hx1, hxx⟩ : ∃ x : Int, 0 ≤ x ∧ x ≤ 9223372036854775807 ∧ ((0 ≤ k0 ∧ k0 = x) ∨ (k0 < 0 ∧ -(k0 + 1) = x)) := by
    by_cases hk : 0 ≤ k0
    · exact ⟨k0, hk, by omega, .inl ⟨hk, rfl⟩⟩
    · exact ⟨-(k0 + 1), by omega, by omega, .inr ⟨by omega, rfl⟩⟩
  obtain ⟨j, hj⟩ : ∃ j : Nat, x.tmod (M : Int) = (j : Int) := ⟨(x.tmod (M : Int)).toNat, by have := Int.tmod_nonneg (M : Int) hx0; omega⟩
  have hjM : j < M := by have := Int.tmod_lt_of_pos x (show (0 : Int) < (M : Int) by omega); omega
  have hj2 : IntKind.i64.wrap (j : Int) = (j : Int) := IntWalk.i64_in _ (by omega)
  obtain ⟨wdd, hwd1, hwd2, hPS⟩ := HCUT.out j (by omega)
  have hcell := HCELL.out j wdd hwd1
  obtain ⟨pos, hpos⟩ : ∃ p, wdd.pos = p := ⟨_, rfl⟩
  rw [hpos] at hwd2 hPS hcell
  have HPS := Lib.hid hPS
  have hp1 : (pos : Int) ≤ (T.length : Int) := by omega
  have HPL : Hid (pos ≤ T.length) := Lib.hid hwd2
  have hji : (j : Int) < (M : Int) + 1 := by omega
  have hex : ByteArray.extract ⟨T.toArray⟩ 0 pos = ⟨(T.take pos).toArray⟩ := by
    refine mk_eq ?_
    rw [ext_toList]; rfl
  have HU : Hid ((T.take pos).length = pos) := Lib.hid (by rw [List.length_take]; omega)
  have HPOS : Hid (pos ≤ 4096) := Lib.hid (by have := HTL.out; omega)
  obtain ⟨U, hU⟩ : ∃ U, T.take pos = U := ⟨_, rfl⟩
  rw [hU] at hex HPS HU
  clear hpos hwd1 hwd2 hPS hU HCELL HCUT hjM hkm
  rcases hxx with ⟨hk, rfl⟩ | ⟨hk, hx⟩
  all_goals
    (try have hkf : (k0 < 0) = False := eq_false (by omega))
    (try have e1 : IntKind.i64.wrap (k0 + 1) = k0 + 1 := IntWalk.i64_in _ (by omega))
    (try have e2 : IntKind.i64.wrap (-(k0 + 1)) = x := by rw [IntWalk.i64_in _ (by omega)]; exact hx)
    go_upto_region 6 with fail
    rw [HYD.out, HWD.out]
    have hlu : U.length ≤ maxLen := by have := HU.out; have := HPOS.out; unfold maxLen; omega
    rcases HPS.out with hP | ⟨q', hP, hr', ht'⟩
    · have HP := Lib.hid (l_parse U wd (HPV.out wd HFD.out) hlu hP)
      have hul := HU.out
      clear hlu hP
      go_wp2_with fail
      refine HP.out.mono ?_
      clear HP
      rintro e w4 ⟨B1, k1', py, B2, k2', rfl, hq4, f4⟩
      clear hq4
      have hV : qyV Qy0 B1 k1' py B2 k2' = .agg #[.slice B1 0 k1', sv [], .pointer py, .bool false, .slice B2 0 k2'] := rfl
      rw [hV]
      obtain ⟨yz, hyz⟩ : ∃ z, w4.heap.size = z := ⟨_, rfl⟩
      obtain ⟨wx, hwx⟩ : ∃ x, w4.alloc (.cells #[.slice B1 0 k1', sv [], .pointer py, .bool false, .slice B2 0 k2'] 27) = x := ⟨_, rfl⟩
      have gx : Fr No w4 wx := by rw [← hwx]; exact (Fr.refl No w4).alloc _
      have sx : wx.heap.size = yz + 1 := by rw [← hwx, ← hyz]; simp
      obtain ⟨wz, hwz⟩ : ∃ x, wx.alloc (.cells #[.int .i64 (41 : Int), .int .i64 (pos : Int)] 30) = x := ⟨_, rfl⟩
      have gz : Fr No wx wz := by rw [← hwz]; exact (Fr.refl No wx).alloc _
      have bz : Blk wz (yz + 1) 30 #[.int .i64 (41 : Int), .int .i64 (pos : Int)] := by rw [← hwz, ← sx]; exact Blk.new wx 30 _
      have z0 : wz.cell? ⟨yz + 1, 0, none⟩ = some (.int .i64 41) := bz.cell 0
      have z1 : wz.cell? ⟨yz + 1, 1, none⟩ = some (.int .i64 (pos : Int)) := bz.cell 1
      have HYZ := Lib.hid hyz
      have HWX := Lib.hid hwx
      have HWZ := Lib.hid hwz
      have HFZ := Lib.hid (HFD.out.trans (f4.trans (gx.trans gz fun _ _ h => h) fun _ _ h => h) fun _ _ h => h)
      clear hV hyz hwx gx sx hwz gz bz f4
      go_upto_region 14 with fail
      rw [HYZ.out, HWX.out, HWZ.out]
      go_wp2_with fail
      go_ret
      exact ⟨rfl, HFZ.out⟩
    · have HP := Lib.hid (l_parse U wd (HPV.out wd HFD.out) hlu hP)
      have HR' := Lib.hid hr'
      have HT' : Hid (q'.table = tb) := Lib.hid (ht'.trans HTB.out)
      clear hlu hP hr' ht'
      go_wp2_with fail
      refine HP.out.mono ?_
      clear HP
      rintro e w4 ⟨B1, k1', py, B2, k2', rfl, hq4, f4⟩
      have hV : qyV q' B1 k1' py B2 k2' = .agg #[.slice B1 q'.items.length k1', sv q'.table, .pointer py, .bool q'.grouped, .slice B2 q'.groups.length k2'] := rfl
      rw [hV] at hq4 ⊢
      obtain ⟨m1, hm1⟩ : ∃ n, q'.items.length = n := ⟨_, rfl⟩
      obtain ⟨m2, hm2⟩ : ∃ n, q'.groups.length = n := ⟨_, rfl⟩
      obtain ⟨gr2, hgr2⟩ : ∃ n, q'.grouped = n := ⟨_, rfl⟩
      rw [hm1, hm2, hgr2, HT'.out] at hq4 ⊢
      obtain ⟨yz, hyz⟩ : ∃ z, w4.heap.size = z := ⟨_, rfl⟩
      obtain ⟨wx, hwx⟩ : ∃ x, w4.alloc (.cells #[.slice B1 m1 k1', sv tb, .pointer py, .bool gr2, .slice B2 m2 k2'] 27) = x := ⟨_, rfl⟩
      have gx : Fr No w4 wx := by rw [← hwx]; exact (Fr.refl No w4).alloc _
      have bx : Blk wx yz 27 #[.slice B1 m1 k1', sv tb, .pointer py, .bool gr2, .slice B2 m2 k2'] := by rw [← hwx, ← hyz]; exact Blk.new w4 27 _
      have sx : wx.heap.size = yz + 1 := by rw [← hwx, ← hyz]; simp
      obtain ⟨wz, hwz⟩ : ∃ x, wx.alloc (.cells #[.int .i64 (0 : Int), .int .i64 (0 : Int)] 30) = x := ⟨_, rfl⟩
      have gz : Fr No wx wz := by rw [← hwz]; exact (Fr.refl No wx).alloc _
      have bz : Blk wz (yz + 1) 30 #[.int .i64 (0 : Int), .int .i64 (0 : Int)] := by rw [← hwz, ← sx]; exact Blk.new wx 30 _
      have z0 : wz.cell? ⟨yz + 1, 0, none⟩ = some (.int .i64 0) := bz.cell 0
      have bq := bx.of (gz.block _ bx.lt id)
      have f4z := f4.trans (gx.trans gz fun _ _ h => h) fun _ _ h => h
      have HBA := Lib.hid (HBD.out.of (f4z.block _ HBD.out.lt id))
      have HBQ := Lib.hid bq
      have HFZ := Lib.hid (HFD.out.trans f4z fun _ _ h => h)
      have HQR := hq4.no (gx.trans gz fun _ _ h => h)
      have HRQ := Lib.hid (right_query (d := 32) (Nat.le_refl _) _ q' _ wz (HPV.out wz HFZ.out).lr (qyTo_of HQR))
      rw [HR'.out] at HRQ
      have b0 : wz.cell? ⟨yz, 0, none⟩ = some (.slice B1 m1 k1') := bq.cell 0
      have b1 : wz.cell? ⟨yz, 1, none⟩ = some (sv tb) := bq.cell 1
      have b2 : wz.cell? ⟨yz, 2, none⟩ = some (.pointer py) := bq.cell 2
      have b3 : wz.cell? ⟨yz, 3, none⟩ = some (.bool gr2) := bq.cell 3
      have b4 : wz.cell? ⟨yz, 4, none⟩ = some (.slice B2 m2 k2') := bq.cell 4
      have HYZ := Lib.hid hyz
      have HWX := Lib.hid hwx
      have HWZ := Lib.hid hwz
      clear hV hm1 hm2 hgr2 hyz hwx gx bx sx hwz gz bz bq f4 f4z hq4 HQR
      go_upto_region 14 with fail
      rw [HYZ.out, HWX.out, HWZ.out]
      go_wp2_with fail
      refine HRQ.out.mono ?_
      rintro e w5 ⟨rfl, f5⟩
      have HF5 := Lib.hid (HFZ.out.trans f5 fun _ _ h => h)
      have t1 : w5.cell? ⟨yz, 1, none⟩ = some (sv tb) := (HBQ.out.of (f5.block _ HBQ.out.lt id)).cell 1
      have t2 : w5.cell? ⟨ya, 1, none⟩ = some (sv tb) := (HBA.out.of (f5.block _ HBA.out.lt id)).cell 1
      clear f5 b0 b1 b2 b3 b4 z0
      go_wp2_with fail
      go_ret
      exact ⟨rfl, HF5.out⟩
end Go.Proofs.YtkcnbmgaeompjaaGreatDoor
