/- ParseBrackets, walked. -/
import Derived.Test.YtkcnbmgaeompjaaGreatDoorP16
import Derived.Test.YtkcnbmgaeompjaaGreatDoorW2
namespace Go.Proofs.YtkcnbmgaeompjaaGreatDoor
open Go.RowKit Go.Maps
set_option linter.unusedVariables false

theorem tmod_pm2 (n : Int) (d : Nat) (hd : 0 < d) : ∃ k : Nat, k < d ∧ (n.tmod d = k ∨ (n.tmod d = -(k : Int) ∧ 0 < k)) := by
  have h1 := Int.tmod_lt_of_pos n (show (0 : Int) < d by omega)
  have h2 := Int.lt_tmod_of_pos n (show (0 : Int) < d by omega)
  refine ⟨(n.tmod d).natAbs, by omega, ?_⟩
  omega
theorem showB_cases (q : Qy) : (∃ c, (c = 1 ∨ c = 45) ∧ showB q = ([], c)) ∨ (rightQ q = true ∧ ¬ 4096 < (showT q).length ∧ showB q = (showT q, 0)) := by
  cases hr : rightQ q with
  | false => exact .inl ⟨1, .inl rfl, showB_no hr⟩
  | true =>
    by_cases hl : 4096 < (showT q).length
    · exact .inl ⟨45, .inr rfl, showB_long hr hl⟩
    · exact .inr ⟨rfl, hl, showB_ok hr hl⟩
theorem show_any2 {K : Nat → Prop} (q : Qy) (v : Value) (w : World) (hp : Pv w) (h : QyAt K w q v) {T : Tx} {c : Nat} (hs : showB q = (T, c)) : Calls Tryz.prog 16 #[v] w fun e w' => e = .returned (.tuple #[sv T, .int .i64 (c : Nat)]) ∧ Fr No w w' := by
  have := show_any q v w hp h fun hr => show_len hr h.fits
  unfold ShowP at this
  rw [hs] at this
  exact this
set_option maxRecDepth 100000 in
set_option maxHeartbeats 8000000 in
theorem brackets_law {K : Nat → Prop} (q : Qy) (many : Int) (hm : i64 many) (v : Value) (w : World) (hp : Pv w) (h : QyAt K w q v) : Calls Tryz.prog 9 #[v, .int .i64 many] w (TellsB true w) := by
  have hgd := eqd26
  have heq := eql26
  have hfit := h.fits
  have hq0 := h
  obtain ⟨A1, c1, px, A2, c2, rfl, -, -⟩ := (qyTo_of (d := 0) h).qv
  have hV : qyV q A1 c1 px A2 c2 = .agg #[.slice A1 q.items.length c1, sv q.table, .pointer px, .bool q.grouped, .slice A2 q.groups.length c2] := rfl
  rw [hV] at h hq0 ⊢
  obtain ⟨a, C, G, he, hit, htl, hcd, hgr0⟩ := hq0
  injection he with he
  obtain ⟨rfl, rfl, rfl⟩ : a = .slice A1 q.items.length c1 ∧ C = .pointer px ∧ G = .slice A2 q.groups.length c2 := by
    have e := congrArg Array.toList he
    simp only [List.cons.injEq] at e
    exact ⟨e.1.symm, e.2.2.1.symm, e.2.2.2.2.1.symm⟩
  clear he h hV hgr0
  obtain ⟨n1, hn1⟩ : ∃ n, q.items.length = n := ⟨_, rfl⟩
  obtain ⟨n2, hn2⟩ : ∃ n, q.groups.length = n := ⟨_, rfl⟩
  obtain ⟨tb, htb⟩ : ∃ n, q.table = n := ⟨_, rfl⟩
  obtain ⟨gr, hgr⟩ : ∃ n, q.grouped = n := ⟨_, rfl⟩
  have HSEL : Hid (∀ w', Fr No w w' → QyAt K w' (selQ q) (.agg #[.slice A1 n1 c1, sv tb, .pointer none, .bool false, .slice none 0 0])) := Lib.hid fun w' f' => by
    rw [← hn1, ← htb]
    exact ⟨_, _, _, rfl, hit.at_ itG_elem f', htl, rfl, RowE.nil _ _ _ _⟩
  have HFULL : Hid (∀ w', Fr No w w' → QyAt K w' (fullQ q) (.agg #[.slice A1 n1 c1, sv tb, .pointer px, .bool false, .slice none 0 0])) := Lib.hid fun w' f' => by
    rw [← hn1, ← htb]
    exact ⟨_, _, _, rfl, hit.at_ itG_elem f', htl, hcd.mono fun k hk hkl => ⟨hk, f'.block k hkl id⟩, RowE.nil _ _ _ _⟩
  have HNP : Hid ((q.cond = .none ∧ px = none) ∨ (q.cond ≠ .none ∧ ∃ g o, px = some ⟨g, o, none⟩)) := Lib.hid (by
    rcases (cdTo_of q.cond 0 _ hcd).ptr with ⟨e1, e2⟩ | ⟨e1, g, o, e2⟩
    · exact .inl ⟨e1, by injection e2⟩
    · exact .inr ⟨e1, g, o, by injection e2⟩)
  rw [hn1, hn2, htb, hgr]
  obtain ⟨wa, hwa⟩ : ∃ w1, w.alloc (.cells #[.slice A1 n1 c1, sv tb, .pointer px, .bool gr, .slice A2 n2 c2] 27) = w1 := ⟨_, rfl⟩
  obtain ⟨ya, hya⟩ : ∃ z, w.heap.size = z := ⟨_, rfl⟩
  have fa : Fr No w wa := by rw [← hwa]; exact (Fr.refl No w).alloc _
  have hba : Blk wa ya 27 #[.slice A1 n1 c1, sv tb, .pointer px, .bool gr, .slice A2 n2 c2] := by rw [← hwa, ← hya]; exact Blk.new w 27 _
  have HAW : Hid (Calls Tryz.prog 12 #[] wa (TellsB true wa)) := Lib.hid (awake_any wa (hp.no fa))
  have HPV : Hid (∀ w', Fr No w w' → Pv w') := Lib.hid fun w' f' => hp.no f'
  have HB := Lib.hid hba
  have HFA := Lib.hid fa
  have HWA := Lib.hid hwa
  have HYA := Lib.hid hya
  have HN1 := Lib.hid hn1
  have HTB := Lib.hid htb
  have HFIT := Lib.hid hfit
  have HM := Lib.hid hm
  clear hp hn1 hn2 htb hgr fa hba hwa hya hfit hit htl hcd hm
  go_enter Tryz.func9, Tryz.ntmps9
  go_upto_region 1 with fail
  rw [HYA.out, HWA.out]
  go_wp2_with fail
  refine HAW.out.mono ?_
  clear HAW
  rintro e w1 ⟨rfl, f1⟩
  have HF1 := Lib.hid (HFA.out.trans f1 fun _ _ h => h)
  have HB1 := Lib.hid (HB.out.of (f1.block _ HB.out.lt id))
  clear f1
  have d0 : w1.cell? ⟨ya, 0, none⟩ = some (.slice A1 n1 c1) := HB1.out.cell 0
  have d1 : w1.cell? ⟨ya, 1, none⟩ = some (sv tb) := HB1.out.cell 1
  have d2 : w1.cell? ⟨ya, 2, none⟩ = some (.pointer px) := HB1.out.cell 2
  have d3 : w1.cell? ⟨ya, 3, none⟩ = some (.bool gr) := HB1.out.cell 3
  have d4 : w1.cell? ⟨ya, 4, none⟩ = some (.slice A2 n2 c2) := HB1.out.cell 4
  obtain ⟨yb, hyb⟩ : ∃ z, w1.heap.size = z := ⟨_, rfl⟩
  obtain ⟨wb, hwb⟩ : ∃ x, w1.alloc (.cells #[.slice A1 n1 c1, sv tb, .pointer px, .bool gr, .slice A2 n2 c2] 27) = x := ⟨_, rfl⟩
  have gb : Fr No w1 wb := by rw [← hwb]; exact (Fr.refl No w1).alloc _
  have bb : Blk wb yb 27 #[.slice A1 n1 c1, sv tb, .pointer px, .bool gr, .slice A2 n2 c2] := by rw [← hwb, ← hyb]; exact Blk.new w1 27 _
  have x2 : wb.frozen? ⟨yb, 2, none⟩ = false := bb.frozen 2
  have x3 : wb.frozen? ⟨yb, 3, none⟩ = false := bb.frozen 3
  have x4 : wb.frozen? ⟨yb, 4, none⟩ = false := bb.frozen 4
  have y2 : wb.cell? ⟨yb, 2, none⟩ = some (.pointer px) := bb.cell 2
  have y3 : wb.cell? ⟨yb, 3, none⟩ = some (.bool gr) := bb.cell 3
  have y4 : wb.cell? ⟨yb, 4, none⟩ = some (.slice A2 n2 c2) := bb.cell 4
  obtain ⟨wc, hwc⟩ : ∃ x, ((wb.setCell ⟨yb, 2, none⟩ (.pointer none)).setCell ⟨yb, 3, none⟩ (.bool false)).setCell ⟨yb, 4, none⟩ (.slice none 0 0) = x := ⟨_, rfl⟩
  have gc : Fr No w1 wc := by rw [← hwc]; exact fr_new (fr_new (fr_new gb (by omega)) (by omega)) (by omega)
  have bc : Blk wc yb 27 #[.slice A1 n1 c1, sv tb, .pointer none, .bool false, .slice none 0 0] := by rw [← hwc]; exact ((bb.set_ 2 (.pointer none)).set_ 3 (.bool false)).set_ 4 (.slice none 0 0)
  have HYB := Lib.hid hyb
  have HWB := Lib.hid hwb
  have HWC := Lib.hid hwc
  have HBC := Lib.hid bc
  have HFC := Lib.hid (HF1.out.trans gc fun _ _ h => h)
  have HBA := Lib.hid (HB1.out.of (gc.block _ HB1.out.lt id))
  clear hyb hwb gb bb hwc gc bc
  go_upto_region 3 with fail
  rw [HYB.out, HWB.out]
  go_upto_region 6 with fail
  rw [HWC.out]
  clear d0 d1 d2 d3 d4 x2 x3 x4 y2 y3 y4
  have d0 : wc.cell? ⟨yb, 0, none⟩ = some (.slice A1 n1 c1) := HBC.out.cell 0
  have d1 : wc.cell? ⟨yb, 1, none⟩ = some (sv tb) := HBC.out.cell 1
  have d2 : wc.cell? ⟨yb, 2, none⟩ = some (.pointer none) := HBC.out.cell 2
  have d3 : wc.cell? ⟨yb, 3, none⟩ = some (.bool false) := HBC.out.cell 3
  have d4 : wc.cell? ⟨yb, 4, none⟩ = some (.slice none 0 0) := HBC.out.cell 4
  obtain ⟨S, cS, hS⟩ : ∃ S c, showB (selQ q) = (S, c) := ⟨_, _, rfl⟩
  obtain ⟨T, cT, hT⟩ : ∃ S c, showB (fullQ q) = (S, c) := ⟨_, _, rfl⟩
  have HSS := Lib.hid hS
  have HTT := Lib.hid hT
  have HS1 := Lib.hid (show_any2 (selQ q) _ wc (HPV.out wc HFC.out) (HSEL.out wc HFC.out) hS)
  clear hS hT
  go_wp2_with fail
  refine HS1.out.mono ?_
  clear HS1
  rintro e w2 ⟨rfl, f2⟩
  have HF2 := Lib.hid (HFC.out.trans f2 fun _ _ h => h)
  have HBA2 := Lib.hid (HBA.out.of (f2.block _ HBA.out.lt id))
  have HBC2 := Lib.hid (HBC.out.of (f2.block _ HBC.out.lt id))
  clear f2 d0 d1 d2 d3 d4
  have d0 : w2.cell? ⟨yb, 0, none⟩ = some (.slice A1 n1 c1) := HBC2.out.cell 0
  have d1 : w2.cell? ⟨yb, 1, none⟩ = some (sv tb) := HBC2.out.cell 1
  have d2 : w2.cell? ⟨yb, 2, none⟩ = some (.pointer none) := HBC2.out.cell 2
  have d3 : w2.cell? ⟨yb, 3, none⟩ = some (.bool false) := HBC2.out.cell 3
  have d4 : w2.cell? ⟨yb, 4, none⟩ = some (.slice none 0 0) := HBC2.out.cell 4
  obtain ⟨yd, hyd⟩ : ∃ z, w2.heap.size = z := ⟨_, rfl⟩
  obtain ⟨wd, hwd⟩ : ∃ x, w2.alloc (.cells #[.slice A1 n1 c1, sv tb, .pointer none, .bool false, .slice none 0 0] 27) = x := ⟨_, rfl⟩
  have gd : Fr No w2 wd := by rw [← hwd]; exact (Fr.refl No w2).alloc _
  have bd : Blk wd yd 27 #[.slice A1 n1 c1, sv tb, .pointer none, .bool false, .slice none 0 0] := by rw [← hwd, ← hyd]; exact Blk.new w2 27 _
  have x2 : wd.frozen? ⟨yd, 2, none⟩ = false := bd.frozen 2
  have y2 : wd.cell? ⟨yd, 2, none⟩ = some (.pointer none) := bd.cell 2
  have z2 : wd.cell? ⟨ya, 2, none⟩ = some (.pointer px) := (HBA2.out.of (gd.block _ HBA2.out.lt id)).cell 2
  obtain ⟨we, hwe⟩ : ∃ x, wd.setCell ⟨yd, 2, none⟩ (.pointer px) = x := ⟨_, rfl⟩
  have ge : Fr No w2 we := by rw [← hwe]; exact fr_new gd (by omega)
  have be : Blk we yd 27 #[.slice A1 n1 c1, sv tb, .pointer px, .bool false, .slice none 0 0] := by rw [← hwe]; exact bd.set_ 2 (.pointer px)
  have HYD := Lib.hid hyd
  have HWD := Lib.hid hwd
  have HWE := Lib.hid hwe
  have HBE := Lib.hid be
  have HFE := Lib.hid (HF2.out.trans ge fun _ _ h => h)
  have HBA3 := Lib.hid (HBA2.out.of (ge.block _ HBA2.out.lt id))
  clear hyd hwd gd bd hwe ge be
  go_upto_region 8 with fail
  rw [HYD.out, HWD.out]
  go_upto_region 9 with fail
  rw [HWE.out]
  clear d0 d1 d2 d3 d4 x2 y2 z2
  have d0 : we.cell? ⟨yd, 0, none⟩ = some (.slice A1 n1 c1) := HBE.out.cell 0
  have d1 : we.cell? ⟨yd, 1, none⟩ = some (sv tb) := HBE.out.cell 1
  have d2 : we.cell? ⟨yd, 2, none⟩ = some (.pointer px) := HBE.out.cell 2
  have d3 : we.cell? ⟨yd, 3, none⟩ = some (.bool false) := HBE.out.cell 3
  have d4 : we.cell? ⟨yd, 4, none⟩ = some (.slice none 0 0) := HBE.out.cell 4
  have HS2 := Lib.hid (show_any2 (fullQ q) _ we (HPV.out we HFE.out) (HFULL.out we HFE.out) HTT.out)
  go_wp2_with fail
  refine HS2.out.mono ?_
  clear HS2
  rintro e w3 ⟨rfl, f3⟩
  have HF3 := Lib.hid (HFE.out.trans f3 fun _ _ h => h)
  have HBA4 := Lib.hid (HBA3.out.of (f3.block _ HBA3.out.lt id))
  have HBE4 := Lib.hid (HBE.out.of (f3.block _ HBE.out.lt id))
  clear f3 d0 d1 d2 d3 d4 HBA HBA2 HBA3 HBC HBC2 HBE HB HB1 HYA HYB HYD HWA HWB HWC HWD HWE HF1 HF2 HFA HFC HFE HSEL
  have z2 : w3.cell? ⟨ya, 2, none⟩ = some (.pointer px) := HBA4.out.cell 2
  rcases showB_cases (selQ q) with ⟨c, hc, hs⟩ | ⟨hsr, hsl, hs⟩
  · obtain rfl : cS = c := by have := HSS.out.symm.trans hs; injection this
    have hne : ((cS : Int) == 0) = false := by rcases hc with rfl | rfl <;> rfl
    clear hs
    rcases hc with rfl | rfl
    all_goals
      go_wp2_with fail
      go_ret
      exact ⟨rfl, HF3.out⟩
  obtain ⟨rfl, rfl⟩ : S = showT (selQ q) ∧ cS = 0 := by have := HSS.out.symm.trans hs; injection this with e1 e2; exact ⟨e1, e2⟩
  rcases showB_cases (fullQ q) with ⟨c, hc, ht⟩ | ⟨htr, htl, ht⟩
  · obtain rfl : cT = c := by have := HTT.out.symm.trans ht; injection this
    clear ht hs hsr hsl
    rcases hc with rfl | rfl
    all_goals
      go_wp2_with fail
      go_ret
      exact ⟨rfl, HF3.out⟩
  obtain ⟨rfl, rfl⟩ : T = showT (fullQ q) ∧ cT = 0 := by have := HTT.out.symm.trans ht; injection this with e1 e2; exact ⟨e1, e2⟩
  rcases HNP.out with ⟨hcn, rfl⟩ | ⟨hcn, gp, op, rfl⟩
  · clear ht hs hsr hsl htr htl hcn
    go_wp2_with fail
    go_ret
    exact ⟨rfl, HF3.out⟩
  -- what is shown, and what is laid around it
  have hft := full_text htr hcn
  have hss := sameQ_self htr
  have HLS : Hid ((showT (selQ q)).length ≤ 4096) := Lib.hid (by omega)
  obtain ⟨C, hC⟩ : ∃ C, condT q.cond 0 = C := ⟨_, rfl⟩
  obtain ⟨S0, hS0⟩ : ∃ S, showT (selQ q) = S := ⟨_, rfl⟩
  have hbk : ∀ n, bkT q n = S0 ++ [32, 87, 72, 69, 82, 69, 32] ++ repT [40, 32] n ++ C ++ repT [32, 41] n := fun n => by unfold bkT; rw [hC, hS0]
  rw [hC, hS0] at hft
  have htl2 : S0.length + 7 + C.length ≤ 4096 := by have := htl; rw [hft] at this; simp at this; omega
  obtain ⟨F1, hF1⟩ : ∃ F : Nat → Tx, ∀ i, F i = S0 ++ [32, 87, 72, 69, 82, 69, 32] ++ repT [40, 32] i := ⟨_, fun i => rfl⟩
  obtain ⟨k, hk9, hr⟩ : ∃ k : Nat, k < 9 ∧ (many.tmod 9 = k ∨ (many.tmod 9 = -(k : Int) ∧ 0 < k)) := tmod_pm2 many 9 (by decide)
  obtain ⟨F2, hF2⟩ : ∃ F : Nat → Tx, ∀ i, F i = F1 k ++ C ++ repT [32, 41] i := ⟨_, fun i => rfl⟩
  have hF2k : F2 k = bkT q k := by rw [hF2, hF1, hbk]
  have hl1 : ∀ i, i ≤ 9 → (F1 i).length ≤ 5000 := fun i hi => by rw [hF1]; simp [repT_len]; omega
  have hl2 : ∀ i, i ≤ 9 → (F2 i).length ≤ 5000 := fun i hi => by rw [hF2, hF1]; simp [repT_len]; omega
  have HL2 := Lib.hid hl2
  have HC0 : Hid (∀ w0, (Op.stringOp .add ⟨S0.toArray⟩ ⟨#[32, 87, 72, 69, 82, 69, 32]⟩).run Tryz.prog w0 = .ok (.string ⟨(F1 0).toArray⟩) w0) := Lib.hid fun w0 => by
    rw [run_cat S0 [32, 87, 72, 69, 82, 69, 32] (by unfold maxLen; simp; omega) w0, hF1 0]
    simp [repT]
  have HC1 : Hid (∀ i, i < 9 → ∀ w0, (Op.stringOp .add ⟨(F1 i).toArray⟩ ⟨#[40, 32]⟩).run Tryz.prog w0 = .ok (.string ⟨(F1 (i + 1)).toArray⟩) w0) := Lib.hid fun i hi w0 => by
    rw [run_cat (F1 i) [40, 32] (by have := hl1 i (by omega); unfold maxLen; simp; omega) w0, hF1 (i + 1), hF1 i]
    simp [repT]
  have HC2 : Hid (∀ w0, (Op.stringOp .add ⟨(F1 k).toArray⟩ ⟨C.toArray⟩).run Tryz.prog w0 = .ok (.string ⟨(F2 0).toArray⟩) w0) := Lib.hid fun w0 => by
    rw [run_cat (F1 k) C (by have := hl1 k (by omega); unfold maxLen; omega) w0, hF2 0]
    simp [repT]
  have HC3 : Hid (∀ i, i < 9 → ∀ w0, (Op.stringOp .add ⟨(F2 i).toArray⟩ ⟨#[32, 41]⟩).run Tryz.prog w0 = .ok (.string ⟨(F2 (i + 1)).toArray⟩) w0) := Lib.hid fun i hi w0 => by
    rw [run_cat (F2 i) [32, 41] (by have := hl2 i (by omega); unfold maxLen; simp; omega) w0, hF2 (i + 1), hF2 i]
    simp [repT]
  obtain ⟨T0, hT0⟩ : ∃ T, showT (fullQ q) = T := ⟨_, rfl⟩
  rw [hT0] at hft
  have hTl : T0.length = S0.length + 7 + C.length := by rw [hft]; simp; omega
  have HEX : Hid (ByteArray.extract ⟨T0.toArray⟩ (S0.length + 7) T0.length = ⟨C.toArray⟩) := Lib.hid (by
    refine mk_eq ?_
    rw [ext_toList]
    show (T0.take T0.length).drop (S0.length + 7) = C
    rw [List.take_length, hft]
    rw [show S0.length + 7 = (S0 ++ [32, 87, 72, 69, 82, 69, 32]).length by simp, List.drop_left])
  have HBL : Hid (4096 < (F2 k).length → parseW (F2 k) = (Qy0, 45, 0)) := Lib.hid (by rw [hF2k]; exact bk_long k)
  have HBP : Hid ((F2 k).length ≤ 4096 → parseW (F2 k) = (fullQ q, 0, 0)) := Lib.hid (by rw [hF2k]; exact bk_parse htr hcn HFIT.out k)
  have HSM := Lib.hid hss
  rw [hS0, hT0]
  have k1 : ((T0.length : Int) < (S0.length : Int) + 7) = False := eq_false (by omega)
  have e1 : IntKind.i64.wrap ((S0.length : Int) + 7) = (S0.length : Int) + 7 := IntWalk.i64_in _ (by omega)
  have n0 : ((k : Int) < 0) = False := eq_false (by omega)
  have m0 : IntKind.i64.wrap (- -(k : Int)) = (k : Int) := by rw [IntWalk.i64_in _ (by omega)]; omega
  have mm0 : IntKind.i64.wrap (k : Int) = (k : Int) := IntWalk.i64_in _ (by omega)
  have HK := Lib.hid hk9
  have HTLEN : Hid (T0.length = S0.length + 7 + C.length ∧ T0.length ≤ 4096) := Lib.hid ⟨hTl, by omega⟩
  have hc0 := HC0.out
  have ht7 : (S0.length : Int) + 7 ≤ (T0.length : Int) := by omega
  clear hss hft hl1 hl2 hF1 hF2 hF2k hbk hS0 hT0 hC htl2 hs ht hsr hsl htr htl hk9 hTl hcn
  rcases hr with hr | ⟨hr, hk0⟩
  all_goals
    (try have q0 : (0 < (k : Int)) = True := eq_true (by omega))
    (try have q0' : (0 < k) = True := eq_true (by omega))
    go_wp2_with fail
    go_loopg [13, 14] k (fun g r13 r14 wr => Hid (∃ i : Nat, r14 = .int .i64 (i : Nat) ∧ i + g = k ∧ r13 = sv (F1 i) ∧ w3 = wr))
    case atStart => exact Lib.hid ⟨0, rfl, by omega, rfl, rfl⟩
    case round =>
      obtain ⟨i, rfl, hik, rfl, rfl⟩ := hrel.out
      have HIK := Lib.hid hik
      clear hrel
      by_cases hi : i < k
      · have hii : (i : Int) < (k : Int) := by omega
        have hcat := HC1.out i (by have := HK.out; omega)
        obtain ⟨S1, hS1⟩ : ∃ x, F1 i = x := ⟨_, rfl⟩
        obtain ⟨S2, hS2⟩ : ∃ x, F1 (i + 1) = x := ⟨_, rfl⟩
        rw [hS1, hS2] at hcat
        rw [hS1]
        have HS2 := Lib.hid hS2
        have e9 : IntKind.i64.wrap ((i : Int) + 1) = ((i + 1 : Nat) : Int) := by rw [IntWalk.i64_in _ (by have := HK.out; omega)]; omega
        clear hS1 hS2
        go_wp2_with fail
        have hik2 := HIK.out
        obtain ⟨g1, rfl⟩ : ∃ g1, gk = g1 + 1 := ⟨gk - 1, by omega⟩
        go_roundg g1
        case rel => exact Lib.hid ⟨i + 1, rfl, by omega, by rw [HS2.out], rfl⟩
        all_goals omega
      · have hii : (k : Int) ≤ (i : Int) := by omega
        obtain rfl : i = k := by have := HIK.out; omega
        have hc2 := HC2.out
        have hex := HEX.out
        obtain ⟨S1, hS1⟩ : ∃ x, F1 i = x := ⟨_, rfl⟩
        rw [hS1] at hc2 ⊢
        clear hS1
        go_wp2_with fail
        rw [hex]
        go_wp2_with fail
        clear hc2 hex hii
        go_loopg [13, 15] i (fun g r13 r15 wr => Hid (∃ j : Nat, r15 = .int .i64 (j : Nat) ∧ j + g = i ∧ r13 = sv (F2 j) ∧ w3 = wr))
        case atStart => exact Lib.hid ⟨0, rfl, by omega, rfl, rfl⟩
        case round =>
          obtain ⟨j, rfl, hjk, rfl, rfl⟩ := hrel.out
          have HJK := Lib.hid hjk
          clear hrel
          by_cases hj : j < i
          · have hji : (j : Int) < (i : Int) := by omega
            have hcat := HC3.out j (by have := HK.out; omega)
            obtain ⟨S2, hS2⟩ : ∃ x, F2 j = x := ⟨_, rfl⟩
            obtain ⟨S3, hS3⟩ : ∃ x, F2 (j + 1) = x := ⟨_, rfl⟩
            rw [hS2, hS3] at hcat
            rw [hS2]
            have HS3 := Lib.hid hS3
            have e9 : IntKind.i64.wrap ((j : Int) + 1) = ((j + 1 : Nat) : Int) := by rw [IntWalk.i64_in _ (by have := HK.out; omega)]; omega
            clear hS2 hS3
            go_wp2_with fail
            have hjk2 := HJK.out
            obtain ⟨g1, rfl⟩ : ∃ g1, gk = g1 + 1 := ⟨gk - 1, by omega⟩
            go_roundg g1
            case rel => exact Lib.hid ⟨j + 1, rfl, by omega, by rw [HS3.out], rfl⟩
            all_goals omega
          · have hji : (i : Int) ≤ (j : Int) := by omega
            obtain rfl : j = i := by have := HJK.out; omega
            have hlu := HL2.out j (by have := HK.out; omega)
            have HLU : Hid ((F2 j).length ≤ maxLen) := Lib.hid (by unfold maxLen; omega)
            by_cases hlong : 4096 < (F2 j).length
            · have HP := Lib.hid (l_parse (F2 j) w3 (HPV.out w3 HF3.out) HLU.out (HBL.out hlong))
              have hgt : ((4096 : Int) < ((F2 j).length : Int)) = True := eq_true (by omega)
              obtain ⟨U, hU⟩ : ∃ U, F2 j = U := ⟨_, rfl⟩
              rw [hU] at HP hgt ⊢
              clear hlong hlu hU
              go_wp2_with fail
              refine HP.out.mono ?_
              clear HP
              rintro e w4 ⟨B1, k1', py, B2, k2', rfl, hq4, f4⟩
              clear hq4
              have hV : qyV Qy0 B1 k1' py B2 k2' = .agg #[.slice B1 0 k1', sv [], .pointer py, .bool false, .slice B2 0 k2'] := rfl
              rw [hV]
              obtain ⟨yz, hyz⟩ : ∃ z, w4.heap.size = z := ⟨_, rfl⟩
              obtain ⟨wx, hwx⟩ : ∃ x, w4.alloc (.cells #[.slice B1 0 k1', sv [], .pointer py, .bool false, .slice B2 0 k2'] 27) = x := ⟨_, rfl⟩
              have gx : Fr No w4 wx := by rw [← hwx]; exact (Fr.refl No w4).alloc _
              have sx : wx.heap.size = yz + 1 := by rw [← hwx, ← hyz]; simp
              obtain ⟨wz, hwz⟩ : ∃ x, wx.alloc (.cells #[.int .i64 (45 : Int), .int .i64 (0 : Int)] 30) = x := ⟨_, rfl⟩
              have gz : Fr No wx wz := by rw [← hwz]; exact (Fr.refl No wx).alloc _
              have bz : Blk wz (yz + 1) 30 #[.int .i64 (45 : Int), .int .i64 (0 : Int)] := by rw [← hwz, ← sx]; exact Blk.new wx 30 _
              have z0 : wz.cell? ⟨yz + 1, 0, none⟩ = some (.int .i64 45) := bz.cell 0
              have z1 : wz.cell? ⟨yz + 1, 1, none⟩ = some (.int .i64 0) := bz.cell 1
              have HYZ := Lib.hid hyz
              have HWX := Lib.hid hwx
              have HWZ := Lib.hid hwz
              have HFZ := Lib.hid (HF3.out.trans (f4.trans (gx.trans gz fun _ _ h => h) fun _ _ h => h) fun _ _ h => h)
              clear hV hyz hwx gx sx hwz gz bz f4
              go_upto_region 28 with fail
              rw [HYZ.out, HWX.out, HWZ.out]
              go_wp2_with fail
              go_ret
              exact ⟨rfl, HFZ.out⟩
            · have HP := Lib.hid (l_parse (F2 j) w3 (HPV.out w3 HF3.out) HLU.out (HBP.out (by omega)))
              have hgt : ((4096 : Int) < ((F2 j).length : Int)) = False := eq_false (by omega)
              obtain ⟨U, hU⟩ : ∃ U, F2 j = U := ⟨_, rfl⟩
              rw [hU] at HP hgt ⊢
              clear hlong hlu hU
              go_wp2_with fail
              refine HP.out.mono ?_
              clear HP
              rintro e w4 ⟨B1, k1', py, B2, k2', rfl, hq4, f4⟩
              have hV : qyV (fullQ q) B1 k1' py B2 k2' = .agg #[.slice B1 q.items.length k1', sv q.table, .pointer py, .bool false, .slice B2 0 k2'] := rfl
              rw [hV] at hq4 ⊢
              rw [HN1.out, HTB.out] at hq4 ⊢
              obtain ⟨yz, hyz⟩ : ∃ z, w4.heap.size = z := ⟨_, rfl⟩
              obtain ⟨wx, hwx⟩ : ∃ x, w4.alloc (.cells #[.slice B1 n1 k1', sv tb, .pointer py, .bool false, .slice B2 0 k2'] 27) = x := ⟨_, rfl⟩
              have gx : Fr No w4 wx := by rw [← hwx]; exact (Fr.refl No w4).alloc _
              have bx : Blk wx yz 27 #[.slice B1 n1 k1', sv tb, .pointer py, .bool false, .slice B2 0 k2'] := by rw [← hwx, ← hyz]; exact Blk.new w4 27 _
              have sx : wx.heap.size = yz + 1 := by rw [← hwx, ← hyz]; simp
              obtain ⟨wz, hwz⟩ : ∃ x, wx.alloc (.cells #[.int .i64 (0 : Int), .int .i64 (0 : Int)] 30) = x := ⟨_, rfl⟩
              have gz : Fr No wx wz := by rw [← hwz]; exact (Fr.refl No wx).alloc _
              have bz : Blk wz (yz + 1) 30 #[.int .i64 (0 : Int), .int .i64 (0 : Int)] := by rw [← hwz, ← sx]; exact Blk.new wx 30 _
              have z0 : wz.cell? ⟨yz + 1, 0, none⟩ = some (.int .i64 0) := bz.cell 0
              have z1 : wz.cell? ⟨yz + 1, 1, none⟩ = some (.int .i64 0) := bz.cell 1
              have bq := bx.of (gz.block _ bx.lt id)
              have f4z := f4.trans (gx.trans gz fun _ _ h => h) fun _ _ h => h
              have hbe := HBE4.out.of (f4z.block _ HBE4.out.lt id)
              have HFZ := Lib.hid (HF3.out.trans f4z fun _ _ h => h)
              have HQR := hq4.no (gx.trans gz fun _ _ h => h)
              have HQF := HFULL.out wz HFZ.out
              have HSQ := Lib.hid (same_query (d := 4096) (Nat.le_refl _) (fullQ q) (fullQ q) wz (qyTo_of HQR) (qyTo_of HQF))
              rw [HSM.out] at HSQ
              have b0 : wz.cell? ⟨yz, 0, none⟩ = some (.slice B1 n1 k1') := bq.cell 0
              have b1 : wz.cell? ⟨yz, 1, none⟩ = some (sv tb) := bq.cell 1
              have b2 : wz.cell? ⟨yz, 2, none⟩ = some (.pointer py) := bq.cell 2
              have b3 : wz.cell? ⟨yz, 3, none⟩ = some (.bool false) := bq.cell 3
              have b4 : wz.cell? ⟨yz, 4, none⟩ = some (.slice B2 0 k2') := bq.cell 4
              have d0 : wz.cell? ⟨yd, 0, none⟩ = some (.slice A1 n1 c1) := hbe.cell 0
              have d1 : wz.cell? ⟨yd, 1, none⟩ = some (sv tb) := hbe.cell 1
              have d2 : wz.cell? ⟨yd, 2, none⟩ = some (.pointer (some ⟨gp, op, none⟩)) := hbe.cell 2
              have d3 : wz.cell? ⟨yd, 3, none⟩ = some (.bool false) := hbe.cell 3
              have d4 : wz.cell? ⟨yd, 4, none⟩ = some (.slice none 0 0) := hbe.cell 4
              have HYZ := Lib.hid hyz
              have HWX := Lib.hid hwx
              have HWZ := Lib.hid hwz
              clear hV hyz hwx gx bx sx hwz gz bz bq f4 f4z hbe hq4 HQR HQF
              go_upto_region 28 with fail
              rw [HYZ.out, HWX.out, HWZ.out]
              go_wp2_with fail
              refine HSQ.out.mono ?_
              rintro e w5 ⟨rfl, f5⟩
              have HF5 := Lib.hid (HFZ.out.trans f5 fun _ _ h => h)
              clear f5 b0 b1 b2 b3 b4 d0 d1 d2 d3 d4 z0 z1
              go_wp2_with fail
              go_ret
              exact ⟨rfl, HF5.out⟩
end Go.Proofs.YtkcnbmgaeompjaaGreatDoor
