/- ParseShows, walked. -/
import Derived.Test.YtkcnbmgaeompjaaGreatDoorZA
namespace Go.Proofs.YtkcnbmgaeompjaaGreatDoor
open Go.RowKit Go.Maps Go.Sort
set_option linter.unusedVariables false

theorem tellsB_grown {f : FuncId} {args : Array Value} {w : World} {t : Bool} (h : ∀ w', Fr No w w' → Calls Tryz.prog f args w' (TellsB t w')) (dd : Nat) (os : Array Obj) :
    Calls Tryz.prog f args (grow (redrawn w dd) os) fun e w'' => e = .returned (.bool t) ∧ ∃ p : Regrown, w'' = grow (redrawn w p.d) p.os :=
  Calls.regrown_of ((h _ (fr_reg w dd os)).mono fun _ _ ⟨h1, h2⟩ => ⟨h1, h2.below⟩)
set_option maxRecDepth 100000 in
set_option maxHeartbeats 8000000 in
theorem shows_law {K : Nat → Prop} (q : Qy) (v : Value) (w : World) (hp : Pv w) (h : QyAt K w q v) : Calls Tryz.prog 4 #[v] w (TellsB true w) := by
  have hfit := h.fits
  obtain ⟨A1, c1, px, A2, c2, rfl, -, -⟩ := (qyTo_of (d := 0) h).qv
  have hV : qyV q A1 c1 px A2 c2 = .agg #[.slice A1 q.items.length c1, sv q.table, .pointer px, .bool q.grouped, .slice A2 q.groups.length c2] := rfl
  rw [hV] at h ⊢
  obtain ⟨n1, hn1⟩ : ∃ n, q.items.length = n := ⟨_, rfl⟩
  obtain ⟨n2, hn2⟩ : ∃ n, q.groups.length = n := ⟨_, rfl⟩
  obtain ⟨tb, htb⟩ : ∃ n, q.table = n := ⟨_, rfl⟩
  obtain ⟨gr, hgr⟩ : ∃ n, q.grouped = n := ⟨_, rfl⟩
  rw [hn1, hn2, htb, hgr] at h ⊢
  obtain ⟨wa, hwa⟩ : ∃ w1, w.alloc (.cells #[.slice A1 n1 c1, sv tb, .pointer px, .bool gr, .slice A2 n2 c2] 27) = w1 := ⟨_, rfl⟩
  obtain ⟨ya, hya⟩ : ∃ z, w.heap.size = z := ⟨_, rfl⟩
  have fa : Fr No w wa := by rw [← hwa]; exact (Fr.refl No w).alloc _
  have hba : Blk wa ya 27 #[.slice A1 n1 c1, sv tb, .pointer px, .bool gr, .slice A2 n2 c2] := by rw [← hwa, ← hya]; exact Blk.new w 27 _
  have HAW : Hid (Calls Tryz.prog 12 #[] wa (TellsB true wa)) := Lib.hid (awake_any wa (hp.no fa))
  have HPV : Hid (∀ w', Fr No w w' → Pv w') := Lib.hid fun w' f' => hp.no f'
  have HQ := Lib.hid (h.no fa)
  have HB := Lib.hid hba
  have HFA := Lib.hid fa
  have HWA := Lib.hid hwa
  have HYA := Lib.hid hya
  have HFIT := Lib.hid hfit
  clear hp h hV hn1 hn2 htb hgr fa hba hwa hya hfit
  go_enter Tryz.func4, Tryz.ntmps4
  go_upto_region 1 with fail
  rw [HYA.out, HWA.out]
  go_wp2_with fail
  refine HAW.out.mono ?_
  clear HAW
  rintro e w1 ⟨rfl, f1⟩
  have HF1 := Lib.hid (HFA.out.trans f1 fun _ _ h => h)
  have HQ1 := Lib.hid (HQ.out.no f1)
  have HB1 := Lib.hid (HB.out.of (f1.block _ HB.out.lt id))
  clear f1
  have d0 : w1.cell? ⟨ya, 0, none⟩ = some (.slice A1 n1 c1) := HB1.out.cell 0
  have d1 : w1.cell? ⟨ya, 1, none⟩ = some (sv tb) := HB1.out.cell 1
  have d2 : w1.cell? ⟨ya, 2, none⟩ = some (.pointer px) := HB1.out.cell 2
  have d3 : w1.cell? ⟨ya, 3, none⟩ = some (.bool gr) := HB1.out.cell 3
  have d4 : w1.cell? ⟨ya, 4, none⟩ = some (.slice A2 n2 c2) := HB1.out.cell 4
  obtain ⟨S, cS, hS⟩ : ∃ S c, showB q = (S, c) := ⟨_, _, rfl⟩
  have HSH := show_any q _ w1 (HPV.out w1 HF1.out) HQ1.out fun hr => show_len hr HFIT.out
  have HDS : ∀ w', Fr No w1 w' → Calls Tryz.prog 17 #[_] w' (ShowP q w') := fun w' f' => dshow_any q _ w' (HPV.out w' (HF1.out.trans f' fun _ _ h => h)) (HQ1.out.no f')
  unfold ShowP at HSH HDS
  rw [hS] at HSH HDS
  have HSH := Lib.hid HSH
  have HDS := Lib.hid HDS
  clear hS
  go_wp2_with fail
  refine HSH.out.mono ?_
  clear HSH
  rintro e wb ⟨rfl, fb⟩
  have HFB := Lib.hid (HF1.out.trans fb fun _ _ h => h)
  have HBB := Lib.hid (HB1.out.of (fb.block _ HB1.out.lt id))
  have HQB := Lib.hid (HQ1.out.no fb)
  have HDB := Lib.hid (HDS.out wb fb)
  clear fb d0 d1 d2 d3 d4 HDS
  have d0 : wb.cell? ⟨ya, 0, none⟩ = some (.slice A1 n1 c1) := HBB.out.cell 0
  have d1 : wb.cell? ⟨ya, 1, none⟩ = some (sv tb) := HBB.out.cell 1
  have d2 : wb.cell? ⟨ya, 2, none⟩ = some (.pointer px) := HBB.out.cell 2
  have d3 : wb.cell? ⟨ya, 3, none⟩ = some (.bool gr) := HBB.out.cell 3
  have d4 : wb.cell? ⟨ya, 4, none⟩ = some (.slice A2 n2 c2) := HBB.out.cell 4
  go_wp2_with fail
  refine HDB.out.mono ?_
  clear HDB
  rintro e wc ⟨rfl, fc⟩
  have HFC := Lib.hid (HFB.out.trans fc fun _ _ h => h)
  have hbc := HBB.out.of (fc.block _ HBB.out.lt id)
  have hqc := HQB.out.no fc
  clear fc d0 d1 d2 d3 d4
  have z0 : ∀ dd os, (grow (redrawn wc dd) os).cell? ⟨ya, 0, none⟩ = some (.slice A1 n1 c1) := fun dd os => cell_regrown (hbc.cell 0) dd os
  have z1 : ∀ dd os, (grow (redrawn wc dd) os).cell? ⟨ya, 1, none⟩ = some (sv tb) := fun dd os => cell_regrown (hbc.cell 1) dd os
  have z2 : ∀ dd os, (grow (redrawn wc dd) os).cell? ⟨ya, 2, none⟩ = some (.pointer px) := fun dd os => cell_regrown (hbc.cell 2) dd os
  have z3 : ∀ dd os, (grow (redrawn wc dd) os).cell? ⟨ya, 3, none⟩ = some (.bool gr) := fun dd os => cell_regrown (hbc.cell 3) dd os
  have z4 : ∀ dd os, (grow (redrawn wc dd) os).cell? ⟨ya, 4, none⟩ = some (.slice A2 n2 c2) := fun dd os => cell_regrown (hbc.cell 4) dd os
  have K1 := Lib.hid (fun dd os => tellsB_grown (w := wc) (fun w' f' => right_query (d := 32) (Nat.le_refl _) _ q _ w' (HPV.out w' (HFC.out.trans f' fun _ _ h => h)).lr (qyTo_of (hqc.no f'))) dd os)
  have K2 := Lib.hid (fun dd os => tellsB_grown (w := wc) (fun w' f' => dright_query (d := 32) (Nat.le_refl _) _ q _ w' (qyTo_of (hqc.no f'))) dd os)
  obtain ⟨rb, hrb⟩ : ∃ b, rightQ q = b := ⟨_, rfl⟩
  rw [hrb] at K1 K2
  clear hbc hqc hrb
  go_upto_region 4 with fail
  refine wp_region_quiet_below mixedQ (by kernel_rfl) ?_
  repeat (first | go_big_quiet_step (first | (with_reducible exact K1.out _ _) | (with_reducible exact K2.out _ _)) | quiet_step (first | (with_reducible exact K1.out _ _) | (with_reducible exact K2.out _ _)))
  refine wpQuiet_nil ?_
  intro wx hp
  have HBW : Hid (Fr No w wx) := Lib.hid (HFC.out.trans (by obtain ⟨p, rfl⟩ := hp; exact fr_reg _ _ _) fun _ _ h => h)
  clear hp
  go_wp2_with fail
  go_ret
  exact ⟨by first | rfl | (simp; done), HBW.out⟩
end Go.Proofs.YtkcnbmgaeompjaaGreatDoor
