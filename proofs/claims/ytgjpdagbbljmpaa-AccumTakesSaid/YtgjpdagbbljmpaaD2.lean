/- AccumTakes, walked. -/
import Derived.Test.YtgjpdagbbljmpaaD1
import Derived.Test.YtgjpdagbbljmpaaB12
import Derived.Test.YtgjpdagbbljmpaaB9
import Derived.Deep.RegionWith
namespace Go.Proofs.Ytgjpdagbbljmpaa
open Go.RowKit Go.Maps Go.Sort
set_option linter.unusedVariables false

def pm9 : Pt := ⟨false, ⟨0, 0⟩, -9, 0⟩
theorem copied_box {K : Nat → Prop} (cnt : Int) (l : List Pt) (N N1 : Nat) (hN : l.length = N) (hN1 : N + 1 = N1) (v : Value) (w : World) (h : PR K w v l) (hl : Lok l) :
    Calls Try.prog 21 #[.agg #[.int .i64 cnt, v]] w fun e w' => ∃ g c, e = .returned (.tuple #[.agg #[.int .i64 cnt, .slice (some ⟨g, 0, none⟩) N c], .slice (some ⟨g, 0, none⟩) N1 c]) ∧ g < w'.heap.size ∧ PO w.heap.size w' (.slice (some ⟨g, 0, none⟩) N c) l ∧ Five w' g (N * 5) p77 ∧ Fr No w w' := by
  subst hN; subst hN1
  refine (copied_any cnt l v w h hl).mono ?_
  rintro e w' ⟨A, c, rfl, hp, hf⟩
  obtain ⟨hpc, g, cs, rfl, hgb, hgk, h5, hNc, hcm⟩ := hp.cut rfl
  exact ⟨g, c, rfl, hgk.lt, hpc, h5, hf⟩
theorem po_blk {b : Nat} {w : World} {A : Option Addr} {n c : Nat} {l : List Pt} (h : PO b w (.slice A n c) l) {k : Nat} (hk : A = some ⟨k, 0, none⟩) : b ≤ k ∧ ∃ cs, Blk w k 46 cs := by
  rcases h with ⟨e, _⟩ | ⟨g, c', cs, h1, h2, h3, h4, h5, h6⟩
  · injection e with e; rw [e] at hk; cases hk
  · injection h1 with e1
    rw [e1] at hk
    injection hk with hk
    injection hk with hk
    subst hk
    exact ⟨h4, cs, h5⟩
theorem PO.keep {b : Nat} {w w' : World} {v : Value} {l : List Pt} (h : PO b w v l) (hk : ∀ k cs, b ≤ k → Blk w k 46 cs → w'.heap[k]? = w.heap[k]?) : PO b w' v l := by
  rcases h with h | ⟨g, c, cs, h1, h2, h3, h4, h5, h6⟩
  · exact .inl h
  · exact .inr ⟨g, c, cs, h1, h2, h3, h4, h5.of (hk g cs h4 h5), h6⟩
set_option maxRecDepth 100000 in
set_option maxHeartbeats 4000000 in
theorem takes_law {K K2 Km : Nat → Prop} (c1 c2 : Int) (l l2 : List Pt) (ns : List Int) (v v2 mv : Value) (w : World) (h : PR K w v l) (hl : Lok l) (h2 : PR K2 w v2 l2) (hl2 : Lok l2) (hm : RowE Km w 1 (intG Km w) mv ns) :
    Calls Try.prog 6 #[.agg #[.int .i64 c1, v], .agg #[.int .i64 c2, v2], mv] w (TellsB true w) := by
  obtain ⟨N, hN⟩ : ∃ N, l.length = N := ⟨_, rfl⟩
  obtain ⟨M, hM⟩ : ∃ M, l2.length = M := ⟨_, rfl⟩
  obtain ⟨N1, hN1⟩ : ∃ k, N + 1 = k := ⟨_, rfl⟩
  obtain ⟨M1, hM1⟩ : ∃ k, M + 1 = k := ⟨_, rfl⟩
  obtain ⟨tl, htl⟩ : ∃ t, takeL l ns = t := ⟨_, rfl⟩
  obtain ⟨ml, hml⟩ : ∃ t, mergeL l l2 = t := ⟨_, rfl⟩
  obtain ⟨T, hT⟩ : ∃ k, ml.length = k := ⟨_, rfl⟩
  have htn : tl.length = N := by rw [← htl, takeL_len, hN]
  obtain ⟨ct, hct⟩ : ∃ c, w64 (c1 + 1) = c := ⟨_, rfl⟩
  obtain ⟨cm, hcm⟩ : ∃ c, w64 (c1 + c2) = c := ⟨_, rfl⟩
  have HAW : Hid (∀ w', Calls Try.prog 10 #[] w' (TellsB true w')) := Lib.hid fun w' => awake_any w'
  have HC1 := Lib.hid fun w' (f' : Fr No w w') => copied_box c1 l N N1 hN hN1 v w' (h.no f') hl
  have HC2 := Lib.hid fun w' (f' : Fr No w w') => copied_box c2 l2 M M1 hM hM1 v2 w' (h2.no f') hl2
  have HRT := Lib.hid fun w' (f' : Fr No w w') => rtake_any c1 l ns v mv w' (h.no f') hl (hm.at_ intG_elem f')
  have HRM := Lib.hid fun w' (f' : Fr No w w') => rmerge_any c1 c2 l l2 v v2 w' (h.no f') hl (h2.no f') hl2
  have HM := Lib.hid fun w' (f' : Fr No w w') => hm.at_ intG_elem f'
  have HL := Lib.hid hl
  have HL2 := Lib.hid hl2
  have HPA := Lib.hid h
  have HPB := Lib.hid h2
  obtain ⟨A, ca, rfl, -, -⟩ := h.form
  obtain ⟨B, cb, rfl, -, -⟩ := h2.form
  obtain ⟨Am, cmm, rfl, -, -, -⟩ := row_int hm
  obtain ⟨MN, hMN⟩ : ∃ k, ns.length = k := ⟨_, rfl⟩
  rw [hN] at HC1 HRT HRM HPA
  rw [hM] at HC2 HRM HPB
  rw [hMN] at HRT HM
  rw [htl, hct] at HRT
  rw [hml, hcm] at HRM
  rw [hN, hM, hMN]
  have HTL := Lib.hid htl
  have HML := Lib.hid hml
  have HCT := Lib.hid hct
  have HCM := Lib.hid hcm
  have HTN := Lib.hid htn
  have HT := Lib.hid hT
  have e1 : IntKind.i64.wrap ((N1 : Int) - 1) = (N : Int) := by have := hl.2; rw [IntKind.wrap_i64]; omega
  have e2 : IntKind.i64.wrap ((M1 : Int) - 1) = (M : Int) := by have := hl2.2; rw [IntKind.wrap_i64]; omega
  have hNN : (N : Int) < (N1 : Int) := by omega
  have hMM : (M : Int) < (M1 : Int) := by omega
  obtain ⟨b, hb⟩ : ∃ b, w.heap.size = b := ⟨_, rfl⟩
  obtain ⟨w1, hw1⟩ : ∃ w1, (w.alloc (.cells #[.int .i64 c1, .slice A N ca] 39)).alloc (.cells #[.int .i64 c2, .slice B M cb] 39) = w1 := ⟨_, rfl⟩
  have f1 : Fr No w w1 := by rw [← hw1]; exact ((Fr.refl No w).alloc _).alloc _
  have hx : Blk w1 b 39 #[.int .i64 c1, .slice A N ca] := by rw [← hw1, ← hb]; exact (Blk.new w 39 _).no ((Fr.refl No _).alloc _)
  have hy : Blk w1 (b + 1) 39 #[.int .i64 c2, .slice B M cb] := by rw [← hw1, ← hb]; exact blk_at1 w _ 39 _
  have HX := Lib.hid hx
  have HY := Lib.hid hy
  have HW1 := Lib.hid hw1
  have HB := Lib.hid hb
  have HF1 := Lib.hid f1
  clear h hl h2 hl2 hm hN hM hMN htl hml htn hT hct hcm hb hw1 f1 hx hy hN1 hM1
  go_enter Try.func6, Try.ntmps6
  go_upto_region 1 with fail
  rw [HW1.out, HB.out]
  go_upto_region 2 with (go_at_call 10; refine (HAW.out _).mono ?_; rintro e w2 ⟨rfl, f2⟩; have HF2 := Lib.hid f2; clear f2)
  obtain ⟨x0, x1, -, -⟩ := blk2 (HX.out.no HF2.out)
  go_upto_region 3 with (go_at_call 21; refine (HC1.out _ (HF1.out.trans HF2.out fun _ _ h => h)).mono ?_; rintro e w3 ⟨g1, d1, rfl, hg1, hp1, h51, f3⟩; have HP1 := Lib.hid (And.intro hg1 (And.intro hp1 h51)); have HF3 := Lib.hid (HF2.out.trans f3 fun _ _ h => h); clear hg1 hp1 h51 f3)
  obtain ⟨xa, hxa⟩ : ∃ y, w3.heap.size = y := ⟨_, rfl⟩
  obtain ⟨w4, hw4⟩ : ∃ wa, w3.alloc (.cells #[.int .i64 c1, .slice (some ⟨g1, 0, none⟩) N d1] 39) = wa := ⟨_, rfl⟩
  rw [hw4, hxa]
  have HXA : Hid (Blk w4 xa 39 #[.int .i64 c1, .slice (some ⟨g1, 0, none⟩) N d1]) := Lib.hid (by rw [← hw4, ← hxa]; exact Blk.new w3 39 _)
  have HF34 : Hid (Fr No w3 w4) := Lib.hid (by rw [← hw4]; exact (Fr.refl No w3).alloc _)
  have HF4 : Hid (Fr No w1 w4) := Lib.hid (HF3.out.trans HF34.out fun _ _ h => h)
  clear x0 x1 hxa hw4
  obtain ⟨x0, x1, -, -⟩ := blk2 (HY.out.no HF4.out)
  go_upto_region 4 with (go_at_call 21; refine (HC2.out _ (HF1.out.trans HF4.out fun _ _ h => h)).mono ?_; rintro e w5 ⟨g2, d2, rfl, hg2, hp2, h52, f5⟩; have HP2 := Lib.hid (And.intro hg2 (And.intro hp2 h52)); have HF45 := Lib.hid f5; clear hg2 hp2 h52 f5)
  obtain ⟨xb, hxb⟩ : ∃ y, w5.heap.size = y := ⟨_, rfl⟩
  obtain ⟨w6, hw6⟩ : ∃ wa, w5.alloc (.cells #[.int .i64 c2, .slice (some ⟨g2, 0, none⟩) M d2] 39) = wa := ⟨_, rfl⟩
  rw [hw6, hxb]
  have HXB : Hid (Blk w6 xb 39 #[.int .i64 c2, .slice (some ⟨g2, 0, none⟩) M d2]) := Lib.hid (by rw [← hw6, ← hxb]; exact Blk.new w5 39 _)
  have HF56 : Hid (Fr No w5 w6) := Lib.hid (by rw [← hw6]; exact (Fr.refl No w5).alloc _)
  have HF46 : Hid (Fr No w4 w6) := Lib.hid (HF45.out.trans HF56.out fun _ _ h => h)
  have HF6 : Hid (Fr No w1 w6) := Lib.hid (HF4.out.trans HF46.out fun _ _ h => h)
  have HF36 : Hid (Fr No w3 w6) := Lib.hid (HF34.out.trans HF46.out fun _ _ h => h)
  -- what x and y are, before Take
  have HX6 : Hid (Blk w6 xa 39 #[.int .i64 c1, .slice (some ⟨g1, 0, none⟩) N d1] ∧ PR (fun _ => True) w6 (.slice (some ⟨g1, 0, none⟩) N d1) l ∧ Five w6 g1 (N * 5) p77 ∧ g1 < w6.heap.size) := Lib.hid ⟨HXA.out.no HF46.out, (HP1.out.2.1.pr.mono (fun _ _ _ => ⟨trivial, rfl⟩) (Nat.le_refl _)).no HF36.out, HP1.out.2.2.of (HF36.out.block _ HP1.out.1 id), Nat.lt_of_lt_of_le HP1.out.1 HF36.out.size⟩
  have HY6 : Hid (Blk w6 xb 39 #[.int .i64 c2, .slice (some ⟨g2, 0, none⟩) M d2] ∧ PR (fun _ => True) w6 (.slice (some ⟨g2, 0, none⟩) M d2) l2 ∧ Five w6 g2 (M * 5) p77 ∧ g2 < w6.heap.size) := Lib.hid ⟨HXB.out, (HP2.out.2.1.pr.mono (fun _ _ _ => ⟨trivial, rfl⟩) (Nat.le_refl _)).no HF56.out, HP2.out.2.2.of (HF56.out.block _ HP2.out.1 id), Nat.lt_of_lt_of_le HP2.out.1 HF56.out.size⟩
  clear x0 x1 hxb hw6 HP1 HP2 HXA HXB HC1 HC2 HF45 HF4 HF3 HF34
  obtain ⟨x0, x1, -, -⟩ := blk2 HX6.out.1
  have HT22 : Hid (Calls Try.prog 22 #[.agg #[.int .i64 c1, .slice (some ⟨g1, 0, none⟩) N d1], .slice Am MN cmm] w6 (TellsA ⟨ct, tl⟩ w6)) := Lib.hid (by
    have := take_any c1 l ns _ _ w6 HX6.out.2.1 HL.out (HM.out w6 (HF1.out.trans HF6.out fun _ _ h => h))
    rw [HCT.out, HTL.out] at this
    exact this)
  go_upto_region 5 with (go_at_call 22; refine HT22.out.mono ?_; rintro e w7 ⟨vt, rfl, hpt, f7⟩; obtain ⟨AT, dt, rfl, -⟩ := hpt.pr.form; rw [HTN.out] at hpt ⊢; have HPT := Lib.hid hpt; have HF67 := Lib.hid f7; clear hpt f7)
  obtain ⟨yt, hyt⟩ : ∃ y, w7.heap.size = y := ⟨_, rfl⟩
  obtain ⟨w8, hw8⟩ : ∃ wa, w7.alloc (.cells #[.int .i64 ct, .slice AT N dt] 39) = wa := ⟨_, rfl⟩
  rw [hw8, hyt]
  have HYT : Hid (Blk w8 yt 39 #[.int .i64 ct, .slice AT N dt]) := Lib.hid (by rw [← hw8, ← hyt]; exact Blk.new w7 39 _)
  have HF78 : Hid (Fr No w7 w8) := Lib.hid (by rw [← hw8]; exact (Fr.refl No w7).alloc _)
  have HPT8 : Hid (PO w6.heap.size w8 (.slice AT N dt) tl) := Lib.hid (HPT.out.no HF78.out)
  have HF68 : Hid (Fr No w6 w8) := Lib.hid (HF67.out.trans HF78.out fun _ _ h => h)
  clear x0 x1 hyt hw8 HPT HF67 HF78 HT22
  have hx8 := HX6.out.1.no HF68.out
  have hy8 := HY6.out.1.no HF68.out
  obtain ⟨x0, x1, -, -⟩ := blk2 hx8
  obtain ⟨y0, y1, -, -⟩ := blk2 hy8
  have HT23 : Hid (Calls Try.prog 23 #[.agg #[.int .i64 c1, .slice (some ⟨g1, 0, none⟩) N d1], .agg #[.int .i64 c2, .slice (some ⟨g2, 0, none⟩) M d2]] w8 (TellsA ⟨cm, ml⟩ w8)) := Lib.hid (by
    have := merge_any c1 c2 l l2 _ _ w8 (HX6.out.2.1.no HF68.out) HL.out (HY6.out.2.1.no HF68.out) HL2.out
    rw [HCM.out, HML.out] at this
    exact this)
  clear hx8 hy8
  go_upto_region 6 with (go_at_call 23; refine HT23.out.mono ?_; rintro e w9 ⟨vm, rfl, hpm, f9⟩; obtain ⟨AM, dm, rfl, -⟩ := hpm.pr.form; rw [HT.out] at hpm ⊢; have HPM := Lib.hid hpm; have HF89 := Lib.hid f9; clear hpm f9)
  obtain ⟨ym, hym⟩ : ∃ y, w9.heap.size = y := ⟨_, rfl⟩
  obtain ⟨w10, hw10⟩ : ∃ wa, w9.alloc (.cells #[.int .i64 cm, .slice AM T dm] 39) = wa := ⟨_, rfl⟩
  rw [hw10, hym]
  have HYM : Hid (Blk w10 ym 39 #[.int .i64 cm, .slice AM T dm]) := Lib.hid (by rw [← hw10, ← hym]; exact Blk.new w9 39 _)
  have HF910 : Hid (Fr No w9 w10) := Lib.hid (by rw [← hw10]; exact (Fr.refl No w9).alloc _)
  have HPM10 : Hid (PO w8.heap.size w10 (.slice AM T dm) ml) := Lib.hid (HPM.out.no HF910.out)
  have HF810 : Hid (Fr No w8 w10) := Lib.hid (HF89.out.trans HF910.out fun _ _ h => h)
  have HF10 : Hid (Fr No w1 w10) := Lib.hid (HF6.out.trans (HF68.out.trans HF810.out fun _ _ h => h) fun _ _ h => h)
  have HPT10 : Hid (PO w6.heap.size w10 (.slice AT N dt) tl) := Lib.hid (HPT8.out.no HF810.out)
  have HYT10 : Hid (Blk w10 yt 39 #[.int .i64 ct, .slice AT N dt]) := Lib.hid (HYT.out.no HF810.out)
  clear x0 x1 y0 y1 hym hw10 HPM HF89 HF910 HT23
  have x0 : w10.drew.cell? ⟨b, 0, none⟩ = some (.int .i64 c1) := (HX.out.no HF10.out).cell 0
  have x1 : w10.drew.cell? ⟨b, 1, none⟩ = some (.slice A N ca) := (HX.out.no HF10.out).cell 1
  have t0 : w10.drew.cell? ⟨yt, 0, none⟩ = some (.int .i64 ct) := HYT10.out.cell 0
  have t1 : w10.drew.cell? ⟨yt, 1, none⟩ = some (.slice AT N dt) := HYT10.out.cell 1
  go_cut [14] (fun r14 wx => r14 = .bool true ∧ Hid (Fr No w10 wx))
  case first =>
    go_region_with (first
      | (go_at_call 25; refine (HRT.out _ (HF1.out.trans HF10.out.drew fun _ _ h => h)).mono ?_; rintro e w11 ⟨vR, rfl, hpr, f11⟩; obtain ⟨AR, cR, rfl, -⟩ := hpr.pr.form; rw [HTN.out] at hpr ⊢; have F11 := (Fr.refl No w10).drew.trans f11 fun _ _ h => h; obtain ⟨q0, q1, -, -⟩ := blk2 (HYT10.out.no F11); have HPR := Lib.hid hpr; have HF11 := Lib.hid F11; clear f11 F11 hpr)
      | (go_at_call 24; refine (rsame_any ct ct tl tl _ _ _ (HPT10.out.no HF11.out).pr HPR.out.pr).mono ?_; rintro e w12 ⟨rfl, f12⟩; rw [show sameA ⟨ct, tl⟩ ⟨ct, tl⟩ = true from sameA_iff.2 rfl]; have HF12 := Lib.hid (HF11.out.trans f12 fun _ _ h => h); clear f12))
    all_goals
      go_wp2_with fail
      go_meet
      exact ⟨rfl, HF12⟩
  case rest =>
  obtain ⟨rfl, HFC⟩ := hcut
  clear x0 x1 t0 t1
  rename World => w12
  have HF12 : Hid (Fr No w1 w12) := Lib.hid (HF10.out.trans HFC.out fun _ _ h => h)
  have HYM12 : Hid (Blk w12 ym 39 #[.int .i64 cm, .slice AM T dm]) := Lib.hid (HYM.out.no HFC.out)
  have HPM12 : Hid (PO w8.heap.size w12 (.slice AM T dm) ml) := Lib.hid (HPM10.out.no HFC.out)
  have x0 : w12.drew.cell? ⟨b, 0, none⟩ = some (.int .i64 c1) := (HX.out.no HF12.out).cell 0
  have x1 : w12.drew.cell? ⟨b, 1, none⟩ = some (.slice A N ca) := (HX.out.no HF12.out).cell 1
  have y0 : w12.drew.cell? ⟨b + 1, 0, none⟩ = some (.int .i64 c2) := (HY.out.no HF12.out).cell 0
  have y1 : w12.drew.cell? ⟨b + 1, 1, none⟩ = some (.slice B M cb) := (HY.out.no HF12.out).cell 1
  have t0 : w12.drew.cell? ⟨ym, 0, none⟩ = some (.int .i64 cm) := HYM12.out.cell 0
  have t1 : w12.drew.cell? ⟨ym, 1, none⟩ = some (.slice AM T dm) := HYM12.out.cell 1
  go_upto_region 7 with fail
  go_cut [15] (fun r15 wx => r15 = .bool true ∧ Hid (Fr No w12 wx))
  case first =>
    go_region_with (first
      | (go_at_call 26; refine (HRM.out _ (HF1.out.trans HF12.out.drew fun _ _ h => h)).mono ?_; rintro e w11 ⟨vR, rfl, hpr, f11⟩; obtain ⟨AR, cR, rfl, -⟩ := hpr.pr.form; rw [HT.out] at hpr ⊢; have F11 := (Fr.refl No w12).drew.trans f11 fun _ _ h => h; obtain ⟨q0, q1, -, -⟩ := blk2 (HYM12.out.no F11); have HPR := Lib.hid hpr; have HF11 := Lib.hid F11; clear f11 F11 hpr)
      | (go_at_call 24; refine (rsame_any cm cm ml ml _ _ _ (HPM12.out.no HF11.out).pr HPR.out.pr).mono ?_; rintro e w13 ⟨rfl, f13⟩; rw [show sameA ⟨cm, ml⟩ ⟨cm, ml⟩ = true from sameA_iff.2 rfl]; have HF13 := Lib.hid (HF11.out.trans f13 fun _ _ h => h); clear f13))
    all_goals
      go_wp2_with fail
      go_meet
      exact ⟨rfl, HF13⟩
  case rest =>
  obtain ⟨rfl, HFD⟩ := hcut
  clear x0 x1 y0 y1 t0 t1
  rename World => w14
  have HF1014 : Hid (Fr No w10 w14) := Lib.hid (HFC.out.trans HFD.out fun _ _ h => h)
  have HNE1 : Hid (∀ k, AT = some ⟨k, 0, none⟩ → w6.heap.size ≤ k ∧ k < w8.heap.size ∧ k ≠ yt ∧ k ≠ ym) := Lib.hid fun k hk => by
    obtain ⟨h1, cs, h2⟩ := po_blk HPT8.out hk
    exact ⟨h1, h2.lt, Blk.ne_ h2 HYT.out (by decide), Blk.ne_ (h2.no HF810.out) HYM.out (by decide)⟩
  have HNE2 : Hid (∀ k, AM = some ⟨k, 0, none⟩ → w8.heap.size ≤ k ∧ k ≠ ym) := Lib.hid fun k hk => by
    obtain ⟨h1, cs, h2⟩ := po_blk HPM10.out hk
    exact ⟨h1, Blk.ne_ h2 HYM.out (by decide)⟩
  have HPT14 : Hid (PO w6.heap.size w14 (.slice AT N dt) tl) := Lib.hid (HPT10.out.no HF1014.out)
  have HPM14 : Hid (PO w8.heap.size w14 (.slice AM T dm) ml) := Lib.hid (HPM10.out.no HF1014.out)
  have HYT14 : Hid (Blk w14 yt 39 #[.int .i64 ct, .slice AT N dt]) := Lib.hid (HYT10.out.no HF1014.out)
  have HYM14 : Hid (Blk w14 ym 39 #[.int .i64 cm, .slice AM T dm]) := Lib.hid (HYM.out.no HF1014.out)
  have HF614 : Hid (Fr No w6 w14) := Lib.hid ((HF68.out.trans HF810.out fun _ _ h => h).trans HF1014.out fun _ _ h => h)
  have hNb : N ≤ 3518437208880 := by
    have h1 := takeL_len l ns
    rw [HTL.out, HTN.out] at h1
    have := HL.out.2
    omega
  have hTb : T ≤ 9223372036854775807 := by
    obtain ⟨_, c', e, h1, h2⟩ := HPM14.out.pr.form
    rw [HT.out] at h1
    unfold maxLen at h2
    omega
  go_wp2_with fail
  go_loopg [16] N (fun k r16 wr => Hid (∃ (j : Nat) (l' : List Pt), r16 = .int .i64 (j : Nat) ∧ j + k = N ∧ l'.length = N ∧ PO w6.heap.size wr (.slice AT N dt) l' ∧ Fr (fun k => AT = some ⟨k, 0, none⟩) w14 wr))
  case atStart => exact Lib.hid ⟨0, tl, rfl, by omega, HTN.out, HPT14.out, Fr.refl _ _⟩
  case round =>
  obtain ⟨j, l', rfl, hjk, hll, hp, hf⟩ := hrel.out
  clear hrel
  have hbt := HYT14.out.of (hf.block yt HYT14.out.lt fun e => (HNE1.out yt e).2.2.1 rfl)
  by_cases hj : j < N
  · have hji : (j : Int) < (N : Int) := by omega
    obtain ⟨y0, y1, -, -⟩ := blk2 hbt
    obtain ⟨g, rfl, hgb, hgl, ⟨u0, u1, u2, u3, u4⟩, hz, hp'⟩ := hp.put (j := j) (by rw [hll]; exact hj) pm9
    have hlen : (l'.set j pm9).length = N := by rw [List.length_set]; exact hll
    have HQ := Lib.hid (And.intro hp' (hf.put5 (p := pm9) (o := j * 5) (g := g) fun _ => rfl))
    clear hp hp' hf hbt
    go_wp2_with fail
    obtain ⟨g3, rfl⟩ : ∃ g3, gk = g3 + 1 := ⟨gk - 1, by omega⟩
    go_roundg g3
    case rel => exact Lib.hid ⟨j + 1, _, by go_num, by omega, hlen, HQ.out.1, HQ.out.2⟩
    all_goals omega
  · have hji : (N : Int) ≤ (j : Int) := by omega
    rename World => wq
    obtain ⟨y0, y1, -, -⟩ := blk2 hbt
    have HFA : Hid (Fr (fun k => AT = some ⟨k, 0, none⟩) w14 wq) := Lib.hid hf
    have HYM1 : Hid (Blk wq ym 39 #[.int .i64 cm, .slice AM T dm]) := Lib.hid (HYM14.out.of (hf.block ym HYM14.out.lt fun e => (HNE1.out ym e).2.2.2 rfl))
    have HPM1 : Hid (PO w8.heap.size wq (.slice AM T dm) ml) := Lib.hid (HPM14.out.keep fun k cs hk hb => hf.block k hb.lt fun e => by have := (HNE1.out k e).2.1; omega)
    clear hp hf hbt hll hjk HPT14 HPT10 HPT8 HYT14 HYT10 HYT HPM10 HPM12 HYM12
    go_wp2_with fail
    go_loopg [17] T (fun k r17 wz => Hid (∃ (i : Nat) (l' : List Pt), r17 = .int .i64 (i : Nat) ∧ i + k = T ∧ l'.length = T ∧ PO w8.heap.size wz (.slice AM T dm) l' ∧ Fr (fun k => AM = some ⟨k, 0, none⟩) wq wz))
    case atStart => exact Lib.hid ⟨0, ml, rfl, by omega, HT.out, HPM1.out, Fr.refl _ _⟩
    case round =>
    obtain ⟨i, k', rfl, hik, hkk, hp, hf⟩ := hrel.out
    clear hrel y0 y1
    have hbm := HYM1.out.of (hf.block ym HYM1.out.lt fun e => (HNE2.out ym e).2 rfl)
    by_cases hi : i < T
    · have hii : (i : Int) < (T : Int) := by omega
      obtain ⟨y0, y1, -, -⟩ := blk2 hbm
      obtain ⟨g, rfl, hgb, hgl, ⟨u0, u1, u2, u3, u4⟩, hz, hp'⟩ := hp.put (j := i) (by rw [hkk]; exact hi) pm9
      have hlen : (k'.set i pm9).length = T := by rw [List.length_set]; exact hkk
      have HQ := Lib.hid (And.intro hp' (hf.put5 (p := pm9) (o := i * 5) (g := g) fun _ => rfl))
      clear hp hp' hf hbm
      go_wp2_with fail
      obtain ⟨g3, rfl⟩ : ∃ g3, gk = g3 + 1 := ⟨gk - 1, by omega⟩
      go_roundg g3
      case rel => exact Lib.hid ⟨i + 1, _, by go_num, by omega, hlen, HQ.out.1, HQ.out.2⟩
      all_goals omega
    · have hii : (T : Int) ≤ (i : Int) := by omega
      obtain ⟨y0, y1, -, -⟩ := blk2 hbm
      have HFZ : Hid (Fr No w6 wr) := Lib.hid (by
        have f1 : Fr (fun k => w6.heap.size ≤ k) w6 wq := (HF614.out.any).trans HFA.out fun k _ e => (HNE1.out k e).1
        have f2 : Fr (fun k => w6.heap.size ≤ k) w6 wr := f1.trans hf fun k _ e => by have := (HNE2.out k e).1; have := HF68.out.size; omega
        exact f2.mono fun k hk e => by omega)
      have HWZ : Hid (Fr No w wr) := Lib.hid (HF1.out.trans (HF6.out.trans HFZ.out fun _ _ h => h) fun _ _ h => h)
      have HS1 : Hid (∀ w', Fr No wr w' → Calls Try.prog 24 #[.agg #[.int .i64 c1, .slice (some ⟨g1, 0, none⟩) N d1], .agg #[.int .i64 c1, .slice A N ca]] w' (TellsB true w')) := Lib.hid fun w' f' => by
        have := rsame_any c1 c1 l l _ _ w' (HX6.out.2.1.no (HFZ.out.trans f' fun _ _ h => h)) (HPA.out.no (HWZ.out.trans f' fun _ _ h => h))
        rw [show sameA ⟨c1, l⟩ ⟨c1, l⟩ = true from sameA_iff.2 rfl] at this
        exact this
      have HS2 : Hid (∀ w', Fr No wr w' → Calls Try.prog 24 #[.agg #[.int .i64 c2, .slice (some ⟨g2, 0, none⟩) M d2], .agg #[.int .i64 c2, .slice B M cb]] w' (TellsB true w')) := Lib.hid fun w' f' => by
        have := rsame_any c2 c2 l2 l2 _ _ w' (HY6.out.2.1.no (HFZ.out.trans f' fun _ _ h => h)) (HPB.out.no (HWZ.out.trans f' fun _ _ h => h))
        rw [show sameA ⟨c2, l2⟩ ⟨c2, l2⟩ = true from sameA_iff.2 rfl] at this
        exact this
      obtain ⟨x0, x1, -, -⟩ := blk2 (HX6.out.1.no HFZ.out)
      obtain ⟨a0, a1, -, -⟩ := blk2 ((HX.out.no HF6.out).no HFZ.out)
      clear hp hf hbm hkk hik HYM14 HYM1 HPM1 HPM14 HYM
      go_upto_region 17 with (go_at_call 24; refine (HS1.out _ (Fr.refl _ _)).mono ?_; rintro e wu ⟨rfl, fu⟩; have HU := Lib.hid fu; clear fu)
      clear x0 x1 a0 a1 y0 y1
      obtain ⟨x0, x1, -, -⟩ := blk2 ((HY6.out.1.no HFZ.out).no HU.out)
      obtain ⟨a0, a1, -, -⟩ := blk2 (((HY.out.no HF6.out).no HFZ.out).no HU.out)
      go_upto_region 18 with (go_at_call 24; refine (HS2.out _ HU.out).mono ?_; rintro e wv ⟨rfl, fv⟩; have HV := Lib.hid (HU.out.trans fv fun _ _ h => h); clear fv)
      clear x0 x1 a0 a1
      have hfv : Fr No w6 wv := HFZ.out.trans HV.out fun _ _ h => h
      have q1 : wv.cell? ⟨g1, N * 5 + 3, none⟩ = some (.int .i64 77) := (HX6.out.2.2.1.of (hfv.block g1 HX6.out.2.2.2 id)).2.2.2.1
      have q2 : wv.cell? ⟨g2, M * 5 + 3, none⟩ = some (.int .i64 77) := (HY6.out.2.2.1.of (hfv.block g2 HY6.out.2.2.2 id)).2.2.2.1
      have HE : Hid (Fr No w wv) := Lib.hid (HWZ.out.trans HV.out fun _ _ h => h)
      clear hfv
      go_wp2_with fail
      go_ret
      exact ⟨by first | rfl | simp, HE.out⟩
end Go.Proofs.Ytgjpdagbbljmpaa
