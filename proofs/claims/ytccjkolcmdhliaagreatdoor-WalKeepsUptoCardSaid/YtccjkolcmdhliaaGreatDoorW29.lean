/- A round of WalKeeps: a crash. -/
import Derived.Test.YtccjkolcmdhliaaGreatDoorM8
namespace Go.Proofs.YtccjkolcmdhliaaGreatDoor
open Go.RowKit Go.Maps Go.Sort
set_option linter.unusedVariables false

set_option maxRecDepth 1000000 in
set_option maxHeartbeats 16000000 in
theorem keeps_crash {w w1 wr : World} {X X1 : Nat → Prop} {d g i n c0 F fo ca : Nat} {A0 : Option Addr} {os : List OpK} {all : List (List UInt8)} {S : AS} {L : LS} {Aa : Option Addr} (HV : Hid (Vr w)) (HX : Hid (∀ k, X k ↔ k < w.heap.size)) (HLO : Hid (∀ k, k < 4 → X k)) (HN : Hid (os.length = n)) (hmax : n ≤ maxLen)
    (HC : Hid (0 < os.length → ∃ g off, A0 = some ⟨g, off, none⟩ ∧ g < w.heap.size ∧ ∀ (j : Nat) (h : j < os.length), ∃ cs : List Value, cs.length = 5 ∧ (∀ i, i < 5 → w.cell? ⟨g, off + j * 5 + i, none⟩ = cs[i]?) ∧ opE w os[j] cs)) (HLEN : Hid (∀ o ∈ os, o.data.length ≤ 1048576)) (F2 : Hid (Fr (fun k => ¬ X k) w w1))
    (HG : Hid (Kp w w1 wr X d g i all F fo S L X1 (.slice Aa all.length ca))) (hlt : i < n) (hlt80 : i < 80) (HK0 : Hid (∀ (o : OpK), os[i]? = some o → kindOf o = 7 ∨ kindOf o = 8))
    {c1 c6 c7 c21 c22 c23 c24 c25 c26 c27 c28 c29 c30 c31 c32 c33 c34 c35 c36 c37 c38 c231 : Value} {u2 u12 u13 u14 u15 u16 u17 u18 u19 u20 u39 u40 u41 u42 u43 u44 u45 u46 u47 u48 u49 u50 u51 u52 u53 u54 u55 u56 u57 u58 u59 u60 u61 u62 u63 u64 u65 u66 u67 u68 u69 u70 u71 u72 u73 u74 u75 u76 u77 u78 u79 u80 u81 u82 u83 u84 u85 u86 u87 u88 u89 u90 u91 u92 u93 u94 u95 u96 u97 u98 u99 u100 u101 u102 u103 u104 u105 u106 u107 u108 u109 u110 u111 u112 u113 u114 u115 u116 u117 u118 u119 u120 u121 u122 u123 u124 u125 u126 u127 u128 u129 u130 u131 u132 u133 u134 u135 u136 u137 u138 u139 u140 u141 u142 u143 u144 u145 u146 u147 u148 u149 u150 u151 u152 u153 u154 u155 u156 u157 u158 u159 u160 u161 u162 u163 u164 u165 u166 u167 u168 u169 u170 u171 u172 u173 u174 u175 u176 u177 u178 u179 u180 u181 u182 u183 u184 u185 u186 u187 u188 u189 u190 u191 u192 u193 u194 u195 u196 u197 u198 u199 u200 u201 u202 u203 u204 u205 u206 u207 u208 u209 u210 u211 u212 u213 u214 u215 u216 u217 u218 u219 u220 u221 u222 u223 u224 u225 u226 u227 u228 u229 u230 : Value} {K : Act → World → Prop} {Q : Exit → Act → World → Prop} (HK : Hid (∀ a w', KI w w1 X d n (.slice A0 n c0) c1 c6 c7 c21 c22 c23 c24 c25 c26 c27 c28 c29 c30 c31 c32 c33 c34 c35 c36 c37 c38 c231 a w' → a.tmps.getD 11 undef = .int .i64 ((i + 1 : Nat) : Int) → K a w')) :
    Code.wp Tryz.prog keepsBody (Exit.then K Q) ⟨#[.slice A0 n c0, c1, u2, .bool true, .pointer (some ⟨d, 0, none⟩), .pointer (some ⟨g, 0, none⟩), c6, c7, .slice Aa all.length ca, .int .i64 (F : Nat), .int .i64 (fo : Nat), .int .i64 (i : Nat), u12, u13, u14, u15, u16, u17, u18, u19, u20, c21, c22, c23, c24, c25, c26, c27, c28, c29, c30, c31, c32, c33, c34, c35, c36, c37, c38, u39, u40, u41, u42, u43, u44, u45, u46, u47, u48, u49, u50, u51, u52, u53, u54, u55, u56, u57, u58, u59, u60, u61, u62, u63, u64, u65, u66, u67, u68, u69, u70, u71, u72, u73, u74, u75, u76, u77, u78, u79, u80, u81, u82, u83, u84, u85, u86, u87, u88, u89, u90, u91, u92, u93, u94, u95, u96, u97, u98, u99, u100, u101, u102, u103, u104, u105, u106, u107, u108, u109, u110, u111, u112, u113, u114, u115, u116, u117, u118, u119, u120, u121, u122, u123, u124, u125, u126, u127, u128, u129, u130, u131, u132, u133, u134, u135, u136, u137, u138, u139, u140, u141, u142, u143, u144, u145, u146, u147, u148, u149, u150, u151, u152, u153, u154, u155, u156, u157, u158, u159, u160, u161, u162, u163, u164, u165, u166, u167, u168, u169, u170, u171, u172, u173, u174, u175, u176, u177, u178, u179, u180, u181, u182, u183, u184, u185, u186, u187, u188, u189, u190, u191, u192, u193, u194, u195, u196, u197, u198, u199, u200, u201, u202, u203, u204, u205, u206, u207, u208, u209, u210, u211, u212, u213, u214, u215, u216, u217, u218, u219, u220, u221, u222, u223, u224, u225, u226, u227, u228, u229, u230, c231], []⟩ wr := by
  conv => arg 2; whnf
  have hil : i < os.length := by rw [HN.out]; exact hlt
  obtain ⟨gd, off, rfl, hgd, hcs⟩ := HC.out (by omega)
  obtain ⟨cs, -, hcs2, hcs3, hk64, hn64, hs64, A3, n3, c3, g3, hpv, hpk⟩ := hcs i hil
  have hdl := HLEN.out _ (List.getElem_mem hil)
  obtain ⟨o, ho⟩ : ∃ o, os[i] = o := ⟨_, rfl⟩
  have hk0 := HK0.out o (by rw [List.getElem?_eq_getElem hil, ho])
  rw [ho] at hcs3 hk64 hn64 hs64 hpv hpk hdl
  have hrow : ∀ j v, cs[j]? = some v → j < 5 → wr.cell? ⟨gd, off + i * 5 + j, none⟩ = some v := fun j v hv hj => by
    have := (cell_eq ((F2.out.thenX HG.out.fr).block gd hgd fun hk => hk ((HX.out gd).2 hgd)) (off + i * 5 + j)).trans (hcs2 j hj)
    rw [hv] at this
    exact this
  subst hcs3
  have x0 := hrow 0 _ rfl (by omega)
  have x1 := hrow 1 _ rfl (by omega)
  have x2 := hrow 2 _ rfl (by omega)
  have x3 := hrow 3 _ rfl (by omega)
  have x4 := hrow 4 _ rfl (by omega)
  rw [hpv] at x4
  rw [Nat.add_zero] at x0
  clear hcs hcs2 hrow ho hil
  have HD := Lib.hid (fun wx => data_any wx o hs64 (by omega))
  have HPK := Lib.hid hpk
  have HPV := Lib.hid hpv
  have HN64 := Lib.hid hn64
  have HS64 := Lib.hid hs64
  have hdwl := o.dataW_len
  have hdw : o.dataW.length ≤ 1051575 := by omega
  obtain ⟨kd, nn, sz, dt, pv, pk⟩ := o
  obtain ⟨dd, hdd⟩ : ∃ dd, OpK.dataW ⟨kd, nn, sz, dt, pv, pk⟩ = dd := ⟨_, rfl⟩
  rw [hdd] at HD hdw
  unfold OpK.val at HD
  simp only at HD HPK HPV HN64 HS64 x0 x1 x2 x3 x4 hpv
  subst hpv
  clear hdd hdwl hdl hpk hn64 hs64 HPV
  unfold sv at x3
  have HDD : Hid (∀ wx : World, Calls Tryz.prog 25 #[.agg #[.int .i64 kd, .int .i64 nn, .int .i64 sz, .string ⟨dt.toArray⟩, .slice A3 n3 c3]] wx fun e w' => e = .returned (sv dd) ∧ Fr No wx w') := HD
  clear HD
  obtain ⟨db, hdb⟩ : ∃ x : ByteArray, (⟨dt.toArray⟩ : ByteArray) = x := ⟨_, rfl⟩
  rw [hdb] at HDD x3
  clear hdb
  go_upto_region 13 with fail
  obtain ⟨wp, hwp⟩ : ∃ wp, wr.alloc (.cells #[.int .i64 kd, .int .i64 nn, .int .i64 sz, .string db, .slice A3 n3 c3] 36) = wp := ⟨_, rfl⟩
  obtain ⟨p, hp⟩ : ∃ p, wr.heap.size = p := ⟨_, rfl⟩
  have hblk : Blk wp p 36 #[.int .i64 kd, .int .i64 nn, .int .i64 sz, .string db, .slice A3 n3 c3] := by rw [← hwp, ← hp]; exact Blk.new wr 36 _
  have hfwp : Fr No wr wp := by rw [← hwp]; exact (Fr.refl No wr).alloc _
  have hpX : ¬ X1 p := fun hx => by have := HG.out.lg.base p hx; omega
  have hwb : wr.heap.size < wp.heap.size := by rw [← hwp]; simp
  obtain ⟨X2, hX2⟩ : ∃ X2 : Nat → Prop, (fun k => X1 k ∨ k = p) = X2 := ⟨_, rfl⟩
  have hX2' : ∀ k, X2 k ↔ (X1 k ∨ k = p) := fun k => by rw [← hX2]
  have hG2 : Kp w w1 wp X d g i all F fo S L X2 (.slice Aa all.length ca) := ⟨HG.out.lg.grow (F := No) hfwp (fun k hk => hk.elim) (fun k hk => (hX2' k).2 (.inl hk)) (fun k hk => by
      rcases (hX2' k).1 hk with hk | hk
      · exact ⟨Nat.lt_of_lt_of_le (HG.out.lg.base k hk) hfwp.size, .inl hk⟩
      · exact ⟨by omega, .inr (by omega)⟩), fun k hk => (hX2' k).2 (.inl (HG.out.sub k hk)), fun k hk => ⟨(hX2' k).2 (.inl (HG.out.own k hk).1), (HG.out.own k hk).2⟩, HG.out.row.keepS hfwp fun k _ hn => hn, HG.out.al, HG.out.cnt, HG.out.fr.thenX hfwp.any⟩
  have HG2 := Lib.hid hG2
  have HBL : Hid (∀ w', Fr (fun k => ¬ X2 k) wp w' → Blk w' p 36 #[.int .i64 kd, .int .i64 nn, .int .i64 sz, .string db, .slice A3 n3 c3]) := Lib.hid fun w' hf => hblk.of (hf.block p hblk.lt fun hk => hk ((hX2' p).2 (.inr rfl)))
  have HPK2 : Hid (∀ w', Fr (fun k => ¬ X2 k) wp w' → Fr (fun k => ¬ X k) w w') := Lib.hid fun w' hf => (F2.out.thenX HG2.out.fr).trans hf fun k _ hk hx => hk (HG2.out.sub k hx)
  have HLO2 : Hid (∀ k, k < 4 → X2 k) := Lib.hid fun k hk => HG2.out.sub k (HLO.out k hk)
  rw [hwp, hp]
  clear hwp hp hblk hfwp hpX hwb hX2 hX2' hG2 HG x0 x1 x2 x3 x4
  have z0 : wp.cell? ⟨p, 0, none⟩ = some (.int .i64 kd) := (HBL.out wp (Fr.refl _ _)).cell 0
  have z1 : wp.cell? ⟨p, 1, none⟩ = some (.int .i64 nn) := (HBL.out wp (Fr.refl _ _)).cell 1
  obtain ⟨kk, hkk, hkw, hkd⟩ : ∃ kk : Int, (kk = kd.tmod 9 ∧ 0 ≤ kd.tmod 9 ∨ kk = kd.tmod 9 + 9 ∧ kd.tmod 9 < 0) ∧ (0 ≤ kk ∧ kk ≤ 8) ∧ kk = kindOf ⟨kd, nn, sz, dt, .slice A3 n3 c3, pk⟩ := by
    have := tmod_small kd 9 (by omega)
    unfold kindOf
    by_cases h : kd.tmod 9 < 0
    · exact ⟨kd.tmod 9 + 9, .inr ⟨rfl, h⟩, by omega, by simp only [h, if_true]⟩
    · exact ⟨kd.tmod 9, .inl ⟨rfl, by omega⟩, by omega, by simp only [h, if_false]⟩
  rw [← hkd] at hk0
  have HKK := Lib.hid hkk
  clear hkk hk64 hkd
  go_upto_if 57 with fail
  go_cut [13] from 39 to 230 (fun v wx => v = .int .i64 kk ∧ wp = wx)
  case first =>
    rcases HKK.out with ⟨e1, e2⟩ | ⟨e1, e2⟩
    · have k0 : decide (kd.tmod 9 < 0) = false := by simpa using e2
      have k1 : ¬ kd.tmod 9 < 0 := by omega
      go_wp2_with fail
      go_meet
      exact ⟨by rw [e1], rfl⟩
    · have k0 : decide (kd.tmod 9 < 0) = true := by simpa using e2
      have k1 : IntKind.i64.wrap (kd.tmod 9 + 9) = kd.tmod 9 + 9 := IntWalk.i64_in _ (by have := tmod_small kd 9 (by omega); omega)
      go_wp2_with fail
      go_meet
      exact ⟨by rw [e1], rfl⟩
  case rest =>
  obtain ⟨rfl, rfl⟩ := hcut
  clear z0 HKK
  have hinv := HG2.out.lg.dk.inv
  have HINV := Lib.hid hinv
  have hbb := HG2.out.al.bounds
  have hcnt := HG2.out.cnt
  clear hinv
  have k3 : ¬ kk = 3 := by omega
  have k4 : ¬ kk = 4 := by omega
  have k56 : ¬ (kk = 5 ∨ kk = 6) := by omega
  have k78 := hk0
  clear hk0
  have b3 : (kk == 3) = false := by simpa using k3
  have b4 : (kk == 4) = false := by simpa using k4
  have b5 : (kk == 5) = false := by simp; omega
  have b6 : (kk == 6) = false := by simp; omega
  have HK78 := Lib.hid k78
  have HP5 : Hid (∀ w', Fr (fun k => ¬ X2 k) wp w' → ∀ j v, (#[Value.int .i64 kd, .int .i64 nn, .int .i64 sz, .string db, .slice A3 n3 c3])[j]? = some v → w'.cell? ⟨p, j, none⟩ = some v) := Lib.hid fun w' hf j v hv => ((HBL.out w' hf).cell j).trans hv
  have HCY : Hid (∀ w' S', Dk w' X2 d (200 * i) S' → Fr (fun k => ¬ X2 k) wp w' → (∃ A B fn st t, J S' all F fo A B fn st t ∧ B ≤ i + 1) → Calls Tryz.prog 23 #[.pointer (some ⟨d, 0, none⟩), .slice A3 n3 c3] w' fun e wx => e = .returned (.tuple #[]) ∧ Fr (fun k => ¬ X2 k) w' wx ∧ ∃ S'', Dk wx X2 d (200 * i) S'' ∧ Cr S'' all F fo (i + 1) ∧ S''.armed = false) := Lib.hid fun w' S' hd hf hj => crash_by (o := ⟨kd, nn, sz, dt, .slice A3 n3 c3, pk⟩) hd HX.out HG2.out.sub HPK.out (HPK2.out w' hf) hj
  have HOY : Hid (∀ w' S', Dk w' X2 d (200 * i) S' → Fr (fun k => ¬ X2 k) wp w' → Cr S' all F fo (i + 1) → Calls Tryz.prog 19 #[.pointer (some ⟨d, 0, none⟩), .int .i64 (fo : Nat)] w' fun e wx => ∃ lv rv en, e = .returned (.tuple #[lv, rv, .int .i64 en]) ∧ Fr (fun k => ¬ X2 k) w' wx ∧ Vr wx ∧ ((en = 0 ∧ Opd wx X2 d (200 * i) all F fo (i + 1) lv rv) ∨ (en = 13 ∧ S'.armed = true ∧ Opf wx X2 d (200 * i) all F fo (i + 1)))) := Lib.hid fun w' S' hd hf hc => open_cr hd hc (HG2.out.lg.vr.x HLO2.out hf) HLO2.out (by omega) (by omega)
  have HC1 := Lib.hid (HCY.out wp S HG2.out.lg.dk (Fr.refl _ _) HG2.out.al.j)
  clear z1 k3 k4 k56 k78
  go_upto_if 119 with fail
  go_cut [119] from 39 to 230 (fun v wx => v = .bool true ∧ wp = wx)
  case first =>
    as_aux_lemma =>
      rcases HK78.out with rfl | rfl
      all_goals
        go_wp2_with fail
        go_meet
        exact ⟨rfl, rfl⟩
  case rest =>
  obtain ⟨rfl, rfl⟩ := hcut
  clear b3 b4 b5 b6 hkw HK78
  have z4 := HP5.out wp (Fr.refl _ _) 4 _ rfl
  go_wp2_with fail
  refine HC1.out.mono ?_
  rintro e wc ⟨rfl, hfc, SC, hdc, hcc, harm⟩
  have HDC := Lib.hid hdc
  have HFC := Lib.hid hfc
  have HCC := Lib.hid hcc
  have z1 := HP5.out wc hfc 1 _ rfl
  have z2 := HP5.out wc hfc 2 _ rfl
  have hsb := tmod_small sz 4 (by omega)
  have HAR := Lib.hid (x_arm hdc (sz.tmod 4) (by omega))
  clear hdc hfc hcc harm HC1 z4
  go_upto_if 129 with fail
  go_cut [] from 39 to 230 (fun wx => ∃ we, we = wx ∧ Fr (fun k => ¬ X2 k) wp we ∧ ∃ SD, Dk we X2 d (200 * i) SD ∧ Cr SD all F fo (i + 1))
  case first =>
    as_aux_lemma =>
      by_cases h4 : nn.tmod 4 = 0
      · have h4b : (nn.tmod 4 == 0) = true := by simpa using h4
        go_wp2_with fail
        refine HAR.out.mono ?_
        rintro e wx ⟨rfl, hd, hf⟩
        have HDX := Lib.hid hd
        have HFX := Lib.hid (HFC.out.thenX hf)
        clear hd hf HAR
        go_wp2_with fail
        go_meet
        exact ⟨_, rfl, HFX.out, _, HDX.out, cr_arm HCC.out HDC.out.inv _⟩
      · have h4b : (nn.tmod 4 == 0) = false := by simpa using h4
        clear HAR
        go_wp2_with fail
        go_meet
        exact ⟨_, rfl, HFC.out, _, HDC.out, HCC.out⟩
  case rest =>
  obtain ⟨we, rfl, hfe, SD, hde, hce⟩ := hcut
  have HFE := Lib.hid hfe
  have HO := Lib.hid (HOY.out we SD hde hfe hce)
  clear hfe hde hce HAR HDC HFC HCC z1 z2 hsb
  go_wp2_with fail
  refine HO.out.mono ?_
  rintro e wo ⟨lv, rv, en, rfl, hfo, hvo, hoo⟩
  have HFO := Lib.hid (HFE.out.thenX hfo)
  have HOO := Lib.hid hoo
  clear hfo hvo hoo HO HFE
  go_upto_region 39 with fail
  go_upto_if 143 with fail
  go_cut [14, 15, 16] from 39 to 230 (fun lv' rv' ev wx => ∃ wg, wg = wx ∧ ev = .int .i64 0 ∧ Fr (fun k => ¬ X2 k) wp wg ∧ Opd wg X2 d (200 * i) all F fo (i + 1) lv' rv')
  case first =>
    as_aux_lemma =>
      rcases HOO.out with ⟨rfl, h1⟩ | ⟨rfl, -, h1⟩
      · have H1 := Lib.hid h1
        clear h1 HOO
        go_wp2_with fail
        go_meet
        exact ⟨_, rfl, rfl, HFO.out, H1.out⟩
      · obtain ⟨SF, hdf, hjf⟩ := h1
        have HC2 := Lib.hid (HCY.out wo SF hdf HFO.out hjf)
        have z4 := HP5.out wo HFO.out 4 _ rfl
        clear hdf hjf HOO
        go_wp2_with fail
        refine HC2.out.mono ?_
        rintro e wh ⟨rfl, hfh, SH, hdh, hch, harm⟩
        have HFH := Lib.hid (HFO.out.thenX hfh)
        have HO2 := Lib.hid (HOY.out wh SH hdh HFH.out hch)
        clear hfh hdh hch HC2 z4
        go_wp2_with fail
        refine HO2.out.mono ?_
        rintro e wi ⟨lv2, rv2, en2, rfl, hfi, -, hoi⟩
        have HFI := Lib.hid (HFH.out.thenX hfi)
        have HOI := Lib.hid hoi
        clear hfi hoi HO2
        rcases HOI.out with ⟨rfl, h1⟩ | ⟨rfl, h1, -⟩
        · have H1 := Lib.hid h1
          clear h1 HOI harm
          go_wp2_with fail
          go_meet
          exact ⟨_, rfl, rfl, HFI.out, H1.out⟩
        · rw [harm] at h1; exact nomatch h1
  case rest =>
  obtain ⟨wg, rfl, rfl, hfg, hog⟩ := hcut
  obtain ⟨g2, A5, c5, X3, S5, L5, ne, rfl, rfl, hx3, hl5, ⟨bb, hr5⟩, hown5, ho1, ho2, ho3, ha5, hla5, hfi5⟩ := hog
  have HFG := Lib.hid hfg
  have HX3 := Lib.hid hx3
  have HL5 := Lib.hid hl5
  have HR5 := Lib.hid hr5
  have HOWN5 := Lib.hid hown5
  have HA5 := Lib.hid ha5
  have HLA5 := Lib.hid hla5
  have HFI5 := Lib.hid hfi5
  have hla0 := HLA5.out
  have hfi0 := HFI5.out
  clear hfg hx3 hl5 hr5 hown5 ha5 hla5 hfi5 HOO HFO HCY HOY
  have HL0 := Lib.hid hla0
  have HF0 := Lib.hid hfi0
  clear hla0 hfi0
  have HAR2 := lg_arm HL5.out (-1) (by omega)
  unfold dkp at HAR2
  have HARM := Lib.hid HAR2
  clear HAR2
  unfold gpt
  go_wp2_with fail
  refine HARM.out.mono ?_
  rintro e wj ⟨rfl, hlj, hfj⟩
  have HLJ := Lib.hid hlj
  have HFJ := Lib.hid hfj
  have HAJ := Lib.hid (al_arm HA5.out HL5.out.dk.inv (-1))
  clear hlj hfj HARM
  have hrow2 : Grow w.heap.size 9 1 strG wj (.slice Aa all.length ca) all := (HG2.out.row.keepS HFG.out fun k hk hn => hn (HG2.out.own k hk).1).keepS HFJ.out fun k hk hn => hn (HX3.out k (HG2.out.own k hk).1)
  have HROW := Lib.hid hrow2
  have hfrj : Fr (fun k => ¬ X k) w1 wj := (HG2.out.fr.trans HFG.out fun k _ hk hx => hk (HG2.out.sub k hx)).trans HFJ.out fun k _ hk hx => hk (HX3.out k (HG2.out.sub k hx))
  have HFRJ := Lib.hid hfrj
  clear hrow2 hfrj HLA5 HFI5
  have HLAST := HL0
  have HFIRM := HF0
  clear HL0 HF0
  obtain ⟨la, hla⟩ : ∃ la, all.length = la := ⟨_, rfl⟩
  have HLEN2 := Lib.hid hla
  have hfo : fo ≤ F := ho1
  obtain ⟨q1, hq1⟩ : ∃ q1, la - fo = q1 := ⟨_, rfl⟩
  obtain ⟨q2, hq2⟩ : ∃ q2, F - fo = q2 := ⟨_, rfl⟩
  obtain ⟨e1, he1⟩ : ∃ e1, fo + ne = e1 := ⟨_, rfl⟩
  have hr1 : IntKind.i64.wrap ((la : Int) - (fo : Int)) = (q1 : Int) := by rw [show (la : Int) - (fo : Int) = (q1 : Int) by omega]; exact IntWalk.i64_in _ (by omega)
  have hr2 : IntKind.i64.wrap ((F : Int) - (fo : Int)) = (q2 : Int) := by rw [show (F : Int) - (fo : Int) = (q2 : Int) by omega]; exact IntWalk.i64_in _ (by omega)
  have hr3 : IntKind.i64.wrap ((fo : Int) + (ne : Int)) = (e1 : Int) := by rw [show (fo : Int) + (ne : Int) = (e1 : Int) by omega]; exact IntWalk.i64_in _ (by omega)
  have d1 : decide ((q1 : Int) < (ne : Int)) = false := by simp; omega
  have d2 : decide (q1 < ne) = false := by simp; omega
  have d3 : decide ((ne : Int) < (q2 : Int)) = false := by simp; omega
  have d4 : decide (ne < q2) = false := by simp; omega
  have d5 : decide ((la : Int) - (fo : Int) < (ne : Int)) = false := by simp; omega
  have d6 : decide ((ne : Int) < (F : Int) - (fo : Int)) = false := by simp; omega
  have HE1 := Lib.hid he1
  have hnum : fo ≤ 80 ∧ ne ≤ 80 ∧ la ≤ 80 ∧ e1 ≤ la := by omega
  have hl1 : all.length ≤ 80 := by omega
  have hsl : Hid (∀ w0 : World, (Instr.slice 46 (.slice Aa la ca) none (some (.int .i64 (e1 : Nat))) none).run Tryz.prog w0 = .ok (.slice Aa e1 ca) w0) := Lib.hid fun w0 => by rw [← hla]; exact run_takeS HROW.out e1 (by omega) w0
  have HALL2 : Hid ((all.take (fo + ne)).length = e1) := Lib.hid (by rw [List.length_take]; omega)
  rw [he1] at HALL2 HAJ HLAST HFIRM
  rw [hla]
  clear hla he1 hq1 hq2 ho1 ho2 ho3 hcnt hbb
  go_wp2_with fail
  go_loopw [17] (fun iv wx => ∃ j : Nat, j ≤ ne ∧ iv = .int .i64 (j : Nat) ∧ Fr No wj wx) (fun iv _ => ne - (intOf iv).toNat)
  case atStart => exact ⟨0, Nat.zero_le _, rfl, Fr.refl _ _⟩
  case round =>
    obtain ⟨j, hj, rfl, hfx⟩ := hrel
    have HFX := Lib.hid hfx
    clear hfx
    by_cases hlt2 : j < ne
    · have hlen2 : (sl all fo (fo + ne)).length = ne := by rw [sl_len (by have := HE1.out; have := HLEN2.out; omega)]; omega
      obtain ⟨gt, rfl, -, hgl, hcl⟩ := HR5.out.recAt j (by rw [recsOf_len, hlen2]; exact hlt2)
      obtain ⟨z0o, z1o⟩ := hcl wr ((HFX.out.block gt (Nat.lt_of_lt_of_le hgl HFJ.out.size) id).trans (HFJ.out.block gt hgl fun hn => hn (HOWN5.out gt rfl)))
      have hfa : fo + j < all.length := by have := HLEN2.out; have := HE1.out; omega
      have hget := recsOf_get (sl all fo (fo + ne)) fo j (by omega)
      have hgl2 : (recsOf (sl all fo (fo + ne)) fo)[j]'(by rw [recsOf_len, hlen2]; exact hlt2) = ⟨((fo + j + 1 : Nat) : Int), all[fo + j]'hfa⟩ := by
        obtain ⟨_, h2⟩ := List.getElem?_eq_some_iff.1 hget
        rw [h2]
        simp only [sl, List.getElem_drop, List.getElem_take]
      have z0 : wr.cell? ⟨gt, j * 2, none⟩ = some (.int .i64 ((fo + j + 1 : Nat) : Int)) := by rw [hgl2] at z0o; exact z0o
      have z1 : wr.cell? ⟨gt, j * 2 + 1, none⟩ = some (sv (all[fo + j]'hfa)) := by rw [hgl2] at z1o; exact z1o
      clear z0o z1o
      obtain ⟨ga, hga1, -, hga2, hga3⟩ := HROW.out.strAt (fo + j) hfa
      have z2 := hga3 wr (HFX.out.block ga hga2 id)
      subst hga1
      obtain ⟨dj, hdj⟩ : ∃ dj, all[fo + j]'hfa = dj := ⟨_, rfl⟩
      rw [hdj] at z1 z2
      obtain ⟨jj, hjj⟩ : ∃ jj, fo + j + 1 = jj := ⟨_, rfl⟩
      rw [hjj] at z0
      obtain ⟨oj, hoj⟩ : ∃ oj, fo + j = oj := ⟨_, rfl⟩
      rw [hoj] at z2
      have hw0 : IntKind.i64.wrap ((fo : Int) + (j : Int)) = (oj : Int) := by rw [show (fo : Int) + (j : Int) = (oj : Int) by omega]; exact IntWalk.i64_in _ (by omega)
      have hwj : IntKind.i64.wrap ((oj : Int) + 1) = (jj : Int) := by rw [show (oj : Int) + 1 = (jj : Int) by omega]; exact IntWalk.i64_in _ (by omega)
      have b0 : ((jj : Int) != (jj : Int)) = false := by simp
      have b1 : (dj != dj) = false := by simp
      have b2 : (0 : Int) ≤ (j : Int) := by omega
      have b3 : (j : Int) < (ne : Int) := by omega
      have b4 : (oj : Int) < (la : Int) := by have := HLEN2.out; have := HE1.out; omega
      have b7 : (0 : Int) ≤ (oj : Int) := by omega
      have b5 : (la : Int) ≤ 1000 := by omega
      have b6 : (ne : Int) ≤ 1000 := by omega
      clear hget hgl2 hgl hcl hga2 hga3 hdj hlen2 hjj hoj hfa d1 d2 d3 d4 d5 d6 hr1 hr2 hr3
      go_upto_region 48 with fail
      go_quiet (fail)
      all_goals go_wp2_with fail
      all_goals refine ⟨⟨j + 1, by omega, by go_num, HFX.out.drewN nq⟩, ?_⟩
      all_goals simp [intOf]
      all_goals omega
    · have hje : ¬ (j : Int) < (ne : Int) := by omega
      have hje2 : ¬ j < ne := hlt2
      have hsx := hsl.out wr
      have HLX := HLJ.out.keep HFX.out
      have HLA := last_any HLX
      have HFI := firm_any HLX
      rw [HLAST.out] at HLA
      rw [HFIRM.out] at HFI
      unfold gpt at HLA HFI
      have HLAH := Lib.hid HLA
      have HFIH := Lib.hid HFI
      have HLXH := Lib.hid HLX
      have b0 : ((e1 : Int) != (e1 : Int)) = false := by simp
      clear HLA HFI HLX d1 d2 d3 d4 d5 d6 hr1 hr2
      go_wp2_with fail
      refine HLAH.out.mono ?_
      rintro e w' ⟨rfl, rfl⟩
      go_wp2_with fail
      refine HFIH.out.mono ?_
      rintro e w' ⟨rfl, rfl⟩
      go_wp2_with fail
      have hown : ∀ k, (Value.slice Aa e1 ca).ownBlock = some k → (Value.slice Aa all.length ca).ownBlock = some k := fun k hk => by
        cases Aa with
        | none => simp [Value.ownBlock] at hk
        | some a => simpa [Value.ownBlock] using hk
      have hkp : Kp w w1 wr X d g2 (i + 1) (all.take e1) e1 fo (S5.arm (-1)) L5 X3 (.slice Aa e1 ca) :=
        ⟨HLXH.out.more (by omega) (by omega), fun k hk => HX3.out k (HG2.out.sub k hk), fun k hk => ⟨HX3.out k (HG2.out.own k (hown k hk)).1, (HG2.out.own k (hown k hk)).2⟩,
          ((HROW.out.keepS HFX.out fun k _ hn => hn).takeS e1 (by have := HLEN2.out; omega)).1, HAJ.out.mono (by omega), by rw [HALL2.out]; have := HLEN2.out; have := HG2.out.cnt; omega, HFRJ.out.thenX HFX.out.any⟩
      have HKP := Lib.hid hkp
      clear hkp hown
      obtain ⟨all2, hall2⟩ : ∃ all2, all.take e1 = all2 := ⟨_, rfl⟩
      rw [hall2] at HKP HALL2
      refine HK.out _ _ ?_ ?_
      · unfold KI
        exact ⟨_, _, _, _, _, _, _, _, _, _, _, _, _, _, _, _, _, _, _, _, _, _, _, _, _, _, _, _, _, _, _, _, _, _, _, _, _, _, _, _, _, _, _, _, _, _, _, _, _, _, _, _, _, _, _, _, _, _, _, _, _, _, _, _, _, _, _, _, _, _, _, _, _, _, _, _, _, _, _, _, _, _, _, _, _, _, _, _, _, _, _, _, _, _, _, _, _, _, _, _, _, _, _, _, _, _, _, _, _, _, _, _, _, _, _, _, _, _, _, _, _, _, _, _, _, _, _, _, _, _, _, _, _, _, _, _, _, _, _, _, _, _, _, _, _, _, _, _, _, _, _, _, _, _, _, _, _, _, _, _, _, _, _, _, _, _, _, _, _, _, _, _, _, _, _, _, _, _, _, _, _, _, _, _, _, _, _, _, _, _, _, _, _, _, _, _, _, _, _, _, _, _, _, _, _, _, _, ⟨g2, i + 1, all2, e1, fo, S5.arm (-1), L5, X3, Aa, ca, by omega, by omega, rfl, by rw [HALL2.out], rfl, rfl, by go_num, by rw [HALL2.out]; exact HKP.out⟩, rfl⟩
      · show Value.int .i64 ((i : Int) + 1) = .int .i64 ((i + 1 : Nat) : Int)
        go_num
end Go.Proofs.YtccjkolcmdhliaaGreatDoor
