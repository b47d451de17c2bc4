/- A round of WalKeeps: Sync. -/
import Derived.Test.YtccjkolcmdhliaaGreatDoorM8
namespace Go.Proofs.YtccjkolcmdhliaaGreatDoor
open Go.RowKit Go.Maps Go.Sort
set_option linter.unusedVariables false

set_option maxRecDepth 1000000 in
set_option maxHeartbeats 16000000 in
theorem keeps_sync {w w1 wr : World} {X X1 : Nat → Prop} {d g i n c0 F fo ca : Nat} {A0 : Option Addr} {os : List OpK} {all : List (List UInt8)} {S : AS} {L : LS} {Aa : Option Addr} (HV : Hid (Vr w)) (HX : Hid (∀ k, X k ↔ k < w.heap.size)) (HLO : Hid (∀ k, k < 4 → X k)) (HN : Hid (os.length = n)) (hmax : n ≤ maxLen)
    (HC : Hid (0 < os.length → ∃ g off, A0 = some ⟨g, off, none⟩ ∧ g < w.heap.size ∧ ∀ (j : Nat) (h : j < os.length), ∃ cs : List Value, cs.length = 5 ∧ (∀ i, i < 5 → w.cell? ⟨g, off + j * 5 + i, none⟩ = cs[i]?) ∧ opE w os[j] cs)) (HLEN : Hid (∀ o ∈ os, o.data.length ≤ 1048576)) (F2 : Hid (Fr (fun k => ¬ X k) w w1))
    (HG : Hid (Kp w w1 wr X d g i all F fo S L X1 (.slice Aa all.length ca))) (hlt : i < n) (hlt80 : i < 80) (HK0 : Hid (∀ (o : OpK), os[i]? = some o → kindOf o = 3))
    {c1 c6 c7 c21 c22 c23 c24 c25 c26 c27 c28 c29 c30 c31 c32 c33 c34 c35 c36 c37 c38 c231 : Value} {u2 u12 u13 u14 u15 u16 u17 u18 u19 u20 u39 u40 u41 u42 u43 u44 u45 u46 u47 u48 u49 u50 u51 u52 u53 u54 u55 u56 u57 u58 u59 u60 u61 u62 u63 u64 u65 u66 u67 u68 u69 u70 u71 u72 u73 u74 u75 u76 u77 u78 u79 u80 u81 u82 u83 u84 u85 u86 u87 u88 u89 u90 u91 u92 u93 u94 u95 u96 u97 u98 u99 u100 u101 u102 u103 u104 u105 u106 u107 u108 u109 u110 u111 u112 u113 u114 u115 u116 u117 u118 u119 u120 u121 u122 u123 u124 u125 u126 u127 u128 u129 u130 u131 u132 u133 u134 u135 u136 u137 u138 u139 u140 u141 u142 u143 u144 u145 u146 u147 u148 u149 u150 u151 u152 u153 u154 u155 u156 u157 u158 u159 u160 u161 u162 u163 u164 u165 u166 u167 u168 u169 u170 u171 u172 u173 u174 u175 u176 u177 u178 u179 u180 u181 u182 u183 u184 u185 u186 u187 u188 u189 u190 u191 u192 u193 u194 u195 u196 u197 u198 u199 u200 u201 u202 u203 u204 u205 u206 u207 u208 u209 u210 u211 u212 u213 u214 u215 u216 u217 u218 u219 u220 u221 u222 u223 u224 u225 u226 u227 u228 u229 u230 : Value} {K : Act → World → Prop} {Q : Exit → Act → World → Prop} (HK : Hid (∀ a w', KI w w1 X d n (.slice A0 n c0) c1 c6 c7 c21 c22 c23 c24 c25 c26 c27 c28 c29 c30 c31 c32 c33 c34 c35 c36 c37 c38 c231 a w' → a.tmps.getD 11 undef = .int .i64 ((i + 1 : Nat) : Int) → K a w')) :
    Code.wp Tryz.prog keepsBody (Exit.then K Q) ⟨#[.slice A0 n c0, c1, u2, .bool true, .pointer (some ⟨d, 0, none⟩), .pointer (some ⟨g, 0, none⟩), c6, c7, .slice Aa all.length ca, .int .i64 (F : Nat), .int .i64 (fo : Nat), .int .i64 (i : Nat), u12, u13, u14, u15, u16, u17, u18, u19, u20, c21, c22, c23, c24, c25, c26, c27, c28, c29, c30, c31, c32, c33, c34, c35, c36, c37, c38, u39, u40, u41, u42, u43, u44, u45, u46, u47, u48, u49, u50, u51, u52, u53, u54, u55, u56, u57, u58, u59, u60, u61, u62, u63, u64, u65, u66, u67, u68, u69, u70, u71, u72, u73, u74, u75, u76, u77, u78, u79, u80, u81, u82, u83, u84, u85, u86, u87, u88, u89, u90, u91, u92, u93, u94, u95, u96, u97, u98, u99, u100, u101, u102, u103, u104, u105, u106, u107, u108, u109, u110, u111, u112, u113, u114, u115, u116, u117, u118, u119, u120, u121, u122, u123, u124, u125, u126, u127, u128, u129, u130, u131, u132, u133, u134, u135, u136, u137, u138, u139, u140, u141, u142, u143, u144, u145, u146, u147, u148, u149, u150, u151, u152, u153, u154, u155, u156, u157, u158, u159, u160, u161, u162, u163, u164, u165, u166, u167, u168, u169, u170, u171, u172, u173, u174, u175, u176, u177, u178, u179, u180, u181, u182, u183, u184, u185, u186, u187, u188, u189, u190, u191, u192, u193, u194, u195, u196, u197, u198, u199, u200, u201, u202, u203, u204, u205, u206, u207, u208, u209, u210, u211, u212, u213, u214, u215, u216, u217, u218, u219, u220, u221, u222, u223, u224, u225, u226, u227, u228, u229, u230, c231], []⟩ wr := by
  conv => arg 2; whnf
  have hil : i < os.length := by rw [HN.out]; exact hlt
  obtain ⟨gd, off, rfl, hgd, hcs⟩ := HC.out (by omega)
  obtain ⟨cs, -, hcs2, hcs3, hk64, hn64, hs64, A3, n3, c3, g3, hpv, hpk⟩ := hcs i hil
  have hdl := HLEN.out _ (List.getElem_mem hil)
  obtain ⟨o, ho⟩ : ∃ o, os[i] = o := ⟨_, rfl⟩
  have hk0 := HK0.out o (by rw [List.getElem?_eq_getElem hil, ho])
  rw [ho] at hcs3 hk64 hn64 hs64 hpv hpk hdl
  have hrow : ∀ j v, cs[j]? = some v → j < 5 → wr.cell? ⟨gd, off + i * 5 + j, none⟩ = some v := fun j v hv hj => by
    have := (cell_eq ((F2.out.thenX HG.out.fr).block gd hgd fun hk => hk ((HX.out gd).2 hgd)) (off + i * 5 + j)).trans (hcs2 j hj)
    rw [hv] at this
    exact this
  subst hcs3
  have x0 := hrow 0 _ rfl (by omega)
  have x1 := hrow 1 _ rfl (by omega)
  have x2 := hrow 2 _ rfl (by omega)
  have x3 := hrow 3 _ rfl (by omega)
  have x4 := hrow 4 _ rfl (by omega)
  rw [hpv] at x4
  rw [Nat.add_zero] at x0
  clear hcs hcs2 hrow ho hil
  have HD := Lib.hid (fun wx => data_any wx o hs64 (by omega))
  have HPK := Lib.hid hpk
  have HPV := Lib.hid hpv
  have HN64 := Lib.hid hn64
  have HS64 := Lib.hid hs64
  have hdwl := o.dataW_len
  have hdw : o.dataW.length ≤ 1051575 := by omega
  obtain ⟨kd, nn, sz, dt, pv, pk⟩ := o
  obtain ⟨dd, hdd⟩ : ∃ dd, OpK.dataW ⟨kd, nn, sz, dt, pv, pk⟩ = dd := ⟨_, rfl⟩
  rw [hdd] at HD hdw
  unfold OpK.val at HD
  simp only at HD HPK HPV HN64 HS64 x0 x1 x2 x3 x4 hpv
  subst hpv
  clear hdd hdwl hdl hpk hn64 hs64 HPV
  unfold sv at x3
  have HDD : Hid (∀ wx : World, Calls Tryz.prog 25 #[.agg #[.int .i64 kd, .int .i64 nn, .int .i64 sz, .string ⟨dt.toArray⟩, .slice A3 n3 c3]] wx fun e w' => e = .returned (sv dd) ∧ Fr No wx w') := HD
  clear HD
  obtain ⟨db, hdb⟩ : ∃ x : ByteArray, (⟨dt.toArray⟩ : ByteArray) = x := ⟨_, rfl⟩
  rw [hdb] at HDD x3
  clear hdb
  go_upto_region 13 with fail
  obtain ⟨wp, hwp⟩ : ∃ wp, wr.alloc (.cells #[.int .i64 kd, .int .i64 nn, .int .i64 sz, .string db, .slice A3 n3 c3] 36) = wp := ⟨_, rfl⟩
  obtain ⟨p, hp⟩ : ∃ p, wr.heap.size = p := ⟨_, rfl⟩
  have hblk : Blk wp p 36 #[.int .i64 kd, .int .i64 nn, .int .i64 sz, .string db, .slice A3 n3 c3] := by rw [← hwp, ← hp]; exact Blk.new wr 36 _
  have hfwp : Fr No wr wp := by rw [← hwp]; exact (Fr.refl No wr).alloc _
  have hpX : ¬ X1 p := fun hx => by have := HG.out.lg.base p hx; omega
  have hwb : wr.heap.size < wp.heap.size := by rw [← hwp]; simp
  obtain ⟨X2, hX2⟩ : ∃ X2 : Nat → Prop, (fun k => X1 k ∨ k = p) = X2 := ⟨_, rfl⟩
  have hX2' : ∀ k, X2 k ↔ (X1 k ∨ k = p) := fun k => by rw [← hX2]
  have hG2 : Kp w w1 wp X d g i all F fo S L X2 (.slice Aa all.length ca) := ⟨HG.out.lg.grow (F := No) hfwp (fun k hk => hk.elim) (fun k hk => (hX2' k).2 (.inl hk)) (fun k hk => by
      rcases (hX2' k).1 hk with hk | hk
      · exact ⟨Nat.lt_of_lt_of_le (HG.out.lg.base k hk) hfwp.size, .inl hk⟩
      · exact ⟨by omega, .inr (by omega)⟩), fun k hk => (hX2' k).2 (.inl (HG.out.sub k hk)), fun k hk => ⟨(hX2' k).2 (.inl (HG.out.own k hk).1), (HG.out.own k hk).2⟩, HG.out.row.keepS hfwp fun k _ hn => hn, HG.out.al, HG.out.cnt, HG.out.fr.thenX hfwp.any⟩
  have HG2 := Lib.hid hG2
  have HBL : Hid (∀ w', Fr (fun k => ¬ X2 k) wp w' → Blk w' p 36 #[.int .i64 kd, .int .i64 nn, .int .i64 sz, .string db, .slice A3 n3 c3]) := Lib.hid fun w' hf => hblk.of (hf.block p hblk.lt fun hk => hk ((hX2' p).2 (.inr rfl)))
  have HPK2 : Hid (∀ w', Fr (fun k => ¬ X2 k) wp w' → Fr (fun k => ¬ X k) w w') := Lib.hid fun w' hf => (F2.out.thenX HG2.out.fr).trans hf fun k _ hk hx => hk (HG2.out.sub k hx)
  have HLO2 : Hid (∀ k, k < 4 → X2 k) := Lib.hid fun k hk => HG2.out.sub k (HLO.out k hk)
  rw [hwp, hp]
  clear hwp hp hblk hfwp hpX hwb hX2 hX2' hG2 HG x0 x1 x2 x3 x4
  have z0 : wp.cell? ⟨p, 0, none⟩ = some (.int .i64 kd) := (HBL.out wp (Fr.refl _ _)).cell 0
  have z1 : wp.cell? ⟨p, 1, none⟩ = some (.int .i64 nn) := (HBL.out wp (Fr.refl _ _)).cell 1
  obtain ⟨kk, hkk, hkw, hkd⟩ : ∃ kk : Int, (kk = kd.tmod 9 ∧ 0 ≤ kd.tmod 9 ∨ kk = kd.tmod 9 + 9 ∧ kd.tmod 9 < 0) ∧ (0 ≤ kk ∧ kk ≤ 8) ∧ kk = kindOf ⟨kd, nn, sz, dt, .slice A3 n3 c3, pk⟩ := by
    have := tmod_small kd 9 (by omega)
    unfold kindOf
    by_cases h : kd.tmod 9 < 0
    · exact ⟨kd.tmod 9 + 9, .inr ⟨rfl, h⟩, by omega, by simp only [h, if_true]⟩
    · exact ⟨kd.tmod 9, .inl ⟨rfl, by omega⟩, by omega, by simp only [h, if_false]⟩
  rw [← hkd] at hk0
  have HKK := Lib.hid hkk
  clear hkk hk64 hkd
  go_upto_if 57 with fail
  go_cut [13] from 39 to 230 (fun v wx => v = .int .i64 kk ∧ wp = wx)
  case first =>
    rcases HKK.out with ⟨e1, e2⟩ | ⟨e1, e2⟩
    · have k0 : decide (kd.tmod 9 < 0) = false := by simpa using e2
      have k1 : ¬ kd.tmod 9 < 0 := by omega
      go_wp2_with fail
      go_meet
      exact ⟨by rw [e1], rfl⟩
    · have k0 : decide (kd.tmod 9 < 0) = true := by simpa using e2
      have k1 : IntKind.i64.wrap (kd.tmod 9 + 9) = kd.tmod 9 + 9 := IntWalk.i64_in _ (by have := tmod_small kd 9 (by omega); omega)
      go_wp2_with fail
      go_meet
      exact ⟨by rw [e1], rfl⟩
  case rest =>
  obtain ⟨rfl, rfl⟩ := hcut
  clear z0 HKK
  have hinv := HG2.out.lg.dk.inv
  have HINV := Lib.hid hinv
  have hbb := HG2.out.al.bounds
  have hcnt := HG2.out.cnt
  clear hinv
  subst hk0
  have HSY := syncL_any HG2.out.lg
  have HSC := Lib.hid (al_sync HG2.out.al HINV.out)
  unfold gpt at HSY
  obtain ⟨⟨S3, L3, se⟩, hR3⟩ : ∃ R, syncL S L = R := ⟨_, rfl⟩
  rw [hR3] at HSY HSC
  have HSYH := Lib.hid HSY
  clear HSY hR3 z1
  go_wp2_with fail
  refine HSYH.out.mono ?_
  rintro e w5 ⟨rfl, hl5, hf5⟩
  have HL5 := Lib.hid (show Lg w5 X2 d g (200 * i) S3 L3 from hl5)
  have HF5 := Lib.hid hf5
  clear hl5 hf5 HSYH
  rcases HSC.out with ⟨s1, s2⟩ | ⟨s1, s2⟩
  · obtain rfl : se = 0 := s1
    have HS2 := Lib.hid s2
    clear s2 HSC
    go_wp2_with fail
    refine HK.out _ _ ?_ ?_
    · unfold KI
      exact ⟨_, _, _, _, _, _, _, _, _, _, _, _, _, _, _, _, _, _, _, _, _, _, _, _, _, _, _, _, _, _, _, _, _, _, _, _, _, _, _, _, _, _, _, _, _, _, _, _, _, _, _, _, _, _, _, _, _, _, _, _, _, _, _, _, _, _, _, _, _, _, _, _, _, _, _, _, _, _, _, _, _, _, _, _, _, _, _, _, _, _, _, _, _, _, _, _, _, _, _, _, _, _, _, _, _, _, _, _, _, _, _, _, _, _, _, _, _, _, _, _, _, _, _, _, _, _, _, _, _, _, _, _, _, _, _, _, _, _, _, _, _, _, _, _, _, _, _, _, _, _, _, _, _, _, _, _, _, _, _, _, _, _, _, _, _, _, _, _, _, _, _, _, _, _, _, _, _, _, _, _, _, _, _, _, _, _, _, _, _, _, _, _, _, _, _, _, _, _, _, _, _, _, _, _, _, _, _, ⟨g, i + 1, all, all.length, fo, S3, L3, X2, Aa, ca, by omega, by omega, rfl, rfl, rfl, rfl, by go_num, ⟨HL5.out.more (by omega) (by omega), HG2.out.sub, HG2.out.own, HG2.out.row.keepS HF5.out fun k hk hn => hn (HG2.out.own k hk).1, HS2.out.mono (by omega), by omega, HG2.out.fr.trans HF5.out fun k _ hk hx => hk (HG2.out.sub k hx)⟩⟩, rfl⟩
    · show Value.int .i64 ((i : Int) + 1) = .int .i64 ((i + 1 : Nat) : Int)
      go_num
  · obtain rfl : se = 13 := s1
    have HS2 := Lib.hid s2
    clear s2 HSC
    go_wp2_with fail
    refine HK.out _ _ ?_ ?_
    · unfold KI
      exact ⟨_, _, _, _, _, _, _, _, _, _, _, _, _, _, _, _, _, _, _, _, _, _, _, _, _, _, _, _, _, _, _, _, _, _, _, _, _, _, _, _, _, _, _, _, _, _, _, _, _, _, _, _, _, _, _, _, _, _, _, _, _, _, _, _, _, _, _, _, _, _, _, _, _, _, _, _, _, _, _, _, _, _, _, _, _, _, _, _, _, _, _, _, _, _, _, _, _, _, _, _, _, _, _, _, _, _, _, _, _, _, _, _, _, _, _, _, _, _, _, _, _, _, _, _, _, _, _, _, _, _, _, _, _, _, _, _, _, _, _, _, _, _, _, _, _, _, _, _, _, _, _, _, _, _, _, _, _, _, _, _, _, _, _, _, _, _, _, _, _, _, _, _, _, _, _, _, _, _, _, _, _, _, _, _, _, _, _, _, _, _, _, _, _, _, _, _, _, _, _, _, _, _, _, _, _, _, _, ⟨g, i + 1, all, F, fo, S3, L3, X2, Aa, ca, by omega, by omega, rfl, rfl, rfl, rfl, by go_num, ⟨HL5.out.more (by omega) (by omega), HG2.out.sub, HG2.out.own, HG2.out.row.keepS HF5.out fun k hk hn => hn (HG2.out.own k hk).1, HS2.out.mono (by omega), by omega, HG2.out.fr.trans HF5.out fun k _ hk hx => hk (HG2.out.sub k hx)⟩⟩, rfl⟩
    · show Value.int .i64 ((i : Int) + 1) = .int .i64 ((i + 1 : Nat) : Int)
      go_num
end Go.Proofs.YtccjkolcmdhliaaGreatDoor
