/- A round of WalKeeps. -/
import Derived.Test.YtccjkolcmdhliaaGreatDoorW25
import Derived.Test.YtccjkolcmdhliaaGreatDoorW26
import Derived.Test.YtccjkolcmdhliaaGreatDoorW27
import Derived.Test.YtccjkolcmdhliaaGreatDoorW28
import Derived.Test.YtccjkolcmdhliaaGreatDoorW29
namespace Go.Proofs.YtccjkolcmdhliaaGreatDoor
open Go.RowKit Go.Maps Go.Sort
set_option linter.unusedVariables false

set_option maxRecDepth 1000000 in
set_option maxHeartbeats 16000000 in
theorem keeps_round {w w1 wr : World} {X X1 : Nat → Prop} {d g i n c0 F fo ca : Nat} {A0 : Option Addr} {os : List OpK} {all : List (List UInt8)} {S : AS} {L : LS} {Aa : Option Addr} (HV : Hid (Vr w)) (HX : Hid (∀ k, X k ↔ k < w.heap.size)) (HLO : Hid (∀ k, k < 4 → X k)) (HN : Hid (os.length = n)) (hmax : n ≤ maxLen)
    (HC : Hid (0 < os.length → ∃ g off, A0 = some ⟨g, off, none⟩ ∧ g < w.heap.size ∧ ∀ (j : Nat) (h : j < os.length), ∃ cs : List Value, cs.length = 5 ∧ (∀ i, i < 5 → w.cell? ⟨g, off + j * 5 + i, none⟩ = cs[i]?) ∧ opE w os[j] cs)) (HLEN : Hid (∀ o ∈ os, o.data.length ≤ 1048576)) (F2 : Hid (Fr (fun k => ¬ X k) w w1))
    (HG : Hid (Kp w w1 wr X d g i all F fo S L X1 (.slice Aa all.length ca))) (hlt : i < n) (hlt80 : i < 80)
    {c1 c6 c7 c21 c22 c23 c24 c25 c26 c27 c28 c29 c30 c31 c32 c33 c34 c35 c36 c37 c38 c231 : Value} {u2 u12 u13 u14 u15 u16 u17 u18 u19 u20 u39 u40 u41 u42 u43 u44 u45 u46 u47 u48 u49 u50 u51 u52 u53 u54 u55 u56 u57 u58 u59 u60 u61 u62 u63 u64 u65 u66 u67 u68 u69 u70 u71 u72 u73 u74 u75 u76 u77 u78 u79 u80 u81 u82 u83 u84 u85 u86 u87 u88 u89 u90 u91 u92 u93 u94 u95 u96 u97 u98 u99 u100 u101 u102 u103 u104 u105 u106 u107 u108 u109 u110 u111 u112 u113 u114 u115 u116 u117 u118 u119 u120 u121 u122 u123 u124 u125 u126 u127 u128 u129 u130 u131 u132 u133 u134 u135 u136 u137 u138 u139 u140 u141 u142 u143 u144 u145 u146 u147 u148 u149 u150 u151 u152 u153 u154 u155 u156 u157 u158 u159 u160 u161 u162 u163 u164 u165 u166 u167 u168 u169 u170 u171 u172 u173 u174 u175 u176 u177 u178 u179 u180 u181 u182 u183 u184 u185 u186 u187 u188 u189 u190 u191 u192 u193 u194 u195 u196 u197 u198 u199 u200 u201 u202 u203 u204 u205 u206 u207 u208 u209 u210 u211 u212 u213 u214 u215 u216 u217 u218 u219 u220 u221 u222 u223 u224 u225 u226 u227 u228 u229 u230 : Value} {K : Act → World → Prop} {Q : Exit → Act → World → Prop} (HK : Hid (∀ a w', KI w w1 X d n (.slice A0 n c0) c1 c6 c7 c21 c22 c23 c24 c25 c26 c27 c28 c29 c30 c31 c32 c33 c34 c35 c36 c37 c38 c231 a w' → a.tmps.getD 11 undef = .int .i64 ((i + 1 : Nat) : Int) → K a w')) :
    Code.wp Tryz.prog keepsBody (Exit.then K Q) ⟨#[.slice A0 n c0, c1, u2, .bool true, .pointer (some ⟨d, 0, none⟩), .pointer (some ⟨g, 0, none⟩), c6, c7, .slice Aa all.length ca, .int .i64 (F : Nat), .int .i64 (fo : Nat), .int .i64 (i : Nat), u12, u13, u14, u15, u16, u17, u18, u19, u20, c21, c22, c23, c24, c25, c26, c27, c28, c29, c30, c31, c32, c33, c34, c35, c36, c37, c38, u39, u40, u41, u42, u43, u44, u45, u46, u47, u48, u49, u50, u51, u52, u53, u54, u55, u56, u57, u58, u59, u60, u61, u62, u63, u64, u65, u66, u67, u68, u69, u70, u71, u72, u73, u74, u75, u76, u77, u78, u79, u80, u81, u82, u83, u84, u85, u86, u87, u88, u89, u90, u91, u92, u93, u94, u95, u96, u97, u98, u99, u100, u101, u102, u103, u104, u105, u106, u107, u108, u109, u110, u111, u112, u113, u114, u115, u116, u117, u118, u119, u120, u121, u122, u123, u124, u125, u126, u127, u128, u129, u130, u131, u132, u133, u134, u135, u136, u137, u138, u139, u140, u141, u142, u143, u144, u145, u146, u147, u148, u149, u150, u151, u152, u153, u154, u155, u156, u157, u158, u159, u160, u161, u162, u163, u164, u165, u166, u167, u168, u169, u170, u171, u172, u173, u174, u175, u176, u177, u178, u179, u180, u181, u182, u183, u184, u185, u186, u187, u188, u189, u190, u191, u192, u193, u194, u195, u196, u197, u198, u199, u200, u201, u202, u203, u204, u205, u206, u207, u208, u209, u210, u211, u212, u213, u214, u215, u216, u217, u218, u219, u220, u221, u222, u223, u224, u225, u226, u227, u228, u229, u230, c231], []⟩ wr := by
  have hil : i < os.length := by rw [HN.out]; exact hlt
  obtain ⟨o, ho⟩ : ∃ o, os[i]? = some o := ⟨_, List.getElem?_eq_getElem hil⟩
  have hk : ∀ P : Int → Prop, P (kindOf o) → Hid (∀ o', os[i]? = some o' → P (kindOf o')) := fun P h => Lib.hid fun o' h' => by
    rw [ho] at h'
    obtain rfl := Option.some.inj h'
    exact h
  have hb : 0 ≤ kindOf o ∧ kindOf o ≤ 8 := by
    have := tmod_small o.kind 9 (by omega)
    unfold kindOf
    split <;> omega
  by_cases h3 : kindOf o = 3
  · exact keeps_sync HV HX HLO HN hmax HC HLEN F2 HG hlt hlt80 (hk (fun k => k = 3) h3) HK
  by_cases h4 : kindOf o = 4
  · exact keeps_trim HV HX HLO HN hmax HC HLEN F2 HG hlt hlt80 (hk (fun k => k = 4) h4) HK
  by_cases h5 : kindOf o = 5 ∨ kindOf o = 6
  · exact keeps_arm HV HX HLO HN hmax HC HLEN F2 HG hlt hlt80 (hk (fun k => k = 5 ∨ k = 6) h5) HK
  by_cases h7 : kindOf o = 7 ∨ kindOf o = 8
  · exact keeps_crash HV HX HLO HN hmax HC HLEN F2 HG hlt hlt80 (hk (fun k => k = 7 ∨ k = 8) h7) HK
  · exact keeps_append HV HX HLO HN hmax HC HLEN F2 HG hlt hlt80 (hk (fun k => k ≤ 2) (by omega)) HK

end Go.Proofs.YtccjkolcmdhliaaGreatDoor
