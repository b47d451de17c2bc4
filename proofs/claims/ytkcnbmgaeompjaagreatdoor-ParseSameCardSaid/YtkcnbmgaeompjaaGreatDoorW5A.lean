/- The document's comparison of two equal nodes whose left ones are not the same. -/
import Derived.Test.YtkcnbmgaeompjaaGreatDoorW5C
import Derived.Deep.DeepCutAuto
namespace Go.Proofs.YtkcnbmgaeompjaaGreatDoor
open Go.RowKit Go.Maps
set_option linter.unusedVariables false

set_option maxRecDepth 100000 in
set_option maxHeartbeats 16000000 in
theorem dcond_left {K K2 : Nat → Prop} {b d n : Nat} {k k2 : Int} {l r l2 r2' : Cd} {col col2 : Tx} {op op2 : Int} {vals vals2 : List Vl} {v v2 : Value} {w : World} (hKb : ∀ k, K k → k ≠ b) (hKb2 : ∀ k, K2 k → k ≠ b) (hIH : DcIH K K2 b d) (hd : n + 1 ≤ d + 1) (hA : CdTo K w (d + 1) (.node k l r col op vals) v) (hB : CdTo K2 w (d + 1) (.node k2 l2 r2' col2 op2 vals2) v2) (hb : Blk w b 70 #[.int .i64 ((n + 1 : Nat) : Int)]) (hn : n + 1 ≤ 100000) (hnb : nodeB k col op vals k2 col2 op2 vals2 = true) (hsl : sameC l l2 n = none) :
    Calls Tryz.prog 33 #[v, v2, .pointer (some ⟨b, 0, none⟩)] w (DcP b (sameC (.node k l r col op vals) (.node k2 l2 r2' col2 op2 vals2) (n + 1)) w) := by
    have hkk : k = k2 ∧ col = col2 ∧ op = op2 ∧ vals = vals2 := by unfold nodeB at hnb; simpa [and_assoc] using hnb
    obtain ⟨rfl, rfl, rfl, rfl⟩ := hkk
    have HSL := Lib.hid hsl
    clear hnb hsl
    obtain ⟨g, o, L, R, V, rfl, hK, hg, hN, hl, hr, hv, hcl, _, _⟩ := hA
    obtain ⟨g2, o2, L2, R2, V2, rfl, hK2, hg2, hN2, hl2, hr2, hv2, hcl2, _, _⟩ := hB
    obtain ⟨pl, rfl⟩ : ∃ p, L = .pointer p := hl.p
    obtain ⟨pr, rfl⟩ : ∃ p, R = .pointer p := hr.p
    obtain ⟨ql, rfl⟩ : ∃ p, L2 = .pointer p := hl2.p
    obtain ⟨qr, rfl⟩ : ∃ p, R2 = .pointer p := hr2.p
    have hgb := hKb g hK
    have hgb2 := hKb2 g2 hK2
    have HAT : Hid (∀ w', Fr (fun k => k = b) w w' → NodeC w' g o k (.pointer pl) (.pointer pr) col op V ∧ NodeC w' g2 o2 k (.pointer ql) (.pointer qr) col op V2 ∧ CdTo K w' d l (.pointer pl) ∧ CdTo K w' d r (.pointer pr) ∧ CdTo K2 w' d l2 (.pointer ql) ∧ CdTo K2 w' d r2' (.pointer qr) ∧ RowE K w' 3 (vlG K w') V vals ∧ RowE K2 w' 3 (vlG K2 w') V2 vals) := Lib.hid fun w' f' =>
      have hk : ∀ k, K k → k < w.heap.size → K k ∧ w'.heap[k]? = w.heap[k]? := fun k h1 h2 => ⟨h1, f'.block k h2 (hKb k h1)⟩
      have hk2 : ∀ k, K2 k → k < w.heap.size → K2 k ∧ w'.heap[k]? = w.heap[k]? := fun k h1 h2 => ⟨h1, f'.block k h2 (hKb2 k h1)⟩
      ⟨hN.of (f'.block g hg hgb), hN2.of (f'.block g2 hg2 hgb2), hl.mono hk, hr.mono hk, hl2.mono hk2, hr2.mono hk2, hv.mono hk fun _ _ h => h, hv2.mono hk2 fun _ _ h => h⟩
    have HIL : Hid (∀ w', Fr (fun k => k = b) w w' → Blk w' b 70 #[.int .i64 (n : Nat)] → Calls Tryz.prog 33 #[.pointer pl, .pointer ql, .pointer (some ⟨b, 0, none⟩)] w' (DcP b (sameC l l2 n) w')) := Lib.hid fun w' f' hb' => hIH l l2 _ _ w' n (by omega) (HAT.out w' f').2.2.1 (HAT.out w' f').2.2.2.2.1 hb' (by omega)
    have HIR : Hid (∀ w' m, m ≤ n → Fr (fun k => k = b) w w' → Blk w' b 70 #[.int .i64 (m : Nat)] → Calls Tryz.prog 33 #[.pointer pr, .pointer qr, .pointer (some ⟨b, 0, none⟩)] w' (DcP b (sameC r r2' m) w')) := Lib.hid fun w' m hm f' hb' => hIH r r2' _ _ w' m (by omega) (HAT.out w' f').2.2.2.1 (HAT.out w' f').2.2.2.2.2.1 hb' (by omega)
    have HEND : Hid (∀ (x : Option Nat) e w', sameC (.node k l r col op vals) (.node k l2 r2' col op vals) (n + 1) = x → e = .returned (.bool x.isSome) → Fr (fun k => k = b) w w' → (∀ m : Nat, x = some m → Blk w' b 70 #[.int .i64 (m : Nat)]) → DcP b (sameC (.node k l r col op vals) (.node k l2 r2' col op vals) (n + 1)) w e w') := Lib.hid fun x e w' h1 h2 h3 h4 => by rw [h1]; exact ⟨h2, h3, h4⟩
    have HU : Hid (sameC (.node k l r col op vals) (.node k l2 r2' col op vals) (n + 1) = if nodeB k col op vals k col op vals then (sameC l l2 n).bind fun m => sameC r r2' m else none) := Lib.hid (by conv => lhs; unfold sameC)
    have HLE : Hid (∀ m, sameC l l2 n = some m → m ≤ n) := Lib.hid fun m h => same_le l l2 n m h
    have hwrap : IntKind.i64.wrap (((n + 1 : Nat) : Int) - 1) = (n : Int) := by rw [IntWalk.i64_in _ (by omega)]; omega
    have c0 : w.cell? ⟨b, 0, none⟩ = some (.int .i64 ((n + 1 : Nat) : Int)) := hb.cell 0
    have x0 : w.frozen? ⟨b, 0, none⟩ = false := hb.frozen 0
    have hn0 : (((n + 1 : Nat) : Int) == 0) = false := by simp; omega
    obtain ⟨ws, hws⟩ : ∃ ws, w.setCell ⟨b, 0, none⟩ (.int .i64 (n : Int)) = ws := ⟨_, rfl⟩
    have fs : Fr (fun k => k = b) w ws := by rw [← hws]; exact fr_set (Fr.refl _ w)
    have bs : Blk ws b 70 #[.int .i64 (n : Int)] := by rw [← hws]; exact hb.set_ 0 _
    obtain ⟨hNs, hNs2, -, -, -, -, hvs, hvs2⟩ := HAT.out ws fs
    obtain ⟨A, c, rfl, hlc, hcm, hrow⟩ := hvs
    obtain ⟨A2, c2, rfl, hlc2, hcm2, hrow2⟩ := hvs2
    obtain ⟨s0, s1, s2, s3, s4, s5⟩ := hNs
    obtain ⟨t0, t1, t2, t3, t4, t5⟩ := hNs2
    have HROW := Lib.hid hrow
    have HROW2 := Lib.hid hrow2
    have HFS := Lib.hid fs
    have HBS := Lib.hid bs
    have HWS := Lib.hid hws
    unfold maxLen at hcm hcm2
    clear hrow hrow2 fs bs hws hN hN2 hl hr hl2 hr2 hv hv2 hb hK hK2 hgb hgb2 hcl hcl2
    obtain ⟨n1, hn1⟩ : ∃ n, vals.length = n := ⟨_, rfl⟩
    rw [hn1] at hlc s5 hlc2 t5
    have HN := Lib.hid hn1
    have HN2 := HN
    clear hn1
    go_enter Tryz.func33, Tryz.ntmps33
    go_upto_region 6 with fail
    rw [HWS.out]
    clear c0 x0 hn0
    have HV : Hid (nodeB k col op vals k col op vals = decide (vals = vals)) := Lib.hid (by unfold nodeB; simp)
    go_quiet (fail)
    go_wp2_with fail
    go_loopg [7] n1 (fun kk r7 wr => Hid (∃ j : Nat, r7 = .int .i64 (j : Nat) ∧ j + kk = n1 ∧ (∃ q, wr = ws.drewN q) ∧ vals.take j = vals.take j))
    case atStart => exact Lib.hid ⟨0, rfl, by omega, ⟨_, rfl⟩, rfl⟩
    case round =>
      obtain ⟨j, rfl, hjn, ⟨qq, rfl⟩, hall⟩ := hrel.out
      have HALL := Lib.hid hall
      clear hrel hall
      by_cases hj : j < n1
      · have hji : (j : Int) < (n1 : Int) := by omega
        have hjl : j < vals.length := by rw [HN.out]; exact hj
        have hjm : j < vals.length := by rw [HN2.out]; exact hj
        obtain ⟨ga, off, rfl, hKa, hga, hel⟩ := HROW.out (by omega)
        obtain ⟨gb, off2, rfl, hKc, hgc, hel2⟩ := HROW2.out (by omega)
        obtain ⟨cs, hcl, hcs, hE⟩ := hel j hjl
        obtain ⟨cs2, hcl2, hcs2, hE2⟩ := hel2 j hjm
        obtain ⟨x, hx⟩ : ∃ x, vals[j] = x := ⟨_, rfl⟩
        obtain ⟨y, hy⟩ : ∃ y, vals[j] = y := ⟨_, rfl⟩
        have HX := Lib.hid hx
        have HY := Lib.hid hy
        rw [hx] at hE
        rw [hy] at hE2
        have hE := hE.1
        have hE2 := hE2.1
        have p0 : ws.cell? ⟨ga, off + j * 3, none⟩ = some (.bool x.isText) := by have := hcs 0 (by decide); rw [hE] at this; simpa using this
        have p1 : ws.cell? ⟨ga, off + j * 3 + 1, none⟩ = some (sv x.text) := by have := hcs 1 (by decide); rw [hE] at this; simpa using this
        have p2 : ws.cell? ⟨ga, off + j * 3 + 2, none⟩ = some (.int .i64 x.int) := by have := hcs 2 (by decide); rw [hE] at this; simpa using this
        have q0 : ws.cell? ⟨gb, off2 + j * 3, none⟩ = some (.bool y.isText) := by have := hcs2 0 (by decide); rw [hE2] at this; simpa using this
        have q1 : ws.cell? ⟨gb, off2 + j * 3 + 1, none⟩ = some (sv y.text) := by have := hcs2 1 (by decide); rw [hE2] at this; simpa using this
        have q2 : ws.cell? ⟨gb, off2 + j * 3 + 2, none⟩ = some (.int .i64 y.int) := by have := hcs2 2 (by decide); rw [hE2] at this; simpa using this
        have hgd := guard_vl
        clear hcs hcl hel hKa hE hcs2 hcl2 hel2 hKc hE2 hx hy
        by_cases hxy : x = y
        · have hne : ∀ w, (binOp .neq 47 (.agg #[.bool x.isText, sv x.text, .int .i64 x.int]) (.agg #[.bool y.isText, sv y.text, .int .i64 y.int])).run Tryz.prog w = .ok (.bool false) w := fun w => by rw [neq_vl x y, decide_eq_false (by simpa using hxy)]
          have HT : Hid (vals.take (j + 1) = vals.take (j + 1)) := Lib.hid (take_eq hjl hjm HALL.out rfl)
          clear hxy
          go_upto_region 11 with fail
          go_quiet (fail)
          all_goals
            go_wp2_with fail
            obtain ⟨g1, rfl⟩ : ∃ g1, gk = g1 + 1 := ⟨gk - 1, by omega⟩
            go_roundg g1
            case rel => exact Lib.hid ⟨j + 1, by go_num, by omega, ⟨_, by first | rfl | rw [World.drewN_drewN]⟩, HT.out⟩
            all_goals omega
        · exact absurd (HX.out.symm.trans HY.out) hxy
      · have hji : (n1 : Int) ≤ (j : Int) := by omega
        have HT : Hid (decide (vals = vals) = true) := Lib.hid (decide_eq_true rfl)
        have HR : Hid (sameC (.node k l r col op vals) (.node k l2 r2' col op vals) (n + 1) = (sameC l l2 n).bind fun m => sameC r r2' m) := Lib.hid (by rw [HU.out, HV.out]; simp)
        obtain ⟨wr, hwr⟩ : ∃ wr, ws.drewN qq = wr := ⟨_, rfl⟩
        have HFR : Hid (Fr (fun k => k = b) w wr) := Lib.hid (by rw [← hwr]; exact HFS.out.drewN _)
        have HBR : Hid (Blk wr b 70 #[.int .i64 (n : Int)]) := Lib.hid (by rw [← hwr]; exact HBS.out)
        have HC1 := Lib.hid (HIL.out wr.drew HFR.out.drew (HBR.out.of rfl))
        have r0 : wr.cell? ⟨g, o + 5, none⟩ = some (.slice A n1 c) := by rw [← hwr]; exact s5
        have r1 : wr.cell? ⟨g, o + 1, none⟩ = some (.pointer pl) := by rw [← hwr]; exact s1
        have u1 : wr.cell? ⟨g2, o2 + 1, none⟩ = some (.pointer ql) := by rw [← hwr]; exact t1
        rw [hwr]
        clear s0 s1 s2 s3 s4 s5 t0 t1 t2 t3 t4 t5 hwr
        go_upto_region 13 with fail
        go_cut [8] (fun rv wx => rv = .bool (sameC l l2 n).isSome ∧ Fr (fun k => k = b) w wx)
        case first =>
          go_region_with (go_at_call 33; (with_reducible refine HC1.out.mono ?_); rintro e w4 ⟨rfl, f4, b4⟩; have HF4 := Lib.hid (HFR.out.trans ((Fr.refl (fun k => k = b) wr).drew.trans f4 fun _ _ h => h) fun _ _ h => h); clear f4 b4)
          all_goals
            go_wp2_with fail
            go_meet
            exact ⟨rfl, HF4.out⟩
        case rest =>
          obtain ⟨rfl, hf4⟩ := hcut
          have HF4 := Lib.hid hf4
          have HR2 : Hid (sameC (.node k l r col op vals) (.node k l2 r2' col op vals) (n + 1) = none) := Lib.hid (by rw [HR.out, HSL.out]; rfl)
          rw [HSL.out]
          simp only [Option.isSome_none]
          clear hf4 r0 r1 u1 HROW HROW2 HN HN2 HT HALL HV HBR HBS HWS HFS HFR HU HLE HIL HC1 HAT HIR HR HSL
          go_upto_region 14 with fail
          go_quiet (fail)
          all_goals
            go_wp2_with fail
            go_ret
            exact HEND.out none _ _ HR2.out rfl (HF4.out.drewN _) (fun m h => by cases h)
end Go.Proofs.YtkcnbmgaeompjaaGreatDoor
