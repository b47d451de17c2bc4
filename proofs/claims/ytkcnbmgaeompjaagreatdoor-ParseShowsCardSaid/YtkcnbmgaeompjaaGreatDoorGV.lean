/- awake. -/
import Derived.Test.YtkcnbmgaeompjaaGreatDoorGU
import Derived.Test.YtkcnbmgaeompjaaGreatDoorGS
namespace Go.Proofs.YtkcnbmgaeompjaaGreatDoor
open Go.RowKit Go.Maps
set_option linter.unusedVariables false

def awT : Tx := [115, 101, 108, 101, 99, 116, 32, 97, 44, 32, 99, 111, 117, 110, 116, 40, 42, 41, 32, 102, 114, 111, 109, 32, 102, 97, 99, 116, 115, 32, 119, 104, 101, 114, 101, 32, 97, 32, 61, 32, 39, 120, 39, 32, 103, 114, 111, 117, 112, 32, 98, 121, 32, 97]
def awN : Tx := [83, 69, 76, 69, 67, 84, 32, 70, 82, 79, 77, 32, 102, 97, 99, 116, 115]
def awS : Tx := [83, 69, 76, 69, 67, 84, 32, 97, 44, 32, 67, 79, 85, 78, 84, 40, 42, 41, 32, 70, 82, 79, 77, 32, 102, 97, 99, 116, 115, 32, 87, 72, 69, 82, 69, 32, 97, 32, 61, 32, 39, 120, 39, 32, 71, 82, 79, 85, 80, 32, 66, 89, 32, 97]
def awQ : Qy := ⟨[⟨1, [97]⟩, ⟨2, []⟩], [102, 97, 99, 116, 115], .node 4 .none .none [97] 1 [⟨true, [120], 0⟩], true, [⟨1, [[97]], []⟩]⟩
theorem aw1 : parseW awT = (awQ, 0, 0) := by decide +kernel
theorem aw2 : parseW awN = (Qy0, 41, 7) := by decide +kernel
theorem aw3 : showB awQ = (awS, 0) := by decide +kernel
theorem aw4 : rightQ awQ = true := by decide +kernel
theorem aw5 : sameQ awQ awQ = true := by decide +kernel
theorem aw6 : (showT awQ).length ≤ 100000000 := by decide +kernel
end Go.Proofs.YtkcnbmgaeompjaaGreatDoor
/- awake, walked. -/
namespace Go.Proofs.YtkcnbmgaeompjaaGreatDoor
open Go.RowKit Go.Maps
set_option linter.unusedVariables false

theorem eqd26 : ∀ x y xs ys (w : World), (eqGuard .eql 30 x y (.agg xs) (.agg ys)).run Tryz.prog w = .ok () w := guard26 .eql (.inl rfl)
/-- Parse, as a law sees it. -/
theorem l_parse (t : Tx) (w : World) (hp : Pv w) (ht : t.length ≤ maxLen) {q : Qy} {c p : Nat} (hv : parseW t = (q, c, p)) : Calls Tryz.prog 13 #[sv t] w fun e w' => ∃ A1 c1 px A2 c2, e = .returned (.tuple #[qyV q A1 c1 px A2 c2, .agg #[.int .i64 (c : Nat), .int .i64 (p : Nat)]]) ∧ QyAt (fun k => w.heap.size ≤ k) w' q (qyV q A1 c1 px A2 c2) ∧ Fr No w w' := by
  refine (parse_any ⟨t.toArray⟩ w hp (by rw [sz]; exact ht)).mono ?_
  rintro e w' ⟨v, he, hq, hf⟩
  have e1 : (⟨t.toArray⟩ : ByteArray).data.toList = t := by simp
  rw [e1, hv] at he hq
  obtain ⟨A1, c1, px, A2, c2, rfl, -, -⟩ := (qyTo_of (d := 0) hq).qv
  exact ⟨A1, c1, px, A2, c2, he, hq, hf⟩
set_option maxRecDepth 100000 in
set_option maxHeartbeats 8000000 in
theorem awake_any (w : World) (hp : Pv w) : Calls Tryz.prog 12 #[] w (TellsB true w) := by
  have hgd := eqd26
  have heq := eql26
  have HP1 := Lib.hid (l_parse awT w hp (by decide) aw1)
  have HP2 : Hid (∀ w', Fr No w w' → Calls Tryz.prog 13 #[sv awN] w' fun e w'' => ∃ A1 c1 px A2 c2, e = .returned (.tuple #[qyV Qy0 A1 c1 px A2 c2, .agg #[.int .i64 (41 : Nat), .int .i64 (7 : Nat)]]) ∧ QyAt (fun k => w'.heap.size ≤ k) w'' Qy0 (qyV Qy0 A1 c1 px A2 c2) ∧ Fr No w' w'') := Lib.hid fun w' f' => l_parse awN w' (hp.no f') (by decide) aw2
  have HPV : Hid (∀ w', Fr No w w' → Pv w') := Lib.hid fun w' f' => hp.no f'
  unfold awT at HP1
  unfold awN at HP2
  clear hp
  go_enter Tryz.func12, Tryz.ntmps12
  go_wp2_with fail
  refine HP1.out.mono ?_
  rintro e w1 ⟨A1, c1, px, A2, c2, rfl, hq, f1⟩
  obtain ⟨z, hz⟩ : ∃ z, w1.heap.size = z := ⟨_, rfl⟩
  obtain ⟨w2, hw2⟩ : ∃ w2, w1.alloc (.cells #[.slice A1 2 c1, sv [102, 97, 99, 116, 115], .pointer px, .bool true, .slice A2 1 c2] 27) = w2 := ⟨_, rfl⟩
  have f2 : Fr No w1 w2 := by rw [← hw2]; exact (Fr.refl No w1).alloc _
  have hb2 : Blk w2 z 27 #[.slice A1 2 c1, sv [102, 97, 99, 116, 115], .pointer px, .bool true, .slice A2 1 c2] := by rw [← hw2, ← hz]; exact Blk.new w1 27 _
  have hs2 : w2.heap.size = z + 1 := by rw [← hw2, ← hz]; simp
  obtain ⟨w3, hw3⟩ : ∃ w3, w2.alloc (.cells #[.int .i64 0, .int .i64 0] 30) = w3 := ⟨_, rfl⟩
  have f3 : Fr No w2 w3 := by rw [← hw3]; exact (Fr.refl No w2).alloc _
  have hb3 : Blk w3 (z + 1) 30 #[.int .i64 0, .int .i64 0] := by rw [← hw3, ← hs2]; exact Blk.new w2 30 _
  have f13 := (f1.trans f2 fun _ _ h => h).trans f3 fun _ _ h => h
  have hq3 : QyAt (fun k => w.heap.size ≤ k) w3 awQ (qyV awQ A1 c1 px A2 c2) := hq.mono fun k hk hkl => ⟨hk, ((f2.trans f3 fun _ _ h => h).block k hkl id)⟩
  have HAT : Hid (∀ w', Fr No w3 w' → Fr No w w' ∧ Blk w' z 27 #[.slice A1 2 c1, sv [102, 97, 99, 116, 115], .pointer px, .bool true, .slice A2 1 c2] ∧ Blk w' (z + 1) 30 #[.int .i64 0, .int .i64 0] ∧ QyAt (fun k => w.heap.size ≤ k) w' awQ (qyV awQ A1 c1 px A2 c2)) := Lib.hid fun w' f' =>
    ⟨f13.trans f' fun _ _ h => h, hb2.of ((f3.trans f' fun _ _ h => h).block z hb2.lt id), hb3.of (f'.block _ hb3.lt id), hq3.mono fun k hk hkl => ⟨hk, f'.block k hkl id⟩⟩
  have HZ := Lib.hid hz
  have HW2 := Lib.hid hw2
  have HW3 := Lib.hid hw3
  have H13 := Lib.hid f13
  have HP2' := Lib.hid (HP2.out w3 f13)
  have HSH : Hid (∀ w', Fr No w3 w' → Calls Tryz.prog 16 #[qyV awQ A1 c1 px A2 c2] w' (ShowP awQ w')) := Lib.hid fun w' f' => show_any awQ _ w' (HPV.out w' (f13.trans f' fun _ _ h => h)) (HAT.out w' f').2.2.2 (fun _ => aw6)
  have HRT : Hid (∀ w', Fr No w3 w' → Calls Tryz.prog 18 #[qyV awQ A1 c1 px A2 c2] w' (TellsB (rightQ awQ) w')) := Lib.hid fun w' f' => right_query (d := 32) (Nat.le_refl _) _ awQ _ w' (HPV.out w' (f13.trans f' fun _ _ h => h)).lr (qyTo_of (HAT.out w' f').2.2.2)
  have HSM : Hid (∀ w', Fr No w3 w' → Calls Tryz.prog 20 #[qyV awQ A1 c1 px A2 c2, qyV awQ A1 c1 px A2 c2] w' (TellsB (sameQ awQ awQ) w')) := Lib.hid fun w' f' => same_query (d := 4096) (Nat.le_refl _) awQ awQ w' (qyTo_of (HAT.out w' f').2.2.2) (qyTo_of (HAT.out w' f').2.2.2)
  unfold ShowP at HSH
  rw [aw3] at HSH
  rw [aw4] at HRT
  rw [aw5] at HSM
  have hV : qyV awQ A1 c1 px A2 c2 = .agg #[.slice A1 2 c1, sv [102, 97, 99, 116, 115], .pointer px, .bool true, .slice A2 1 c2] := rfl
  rw [hV] at HSH HRT HSM
  rw [hV]
  clear hz hw2 f2 hb2 hs2 hw3 f3 hb3 f13 hq3 hq f1 hV
  go_upto_region 2 with fail
  rw [HZ.out, HW2.out, HW3.out]
  go_wp2_with fail
  refine HP2'.out.mono ?_
  clear HP2' HP1 HP2
  rintro e w4 ⟨B1, d1, px2, B2, d2, rfl, -, f4⟩
  have hV2 : qyV Qy0 B1 d1 px2 B2 d2 = .agg #[.slice B1 0 d1, sv [], .pointer px2, .bool false, .slice B2 0 d2] := rfl
  rw [hV2]
  obtain ⟨y, hy⟩ : ∃ z, w4.heap.size = z := ⟨_, rfl⟩
  obtain ⟨w5, hw5⟩ : ∃ w2, w4.alloc (.cells #[.slice B1 0 d1, sv [], .pointer px2, .bool false, .slice B2 0 d2] 27) = w2 := ⟨_, rfl⟩
  have f5 : Fr No w4 w5 := by rw [← hw5]; exact (Fr.refl No w4).alloc _
  have hs5 : w5.heap.size = y + 1 := by rw [← hw5, ← hy]; simp
  obtain ⟨w6, hw6⟩ : ∃ w3, w5.alloc (.cells #[.int .i64 41, .int .i64 7] 30) = w3 := ⟨_, rfl⟩
  have f6 : Fr No w5 w6 := by rw [← hw6]; exact (Fr.refl No w5).alloc _
  have hb6 : Blk w6 (y + 1) 30 #[.int .i64 41, .int .i64 7] := by rw [← hw6, ← hs5]; exact Blk.new w5 30 _
  have HF6 := Lib.hid ((f4.trans f5 fun _ _ h => h).trans f6 fun _ _ h => h)
  have H6 := Lib.hid (HAT.out w6 HF6.out)
  have HB6 := Lib.hid hb6
  have HY := Lib.hid hy
  have HW5 := Lib.hid hw5
  have HW6 := Lib.hid hw6
  have HC6 := Lib.hid (HSH.out w6 HF6.out)
  have p0 : w6.cell? ⟨z, 0, none⟩ = some (.slice A1 2 c1) := H6.out.2.1.cell 0
  have p1 : w6.cell? ⟨z, 1, none⟩ = some (sv [102, 97, 99, 116, 115]) := H6.out.2.1.cell 1
  have p2 : w6.cell? ⟨z, 2, none⟩ = some (.pointer px) := H6.out.2.1.cell 2
  have p3 : w6.cell? ⟨z, 3, none⟩ = some (.bool true) := H6.out.2.1.cell 3
  have p4 : w6.cell? ⟨z, 4, none⟩ = some (.slice A2 1 c2) := H6.out.2.1.cell 4
  clear hV2 hy hw5 f5 hs5 hw6 f6 hb6 f4
  go_upto_region 3 with fail
  rw [HY.out, HW5.out, HW6.out]
  go_wp2_with fail
  refine HC6.out.mono ?_
  clear HC6
  rintro e w7 ⟨rfl, f7⟩
  have HF7 := Lib.hid (HF6.out.trans f7 fun _ _ h => h)
  have H7 := Lib.hid (HAT.out w7 HF7.out)
  have hb7 := HB6.out.of (f7.block _ HB6.out.lt id)
  have HR7 := Lib.hid (HRT.out w7 HF7.out)
  have q0 : w7.cell? ⟨z + 1, 0, none⟩ = some (.int .i64 0) := H7.out.2.2.1.cell 0
  have q1 : w7.cell? ⟨z + 1, 1, none⟩ = some (.int .i64 0) := H7.out.2.2.1.cell 1
  have q2 : w7.cell? ⟨y + 1, 0, none⟩ = some (.int .i64 41) := hb7.cell 0
  have q3 : w7.cell? ⟨y + 1, 1, none⟩ = some (.int .i64 7) := hb7.cell 1
  clear f7 hb7 p0 p1 p2 p3 p4
  have p0 : w7.cell? ⟨z, 0, none⟩ = some (.slice A1 2 c1) := H7.out.2.1.cell 0
  have p1 : w7.cell? ⟨z, 1, none⟩ = some (sv [102, 97, 99, 116, 115]) := H7.out.2.1.cell 1
  have p2 : w7.cell? ⟨z, 2, none⟩ = some (.pointer px) := H7.out.2.1.cell 2
  have p3 : w7.cell? ⟨z, 3, none⟩ = some (.bool true) := H7.out.2.1.cell 3
  have p4 : w7.cell? ⟨z, 4, none⟩ = some (.slice A2 1 c2) := H7.out.2.1.cell 4
  have hSS : (awS == [83, 69, 76, 69, 67, 84, 32, 97, 44, 32, 67, 79, 85, 78, 84, 40, 42, 41, 32, 70, 82, 79, 77, 32, 102, 97, 99, 116, 115, 32, 87, 72, 69, 82, 69, 32, 97, 32, 61, 32, 39, 120, 39, 32, 71, 82, 79, 85, 80, 32, 66, 89, 32, 97]) = true := by decide +kernel
  go_wp2_with fail
  refine HR7.out.mono ?_
  clear HR7
  rintro e w8 ⟨rfl, f8⟩
  have HF8 := Lib.hid (HF7.out.trans f8 fun _ _ h => h)
  have H8 := Lib.hid (HAT.out w8 HF8.out)
  have HS8 := Lib.hid (HSM.out w8 HF8.out)
  clear f8 p0 p1 p2 p3 p4 q0 q1 q2 q3
  have p0 : w8.cell? ⟨z, 0, none⟩ = some (.slice A1 2 c1) := H8.out.2.1.cell 0
  have p1 : w8.cell? ⟨z, 1, none⟩ = some (sv [102, 97, 99, 116, 115]) := H8.out.2.1.cell 1
  have p2 : w8.cell? ⟨z, 2, none⟩ = some (.pointer px) := H8.out.2.1.cell 2
  have p3 : w8.cell? ⟨z, 3, none⟩ = some (.bool true) := H8.out.2.1.cell 3
  have p4 : w8.cell? ⟨z, 4, none⟩ = some (.slice A2 1 c2) := H8.out.2.1.cell 4
  go_wp2_with fail
  refine HS8.out.mono ?_
  clear HS8
  rintro e w9 ⟨rfl, f9⟩
  have HF9 := Lib.hid (HF8.out.trans f9 fun _ _ h => h)
  have H9 := Lib.hid (HAT.out w9 HF9.out)
  clear f9 p0 p1 p2 p3 p4
  have p0 : w9.cell? ⟨z, 0, none⟩ = some (.slice A1 2 c1) := H9.out.2.1.cell 0
  have p1 : w9.cell? ⟨z, 1, none⟩ = some (sv [102, 97, 99, 116, 115]) := H9.out.2.1.cell 1
  have p2 : w9.cell? ⟨z, 2, none⟩ = some (.pointer px) := H9.out.2.1.cell 2
  have p3 : w9.cell? ⟨z, 3, none⟩ = some (.bool true) := H9.out.2.1.cell 3
  have p4 : w9.cell? ⟨z, 4, none⟩ = some (.slice A2 1 c2) := H9.out.2.1.cell 4
  go_wp2_with fail
  go_ret
  exact ⟨rfl, H9.out.1⟩
end Go.Proofs.YtkcnbmgaeompjaaGreatDoor
