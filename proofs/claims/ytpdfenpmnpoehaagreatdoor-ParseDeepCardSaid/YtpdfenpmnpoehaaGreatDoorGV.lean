/- awake. -/
import Derived.Test.YtpdfenpmnpoehaaGreatDoorGU
import Derived.Test.YtpdfenpmnpoehaaGreatDoorGS
import Derived.Test.YtpdfenpmnpoehaaGreatDoorP6
import Derived.Lib.ItoaLen
namespace Go.Proofs.YtpdfenpmnpoehaaGreatDoor
open Go.RowKit Go.Maps
set_option linter.unusedVariables false

def awT : Tx := [115, 101, 108, 101, 99, 116, 32, 97, 44, 32, 99, 111, 117, 110, 116, 40, 42, 41, 32, 102, 114, 111, 109, 32, 102, 97, 99, 116, 115, 32, 119, 104, 101, 114, 101, 32, 97, 32, 61, 32, 39, 120, 39, 32, 103, 114, 111, 117, 112, 32, 98, 121, 32, 97]
def awN : Tx := [83, 69, 76, 69, 67, 84, 32, 70, 82, 79, 77, 32, 102, 97, 99, 116, 115]
def awS : Tx := [83, 69, 76, 69, 67, 84, 32, 97, 44, 32, 67, 79, 85, 78, 84, 40, 42, 41, 32, 70, 82, 79, 77, 32, 102, 97, 99, 116, 115, 32, 87, 72, 69, 82, 69, 32, 97, 32, 61, 32, 39, 120, 39, 32, 71, 82, 79, 85, 80, 32, 66, 89, 32, 97]
def awQ : Qy := ⟨[⟨1, [97]⟩, ⟨2, []⟩], [102, 97, 99, 116, 115], .node 4 .none .none [97] 1 [⟨true, [120], 0⟩], true, [⟨1, [[97]], []⟩]⟩
theorem aw1 : parseW awT = (awQ, 0, 0) := by decide +kernel
theorem aw2 : parseW awN = (Qy0, 41, 7) := by decide +kernel
theorem aw3 : showB awQ = (awS, 0) := by decide +kernel
theorem aw4 : rightQ awQ = true := by decide +kernel
theorem aw5 : sameQ awQ awQ = true := by decide +kernel
theorem aw6 : (showT awQ).length ≤ 100000000 := by decide +kernel
end Go.Proofs.YtpdfenpmnpoehaaGreatDoor
/- awake, walked. -/
namespace Go.Proofs.YtpdfenpmnpoehaaGreatDoor
open Go.RowKit Go.Maps
set_option linter.unusedVariables false

theorem eqd26 : ∀ x y xs ys (w : World), (eqGuard .eql 30 x y (.agg xs) (.agg ys)).run Tryz.prog w = .ok () w := guard26 .eql (.inl rfl)
/-- Parse, as a law sees it. -/
theorem l_parse (t : Tx) (w : World) (hp : Pv w) (ht : t.length ≤ maxLen) {q : Qy} {c p : Nat} (hv : parseW t = (q, c, p)) : Calls Tryz.prog 13 #[sv t] w fun e w' => ∃ A1 c1 px A2 c2, e = .returned (.tuple #[qyV q A1 c1 px A2 c2, .agg #[.int .i64 (c : Nat), .int .i64 (p : Nat)]]) ∧ QyAt (fun k => w.heap.size ≤ k) w' q (qyV q A1 c1 px A2 c2) ∧ Fr No w w' := by
  refine (parse_any ⟨t.toArray⟩ w hp (by rw [sz]; exact ht)).mono ?_
  rintro e w' ⟨v, he, hq, hf⟩
  have e1 : (⟨t.toArray⟩ : ByteArray).data.toList = t := by simp
  rw [e1, hv] at he hq
  obtain ⟨A1, c1, px, A2, c2, rfl, -, -⟩ := (qyTo_of (d := 0) hq).qv
  exact ⟨A1, c1, px, A2, c2, he, hq, hf⟩
set_option maxRecDepth 100000 in
set_option maxHeartbeats 8000000 in
theorem awake_any (w : World) (hp : Pv w) : Calls Tryz.prog 12 #[] w (TellsB true w) := by
  have hgd := eqd26
  have heq := eql26
  have HP1 := Lib.hid (l_parse awT w hp (by decide) aw1)
  have HP2 : Hid (∀ w', Fr No w w' → Calls Tryz.prog 13 #[sv awN] w' fun e w'' => ∃ A1 c1 px A2 c2, e = .returned (.tuple #[qyV Qy0 A1 c1 px A2 c2, .agg #[.int .i64 (41 : Nat), .int .i64 (7 : Nat)]]) ∧ QyAt (fun k => w'.heap.size ≤ k) w'' Qy0 (qyV Qy0 A1 c1 px A2 c2) ∧ Fr No w' w'') := Lib.hid fun w' f' => l_parse awN w' (hp.no f') (by decide) aw2
  have HPV : Hid (∀ w', Fr No w w' → Pv w') := Lib.hid fun w' f' => hp.no f'
  unfold awT at HP1
  unfold awN at HP2
  clear hp
  go_enter Tryz.func12, Tryz.ntmps12
  go_wp2_with fail
  refine HP1.out.mono ?_
  rintro e w1 ⟨A1, c1, px, A2, c2, rfl, hq, f1⟩
  obtain ⟨z, hz⟩ : ∃ z, w1.heap.size = z := ⟨_, rfl⟩
  obtain ⟨w2, hw2⟩ : ∃ w2, w1.alloc (.cells #[.slice A1 2 c1, sv [102, 97, 99, 116, 115], .pointer px, .bool true, .slice A2 1 c2] 27) = w2 := ⟨_, rfl⟩
  have f2 : Fr No w1 w2 := by rw [← hw2]; exact (Fr.refl No w1).alloc _
  have hb2 : Blk w2 z 27 #[.slice A1 2 c1, sv [102, 97, 99, 116, 115], .pointer px, .bool true, .slice A2 1 c2] := by rw [← hw2, ← hz]; exact Blk.new w1 27 _
  have hs2 : w2.heap.size = z + 1 := by rw [← hw2, ← hz]; simp
  obtain ⟨w3, hw3⟩ : ∃ w3, w2.alloc (.cells #[.int .i64 0, .int .i64 0] 30) = w3 := ⟨_, rfl⟩
  have f3 : Fr No w2 w3 := by rw [← hw3]; exact (Fr.refl No w2).alloc _
  have hb3 : Blk w3 (z + 1) 30 #[.int .i64 0, .int .i64 0] := by rw [← hw3, ← hs2]; exact Blk.new w2 30 _
  have f13 := (f1.trans f2 fun _ _ h => h).trans f3 fun _ _ h => h
  have hq3 : QyAt (fun k => w.heap.size ≤ k) w3 awQ (qyV awQ A1 c1 px A2 c2) := hq.mono fun k hk hkl => ⟨hk, ((f2.trans f3 fun _ _ h => h).block k hkl id)⟩
  have HAT : Hid (∀ w', Fr No w3 w' → Fr No w w' ∧ Blk w' z 27 #[.slice A1 2 c1, sv [102, 97, 99, 116, 115], .pointer px, .bool true, .slice A2 1 c2] ∧ Blk w' (z + 1) 30 #[.int .i64 0, .int .i64 0] ∧ QyAt (fun k => w.heap.size ≤ k) w' awQ (qyV awQ A1 c1 px A2 c2)) := Lib.hid fun w' f' =>
    ⟨f13.trans f' fun _ _ h => h, hb2.of ((f3.trans f' fun _ _ h => h).block z hb2.lt id), hb3.of (f'.block _ hb3.lt id), hq3.mono fun k hk hkl => ⟨hk, f'.block k hkl id⟩⟩
  have HZ := Lib.hid hz
  have HW2 := Lib.hid hw2
  have HW3 := Lib.hid hw3
  have H13 := Lib.hid f13
  have HP2' := Lib.hid (HP2.out w3 f13)
  have HSH : Hid (∀ w', Fr No w3 w' → Calls Tryz.prog 16 #[qyV awQ A1 c1 px A2 c2] w' (ShowP awQ w')) := Lib.hid fun w' f' => show_any awQ _ w' (HPV.out w' (f13.trans f' fun _ _ h => h)) (HAT.out w' f').2.2.2 (fun _ => aw6)
  have HRT : Hid (∀ w', Fr No w3 w' → Calls Tryz.prog 18 #[qyV awQ A1 c1 px A2 c2] w' (TellsB (rightQ awQ) w')) := Lib.hid fun w' f' => right_query (d := 32) (Nat.le_refl _) _ awQ _ w' (HPV.out w' (f13.trans f' fun _ _ h => h)).lr (qyTo_of (HAT.out w' f').2.2.2)
  have HSM : Hid (∀ w', Fr No w3 w' → Calls Tryz.prog 20 #[qyV awQ A1 c1 px A2 c2, qyV awQ A1 c1 px A2 c2] w' (TellsB (sameQ awQ awQ) w')) := Lib.hid fun w' f' => same_query (d := 4096) (Nat.le_refl _) awQ awQ w' (qyTo_of (HAT.out w' f').2.2.2) (qyTo_of (HAT.out w' f').2.2.2)
  unfold ShowP at HSH
  rw [aw3] at HSH
  rw [aw4] at HRT
  rw [aw5] at HSM
  have hV : qyV awQ A1 c1 px A2 c2 = .agg #[.slice A1 2 c1, sv [102, 97, 99, 116, 115], .pointer px, .bool true, .slice A2 1 c2] := rfl
  rw [hV] at HSH HRT HSM
  rw [hV]
  clear hz hw2 f2 hb2 hs2 hw3 f3 hb3 f13 hq3 hq f1 hV
  go_upto_region 2 with fail
  rw [HZ.out, HW2.out, HW3.out]
  go_wp2_with fail
  refine HP2'.out.mono ?_
  clear HP2' HP1 HP2
  rintro e w4 ⟨B1, d1, px2, B2, d2, rfl, -, f4⟩
  have hV2 : qyV Qy0 B1 d1 px2 B2 d2 = .agg #[.slice B1 0 d1, sv [], .pointer px2, .bool false, .slice B2 0 d2] := rfl
  rw [hV2]
  obtain ⟨y, hy⟩ : ∃ z, w4.heap.size = z := ⟨_, rfl⟩
  obtain ⟨w5, hw5⟩ : ∃ w2, w4.alloc (.cells #[.slice B1 0 d1, sv [], .pointer px2, .bool false, .slice B2 0 d2] 27) = w2 := ⟨_, rfl⟩
  have f5 : Fr No w4 w5 := by rw [← hw5]; exact (Fr.refl No w4).alloc _
  have hs5 : w5.heap.size = y + 1 := by rw [← hw5, ← hy]; simp
  obtain ⟨w6, hw6⟩ : ∃ w3, w5.alloc (.cells #[.int .i64 41, .int .i64 7] 30) = w3 := ⟨_, rfl⟩
  have f6 : Fr No w5 w6 := by rw [← hw6]; exact (Fr.refl No w5).alloc _
  have hb6 : Blk w6 (y + 1) 30 #[.int .i64 41, .int .i64 7] := by rw [← hw6, ← hs5]; exact Blk.new w5 30 _
  have HF6 := Lib.hid ((f4.trans f5 fun _ _ h => h).trans f6 fun _ _ h => h)
  have H6 := Lib.hid (HAT.out w6 HF6.out)
  have HB6 := Lib.hid hb6
  have HY := Lib.hid hy
  have HW5 := Lib.hid hw5
  have HW6 := Lib.hid hw6
  have HC6 := Lib.hid (HSH.out w6 HF6.out)
  have p0 : w6.cell? ⟨z, 0, none⟩ = some (.slice A1 2 c1) := H6.out.2.1.cell 0
  have p1 : w6.cell? ⟨z, 1, none⟩ = some (sv [102, 97, 99, 116, 115]) := H6.out.2.1.cell 1
  have p2 : w6.cell? ⟨z, 2, none⟩ = some (.pointer px) := H6.out.2.1.cell 2
  have p3 : w6.cell? ⟨z, 3, none⟩ = some (.bool true) := H6.out.2.1.cell 3
  have p4 : w6.cell? ⟨z, 4, none⟩ = some (.slice A2 1 c2) := H6.out.2.1.cell 4
  clear hV2 hy hw5 f5 hs5 hw6 f6 hb6 f4
  go_upto_region 3 with fail
  rw [HY.out, HW5.out, HW6.out]
  go_wp2_with fail
  refine HC6.out.mono ?_
  clear HC6
  rintro e w7 ⟨rfl, f7⟩
  have HF7 := Lib.hid (HF6.out.trans f7 fun _ _ h => h)
  have H7 := Lib.hid (HAT.out w7 HF7.out)
  have hb7 := HB6.out.of (f7.block _ HB6.out.lt id)
  have HR7 := Lib.hid (HRT.out w7 HF7.out)
  have q0 : w7.cell? ⟨z + 1, 0, none⟩ = some (.int .i64 0) := H7.out.2.2.1.cell 0
  have q1 : w7.cell? ⟨z + 1, 1, none⟩ = some (.int .i64 0) := H7.out.2.2.1.cell 1
  have q2 : w7.cell? ⟨y + 1, 0, none⟩ = some (.int .i64 41) := hb7.cell 0
  have q3 : w7.cell? ⟨y + 1, 1, none⟩ = some (.int .i64 7) := hb7.cell 1
  clear f7 hb7 p0 p1 p2 p3 p4
  have p0 : w7.cell? ⟨z, 0, none⟩ = some (.slice A1 2 c1) := H7.out.2.1.cell 0
  have p1 : w7.cell? ⟨z, 1, none⟩ = some (sv [102, 97, 99, 116, 115]) := H7.out.2.1.cell 1
  have p2 : w7.cell? ⟨z, 2, none⟩ = some (.pointer px) := H7.out.2.1.cell 2
  have p3 : w7.cell? ⟨z, 3, none⟩ = some (.bool true) := H7.out.2.1.cell 3
  have p4 : w7.cell? ⟨z, 4, none⟩ = some (.slice A2 1 c2) := H7.out.2.1.cell 4
  have hSS : (awS == [83, 69, 76, 69, 67, 84, 32, 97, 44, 32, 67, 79, 85, 78, 84, 40, 42, 41, 32, 70, 82, 79, 77, 32, 102, 97, 99, 116, 115, 32, 87, 72, 69, 82, 69, 32, 97, 32, 61, 32, 39, 120, 39, 32, 71, 82, 79, 85, 80, 32, 66, 89, 32, 97]) = true := by decide +kernel
  go_wp2_with fail
  refine HR7.out.mono ?_
  clear HR7
  rintro e w8 ⟨rfl, f8⟩
  have HF8 := Lib.hid (HF7.out.trans f8 fun _ _ h => h)
  have H8 := Lib.hid (HAT.out w8 HF8.out)
  have HS8 := Lib.hid (HSM.out w8 HF8.out)
  clear f8 p0 p1 p2 p3 p4 q0 q1 q2 q3
  have p0 : w8.cell? ⟨z, 0, none⟩ = some (.slice A1 2 c1) := H8.out.2.1.cell 0
  have p1 : w8.cell? ⟨z, 1, none⟩ = some (sv [102, 97, 99, 116, 115]) := H8.out.2.1.cell 1
  have p2 : w8.cell? ⟨z, 2, none⟩ = some (.pointer px) := H8.out.2.1.cell 2
  have p3 : w8.cell? ⟨z, 3, none⟩ = some (.bool true) := H8.out.2.1.cell 3
  have p4 : w8.cell? ⟨z, 4, none⟩ = some (.slice A2 1 c2) := H8.out.2.1.cell 4
  go_wp2_with fail
  refine HS8.out.mono ?_
  clear HS8
  rintro e w9 ⟨rfl, f9⟩
  have HF9 := Lib.hid (HF8.out.trans f9 fun _ _ h => h)
  have H9 := Lib.hid (HAT.out w9 HF9.out)
  clear f9 p0 p1 p2 p3 p4
  have p0 : w9.cell? ⟨z, 0, none⟩ = some (.slice A1 2 c1) := H9.out.2.1.cell 0
  have p1 : w9.cell? ⟨z, 1, none⟩ = some (sv [102, 97, 99, 116, 115]) := H9.out.2.1.cell 1
  have p2 : w9.cell? ⟨z, 2, none⟩ = some (.pointer px) := H9.out.2.1.cell 2
  have p3 : w9.cell? ⟨z, 3, none⟩ = some (.bool true) := H9.out.2.1.cell 3
  have p4 : w9.cell? ⟨z, 4, none⟩ = some (.slice A2 1 c2) := H9.out.2.1.cell 4
  go_wp2_with fail
  go_ret
  exact ⟨rfl, H9.out.1⟩
end Go.Proofs.YtpdfenpmnpoehaaGreatDoor
/- ParseNumbers, plain. -/
namespace Go.Proofs.YtpdfenpmnpoehaaGreatDoor
set_option linter.unusedVariables false
def qn (n : Int) : Qy := ⟨[⟨2, []⟩], [102, 97, 99, 116, 115], .node 4 .none .none [109] 1 [⟨false, [], n⟩], false, []⟩
theorem qn_right (n : Int) : rightQ (qn n) = true := by kernel_rfl
theorem qn_show (n : Int) : showT (qn n) = [83, 69, 76, 69, 67, 84, 32, 67, 79, 85, 78, 84, 40, 42, 41, 32, 70, 82, 79, 77, 32, 102, 97, 99, 116, 115, 32, 87, 72, 69, 82, 69, 32, 109, 32, 61, 32] ++ Lib.itoa n := by
  have h1 : selT (qn n) = [83, 69, 76, 69, 67, 84, 32, 67, 79, 85, 78, 84, 40, 42, 41, 32, 70, 82, 79, 77, 32, 102, 97, 99, 116, 115] := by
    unfold selT
    show [83, 69, 76, 69, 67, 84, 32] ++ jn ([⟨2, []⟩].map itemT) ++ [32, 70, 82, 79, 77, 32] ++ [102, 97, 99, 116, 115] = _
    decide +kernel
  have h2 : nodeT (qn n).cond = testT 4 [109] 1 [⟨false, [], n⟩] := rfl
  have h3 : whereT (qn n).cond = [32, 87, 72, 69, 82, 69, 32] ++ nodeT (qn n).cond := by
    unfold whereT
    rw [if_neg (by intro e; cases e)]
    unfold condT
    rw [if_pos (Nat.zero_le _)]
  have h4 : grpsT (qn n) = [] := rfl
  rw [showT_eq (qn_right n), h1, h3, h2, h4, show (1 : Int) = ((1 : Nat) : Int) from rfl, testT4, valT_int ⟨false, [], n⟩ rfl]
  have h5 : signsT.getD ((1 : Nat) : Int).toNat [] = [61] := by decide
  rw [h5]
  simp
theorem qn_len (n : Int) (h : i64 n) : (showT (qn n)).length ≤ 4096 := by
  have := Lib.itoa_length_le n h.1 h.2
  rw [qn_show]
  simp
  omega
theorem qn_parse (n : Int) (h : i64 n) : parseW (showT (qn n)) = (qn n, 0, 0) := parse_show (rq_of (qn_right n)) (by
  unfold qn
  simp only [Cd.Fits]
  refine ⟨trivial, trivial, fun v hv => ?_⟩
  obtain rfl := List.mem_singleton.1 hv
  exact h) (qn_len n h)
theorem qn_showB (n : Int) (h : i64 n) : showB (qn n) = (showT (qn n), 0) := by
  unfold showB
  rw [if_pos (qn_right n), if_neg (by have := qn_len n h; omega)]
theorem qn_same (n : Int) : sameQ (qn n) (qn n) = true := by
  unfold sameQ besideB qn
  simp [sameC, nodeB]
def awG : Tx := [83, 69, 76, 69, 67, 84, 32, 67, 79, 85, 78, 84, 40, 42, 41, 32, 70, 82, 79, 77, 32, 102, 97, 99, 116, 115, 32, 87, 72, 69, 82, 69, 32, 109, 32, 61, 32, 57, 50, 50, 51, 51, 55, 50, 48, 51, 54, 56, 53, 52, 55, 55, 53, 56, 48, 56]
def awH : Tx := [83, 69, 76, 69, 67, 84, 32, 67, 79, 85, 78, 84, 40, 42, 41, 32, 70, 82, 79, 77, 32, 102, 97, 99, 116, 115, 32, 87, 72, 69, 82, 69, 32, 109, 32, 61, 32, 45, 57, 50, 50, 51, 51, 55, 50, 48, 51, 54, 56, 53, 52, 55, 55, 53, 56, 48, 57]
theorem aw7 : parseW awG = (Qy0, 45, 37) := by decide +kernel
theorem aw8 : parseW awH = (Qy0, 45, 38) := by decide +kernel
end Go.Proofs.YtpdfenpmnpoehaaGreatDoor
/- ParseNumbers, walked. -/
namespace Go.Proofs.YtpdfenpmnpoehaaGreatDoor
open Go.RowKit Go.Maps
set_option linter.unusedVariables false

/-- The law's own query. -/
theorem qn_at {w : World} {b : Nat} {n : Int} (hn : i64 n) {x0 x1 x2 : Value} (h0 : Blk w b 45 #[.int .i64 2, sv []]) (h1 : Blk w (b + 1) 47 #[.bool false, sv [], .int .i64 n]) (h2 : Blk w (b + 1 + 1) 50 #[.int .i64 4, .pointer none, .pointer none, sv [109], .int .i64 1, .slice (some ⟨b + 1, 0, none⟩) 1 1]) :
    QyAt (fun k => b ≤ k) w (qn n) (qyV (qn n) (some ⟨b, 0, none⟩) 1 (some ⟨b + 1 + 1, 0, none⟩) none 0) := by
  have hi : RowE (fun k => b ≤ k) w 2 (itG (fun k => b ≤ k) w) (.slice (some ⟨b, 0, none⟩) 1 1) [⟨2, []⟩] := by
    refine ⟨some ⟨b, 0, none⟩, 1, rfl, Nat.le_refl _, by decide, fun _ => ⟨b, 0, rfl, Nat.le_refl _, h0.lt, fun j hj => ⟨[.int .i64 2, sv []], rfl, fun i hi => ?_, ⟨?_, ?_, ?_⟩⟩⟩⟩
    · obtain rfl : j = 0 := by simpa using hj
      have := h0.cell i
      match i, hi with
      | 0, _ => exact this
      | 1, _ => exact this
    · obtain rfl : j = 0 := by simpa using hj
      rfl
    · obtain rfl : j = 0 := by simpa using hj
      exact Nat.zero_le _
    · obtain rfl : j = 0 := by simpa using hj
      exact (show i64 2 from ⟨by decide, by decide⟩)
  have hv : RowE (fun k => b ≤ k) w 3 (vlG (fun k => b ≤ k) w) (.slice (some ⟨b + 1, 0, none⟩) 1 1) [⟨false, [], n⟩] := by
    refine ⟨some ⟨b + 1, 0, none⟩, 1, rfl, Nat.le_refl _, by decide, fun _ => ⟨b + 1, 0, rfl, by show b ≤ b + 1; omega, h1.lt, fun j hj => ⟨[.bool false, sv [], .int .i64 n], rfl, fun i hi => ?_, ⟨?_, ?_, ?_⟩⟩⟩⟩
    · obtain rfl : j = 0 := by simpa using hj
      have := h1.cell i
      match i, hi with
      | 0, _ => exact this
      | 1, _ => exact this
      | 2, _ => exact this
    · obtain rfl : j = 0 := by simpa using hj
      rfl
    · obtain rfl : j = 0 := by simpa using hj
      exact Nat.zero_le _
    · obtain rfl : j = 0 := by simpa using hj
      exact hn
  refine ⟨_, _, _, rfl, hi, (by show 5 ≤ maxLen; decide), ⟨b + 1 + 1, 0, .pointer none, .pointer none, _, rfl, by show b ≤ b + 1 + 1; omega, h2.lt, h2.cell 0, h2.cell 1, h2.cell 2, h2.cell 3, h2.cell 4, h2.cell 5, rfl, rfl, hv, by decide, ⟨by decide, by decide⟩, ⟨by decide, by decide⟩⟩, RowE.nil _ _ _ _⟩
set_option maxRecDepth 100000 in
set_option maxHeartbeats 8000000 in
theorem numbers_any (n : Int) (hn : i64 n) (w : World) (hp : Pv w) : Calls Tryz.prog 10 #[.int .i64 n] w (TellsB true w) := by
  have hgd := eqd26
  have heq := eql26
  have HAW := Lib.hid (awake_any w hp)
  have HPV : Hid (∀ w', Fr No w w' → Pv w') := Lib.hid fun w' f' => hp.no f'
  have HNN := Lib.hid hn
  clear hp
  go_enter Tryz.func10, Tryz.ntmps10
  go_wp2_with fail
  refine HAW.out.mono ?_
  rintro e w1 ⟨rfl, f1⟩
  obtain ⟨b, hb⟩ : ∃ z, w1.heap.size = z := ⟨_, rfl⟩
  obtain ⟨w2, hw2⟩ : ∃ x, w1.alloc (.cells #[.int .i64 2, sv []] 45) = x := ⟨_, rfl⟩
  have g2 : Fr No w1 w2 := by rw [← hw2]; exact (Fr.refl No w1).alloc _
  have b2 : Blk w2 b 45 #[.int .i64 2, sv []] := by rw [← hw2, ← hb]; exact Blk.new w1 45 _
  have s2 : w2.heap.size = b + 1 := by rw [← hw2, ← hb]; simp
  obtain ⟨w3, hw3⟩ : ∃ x, w2.alloc (.cells #[.bool false, sv [], .int .i64 n] 47) = x := ⟨_, rfl⟩
  have g3 : Fr No w2 w3 := by rw [← hw3]; exact (Fr.refl No w2).alloc _
  have b3 : Blk w3 (b + 1) 47 #[.bool false, sv [], .int .i64 n] := by rw [← hw3, ← s2]; exact Blk.new w2 47 _
  have s3 : w3.heap.size = b + 1 + 1 := by rw [← hw3]; simp [s2]
  obtain ⟨w4, hw4⟩ : ∃ x, w3.alloc (.cells #[.int .i64 4, .pointer none, .pointer none, sv [109], .int .i64 1, .slice (some ⟨b + 1, 0, none⟩) 1 1] 50) = x := ⟨_, rfl⟩
  have g4 : Fr No w3 w4 := by rw [← hw4]; exact (Fr.refl No w3).alloc _
  have b4 : Blk w4 (b + 1 + 1) 50 #[.int .i64 4, .pointer none, .pointer none, sv [109], .int .i64 1, .slice (some ⟨b + 1, 0, none⟩) 1 1] := by rw [← hw4, ← s3]; exact Blk.new w3 50 _
  have s4 : w4.heap.size = b + 1 + 1 + 1 := by rw [← hw4]; simp [s3]
  obtain ⟨w5, hw5⟩ : ∃ x, w4.alloc (.cells #[.slice (some ⟨b, 0, none⟩) 1 1, sv [102, 97, 99, 116, 115], .pointer (some ⟨b + 1 + 1, 0, none⟩), .bool false, .slice none 0 0] 27) = x := ⟨_, rfl⟩
  have g5 : Fr No w4 w5 := by rw [← hw5]; exact (Fr.refl No w4).alloc _
  have b5 : Blk w5 (b + 1 + 1 + 1) 27 #[.slice (some ⟨b, 0, none⟩) 1 1, sv [102, 97, 99, 116, 115], .pointer (some ⟨b + 1 + 1, 0, none⟩), .bool false, .slice none 0 0] := by rw [← hw5, ← s4]; exact Blk.new w4 27 _
  have g35 := (g3.trans g4 fun _ _ h => h).trans g5 fun _ _ h => h
  have g45 := g4.trans g5 fun _ _ h => h
  have g15 := ((f1.trans g2 fun _ _ h => h).trans g35 fun _ _ h => h)
  have hq5 := qn_at (w := w5) (b := b) hn (x0 := .nilIface) (x1 := .nilIface) (x2 := .nilIface) (b2.of (g35.block b b2.lt id)) (b3.of (g45.block _ b3.lt id)) (b4.of (g5.block _ b4.lt id))
  have HAT : Hid (∀ w', Fr No w5 w' → Fr No w w' ∧ Pv w' ∧ Blk w' (b + 1 + 1 + 1) 27 #[.slice (some ⟨b, 0, none⟩) 1 1, sv [102, 97, 99, 116, 115], .pointer (some ⟨b + 1 + 1, 0, none⟩), .bool false, .slice none 0 0] ∧ QyAt (fun k => b ≤ k) w' (qn n) (qyV (qn n) (some ⟨b, 0, none⟩) 1 (some ⟨b + 1 + 1, 0, none⟩) none 0)) := Lib.hid fun w' f' =>
    ⟨g15.trans f' fun _ _ h => h, HPV.out w' (g15.trans f' fun _ _ h => h), b5.of (f'.block _ b5.lt id), hq5.mono fun k hk hkl => ⟨hk, f'.block k hkl id⟩⟩
  have H5 := Lib.hid (HAT.out w5 (Fr.refl _ _))
  have hV : qyV (qn n) (some ⟨b, 0, none⟩) 1 (some ⟨b + 1 + 1, 0, none⟩) none 0 = .agg #[.slice (some ⟨b, 0, none⟩) 1 1, sv [102, 97, 99, 116, 115], .pointer (some ⟨b + 1 + 1, 0, none⟩), .bool false, .slice none 0 0] := rfl
  have HSH := Lib.hid (show_any (qn n) _ w5 H5.out.2.1 H5.out.2.2.2 (fun _ => by have := qn_len n hn; omega))
  unfold ShowP at HSH
  rw [hV, qn_showB n hn] at HSH
  have HPN := Lib.hid (qn_parse n hn)
  have HLN := Lib.hid (qn_len n hn)
  have HSQ := Lib.hid (qn_same n)
  obtain ⟨T, hT⟩ : ∃ T, showT (qn n) = T := ⟨_, rfl⟩
  rw [hT] at HSH HPN HLN
  have HB := Lib.hid hb
  have HW2 := Lib.hid hw2
  have HW3 := Lib.hid hw3
  have HW4 := Lib.hid hw4
  have HW5 := Lib.hid hw5
  have HVV := Lib.hid hV
  have q0 : w5.cell? ⟨b + 1 + 1 + 1, 0, none⟩ = some (.slice (some ⟨b, 0, none⟩) 1 1) := H5.out.2.2.1.cell 0
  have q1 : w5.cell? ⟨b + 1 + 1 + 1, 1, none⟩ = some (sv [102, 97, 99, 116, 115]) := H5.out.2.2.1.cell 1
  have q2 : w5.cell? ⟨b + 1 + 1 + 1, 2, none⟩ = some (.pointer (some ⟨b + 1 + 1, 0, none⟩)) := H5.out.2.2.1.cell 2
  have q3 : w5.cell? ⟨b + 1 + 1 + 1, 3, none⟩ = some (.bool false) := H5.out.2.2.1.cell 3
  have q4 : w5.cell? ⟨b + 1 + 1 + 1, 4, none⟩ = some (.slice none 0 0) := H5.out.2.2.1.cell 4
  clear hb hw2 g2 b2 s2 hw3 g3 b3 s3 hw4 g4 b4 s4 hw5 g5 b5 g35 g45 g15 hq5 hV hT f1 hn HAW
  go_upto_region 3 with fail
  rw [HB.out, HW2.out, HW3.out, HW4.out, HW5.out]
  go_wp2_with fail
  refine HSH.out.mono ?_
  clear HSH
  rintro e w6 ⟨rfl, f6⟩
  have H6 := Lib.hid (HAT.out w6 f6)
  have HF6 := Lib.hid f6
  have HP7 := Lib.hid (l_parse T w6 H6.out.2.1 (by have := HLN.out; unfold maxLen; omega) HPN.out)
  clear f6 q0 q1 q2 q3 q4
  go_wp2_with fail
  refine HP7.out.mono ?_
  clear HP7
  rintro e w7 ⟨A1, c1, px, A2, c2, rfl, hq7, f7⟩
  have hcd : ∃ g o g5 o5 c5, px = some ⟨g, o, none⟩ ∧ g < w7.heap.size ∧ g5 < w7.heap.size ∧ w7.cell? ⟨g, o + 5, none⟩ = some (.slice (some ⟨g5, o5, none⟩) 1 c5) ∧ w7.cell? ⟨g5, o5 + 2, none⟩ = some (.int .i64 n) := by
    obtain ⟨_, _, _, e, _, _, hc, _⟩ := hq7
    cases e
    obtain ⟨g, o, L, R, V, e1, _, hg, _, _, _, _, _, h5, _, _, hv, _⟩ := hc
    obtain ⟨A5, c5, rfl, _, _, hrow⟩ := hv
    obtain ⟨g5, o5, rfl, _, hg5, hel⟩ := hrow (by simp)
    obtain ⟨cs, _, hcs, hE⟩ := hel 0 (by simp)
    have h52 := hcs 2 (by decide)
    rw [hE.1] at h52
    injection e1 with e1
    exact ⟨g, o, g5, o5, c5, e1, hg, hg5, h5, by simpa using h52⟩
  obtain ⟨g, o, g5, o5, c5, rfl, hg, hg5, k5, k2⟩ := hcd
  have hV7 : qyV (qn n) A1 c1 (some ⟨g, o, none⟩) A2 c2 = .agg #[.slice A1 1 c1, sv [102, 97, 99, 116, 115], .pointer (some ⟨g, o, none⟩), .bool false, .slice A2 0 c2] := rfl
  rw [hV7] at hq7 ⊢
  obtain ⟨y, hy⟩ : ∃ z, w7.heap.size = z := ⟨_, rfl⟩
  obtain ⟨w8, hw8⟩ : ∃ x, w7.alloc (.cells #[.slice A1 1 c1, sv [102, 97, 99, 116, 115], .pointer (some ⟨g, o, none⟩), .bool false, .slice A2 0 c2] 27) = x := ⟨_, rfl⟩
  have g8 : Fr No w7 w8 := by rw [← hw8]; exact (Fr.refl No w7).alloc _
  have b8 : Blk w8 y 27 #[.slice A1 1 c1, sv [102, 97, 99, 116, 115], .pointer (some ⟨g, o, none⟩), .bool false, .slice A2 0 c2] := by rw [← hw8, ← hy]; exact Blk.new w7 27 _
  have s8 : w8.heap.size = y + 1 := by rw [← hw8, ← hy]; simp
  obtain ⟨w9, hw9⟩ : ∃ x, w8.alloc (.cells #[.int .i64 0, .int .i64 0] 30) = x := ⟨_, rfl⟩
  have g9 : Fr No w8 w9 := by rw [← hw9]; exact (Fr.refl No w8).alloc _
  have b9 : Blk w9 (y + 1) 30 #[.int .i64 0, .int .i64 0] := by rw [← hw9, ← s8]; exact Blk.new w8 30 _
  have g79 := g8.trans g9 fun _ _ h => h
  have g59 := (HF6.out.trans f7 fun _ _ h => h).trans g79 fun _ _ h => h
  have HAT9 : Hid (∀ w', Fr No w9 w' → Fr No w w' ∧ Pv w' ∧ Blk w' (b + 1 + 1 + 1) 27 #[.slice (some ⟨b, 0, none⟩) 1 1, sv [102, 97, 99, 116, 115], .pointer (some ⟨b + 1 + 1, 0, none⟩), .bool false, .slice none 0 0] ∧ QyAt (fun k => b ≤ k) w' (qn n) (qyV (qn n) (some ⟨b, 0, none⟩) 1 (some ⟨b + 1 + 1, 0, none⟩) none 0) ∧ Blk w' y 27 #[.slice A1 1 c1, sv [102, 97, 99, 116, 115], .pointer (some ⟨g, o, none⟩), .bool false, .slice A2 0 c2] ∧ Blk w' (y + 1) 30 #[.int .i64 0, .int .i64 0] ∧ QyAt (fun k => w6.heap.size ≤ k) w' (qn n) (.agg #[.slice A1 1 c1, sv [102, 97, 99, 116, 115], .pointer (some ⟨g, o, none⟩), .bool false, .slice A2 0 c2]) ∧ w'.cell? ⟨g, o + 5, none⟩ = some (.slice (some ⟨g5, o5, none⟩) 1 c5) ∧ w'.cell? ⟨g5, o5 + 2, none⟩ = some (.int .i64 n)) := Lib.hid fun w' f' => by
    obtain ⟨a1, a2, a3, a4⟩ := HAT.out w' (g59.trans f' fun _ _ h => h)
    have g7 := g79.trans f' fun _ _ h => h
    exact ⟨a1, a2, a3, a4, b8.of ((g9.trans f' fun _ _ h => h).block y b8.lt id), b9.of (f'.block _ b9.lt id), hq7.mono fun k hk hkl => ⟨hk, g7.block k hkl id⟩, (cell_of_heap (g7.block g hg id)).trans k5, (cell_of_heap (g7.block g5 hg5 id)).trans k2⟩
  have H9 := Lib.hid (HAT9.out w9 (Fr.refl _ _))
  have HP9 := Lib.hid (l_parse awG w9 H9.out.2.1 (by decide) aw7)
  have HY := Lib.hid hy
  have HW8 := Lib.hid hw8
  have HW9 := Lib.hid hw9
  unfold awG at HP9
  clear hV7 hy hw8 g8 b8 s8 hw9 g9 b9 g79 g59 hq7 f7 hg hg5 k5 k2
  go_upto_region 5 with fail
  rw [HY.out, HW8.out, HW9.out]
  go_wp2_with fail
  refine HP9.out.mono ?_
  clear HP9
  rintro e wa ⟨B1, d1, px2, B2, d2, rfl, -, fa⟩
  have hVa : qyV Qy0 B1 d1 px2 B2 d2 = .agg #[.slice B1 0 d1, sv [], .pointer px2, .bool false, .slice B2 0 d2] := rfl
  rw [hVa]
  obtain ⟨ya, hya⟩ : ∃ z, wa.heap.size = z := ⟨_, rfl⟩
  obtain ⟨wxa, hwxa⟩ : ∃ x, wa.alloc (.cells #[.slice B1 0 d1, sv [], .pointer px2, .bool false, .slice B2 0 d2] 27) = x := ⟨_, rfl⟩
  have gxa : Fr No wa wxa := by rw [← hwxa]; exact (Fr.refl No wa).alloc _
  have sxa : wxa.heap.size = ya + 1 := by rw [← hwxa, ← hya]; simp
  obtain ⟨wza, hwza⟩ : ∃ x, wxa.alloc (.cells #[.int .i64 45, .int .i64 37] 30) = x := ⟨_, rfl⟩
  have gza : Fr No wxa wza := by rw [← hwza]; exact (Fr.refl No wxa).alloc _
  have bza : Blk wza (ya + 1) 30 #[.int .i64 45, .int .i64 37] := by rw [← hwza, ← sxa]; exact Blk.new wxa 30 _
  have FA := Lib.hid ((fa.trans gxa fun _ _ h => h).trans gza fun _ _ h => h)
  have BZA := Lib.hid bza
  have HYa := Lib.hid hya
  have HXa := Lib.hid hwxa
  have HZa := Lib.hid hwza
  have HPa := Lib.hid (l_parse awH wza (HAT9.out wza FA.out).2.1 (by decide) aw8)
  unfold awH at HPa
  clear hVa hya hwxa gxa sxa hwza gza bza fa
  go_upto_region 6 with fail
  rw [HYa.out, HXa.out, HZa.out]
  go_wp2_with fail
  refine HPa.out.mono ?_
  clear HPa
  rintro e wb ⟨B1, d1, px2, B2, d2, rfl, -, fb⟩
  have hVb : qyV Qy0 B1 d1 px2 B2 d2 = .agg #[.slice B1 0 d1, sv [], .pointer px2, .bool false, .slice B2 0 d2] := rfl
  rw [hVb]
  obtain ⟨yb, hyb⟩ : ∃ z, wb.heap.size = z := ⟨_, rfl⟩
  obtain ⟨wxb, hwxb⟩ : ∃ x, wb.alloc (.cells #[.slice B1 0 d1, sv [], .pointer px2, .bool false, .slice B2 0 d2] 27) = x := ⟨_, rfl⟩
  have gxb : Fr No wb wxb := by rw [← hwxb]; exact (Fr.refl No wb).alloc _
  have sxb : wxb.heap.size = yb + 1 := by rw [← hwxb, ← hyb]; simp
  obtain ⟨wzb, hwzb⟩ : ∃ x, wxb.alloc (.cells #[.int .i64 45, .int .i64 38] 30) = x := ⟨_, rfl⟩
  have gzb : Fr No wxb wzb := by rw [← hwzb]; exact (Fr.refl No wxb).alloc _
  have bzb : Blk wzb (yb + 1) 30 #[.int .i64 45, .int .i64 38] := by rw [← hwzb, ← sxb]; exact Blk.new wxb 30 _
  have FB := Lib.hid (FA.out.trans ((fb.trans gxb fun _ _ h => h).trans gzb fun _ _ h => h) fun _ _ h => h)
  have BZB := Lib.hid bzb
  have BZA2 := Lib.hid (BZA.out.of (((fb.trans gxb fun _ _ h => h).trans gzb fun _ _ h => h).block _ BZA.out.lt id))
  have HYb := Lib.hid hyb
  have HXb := Lib.hid hwxb
  have HZb := Lib.hid hwzb
  have HE := Lib.hid (HAT9.out wzb FB.out)
  have HSM := Lib.hid (same_query (d := 4096) (Nat.le_refl _) (qn n) (qn n) wzb (qyTo_of HE.out.2.2.2.1) (qyTo_of HE.out.2.2.2.2.2.2.1))
  rw [HVV.out, HSQ.out] at HSM
  have r0 : wzb.cell? ⟨y, 2, none⟩ = some (.pointer (some ⟨g, o, none⟩)) := HE.out.2.2.2.2.1.cell 2
  have r1 := HE.out.2.2.2.2.2.2.2.1
  have r2 : wzb.cell? ⟨y + 1, 0, none⟩ = some (.int .i64 0) := HE.out.2.2.2.2.2.1.cell 0
  have r3 : wzb.cell? ⟨y + 1, 1, none⟩ = some (.int .i64 0) := HE.out.2.2.2.2.2.1.cell 1
  have u0 : wzb.cell? ⟨b + 1 + 1 + 1, 0, none⟩ = some (.slice (some ⟨b, 0, none⟩) 1 1) := HE.out.2.2.1.cell 0
  have u1 : wzb.cell? ⟨b + 1 + 1 + 1, 1, none⟩ = some (sv [102, 97, 99, 116, 115]) := HE.out.2.2.1.cell 1
  have u2 : wzb.cell? ⟨b + 1 + 1 + 1, 2, none⟩ = some (.pointer (some ⟨b + 1 + 1, 0, none⟩)) := HE.out.2.2.1.cell 2
  have u3 : wzb.cell? ⟨b + 1 + 1 + 1, 3, none⟩ = some (.bool false) := HE.out.2.2.1.cell 3
  have u4 : wzb.cell? ⟨b + 1 + 1 + 1, 4, none⟩ = some (.slice none 0 0) := HE.out.2.2.1.cell 4
  have v0 : wzb.cell? ⟨y, 0, none⟩ = some (.slice A1 1 c1) := HE.out.2.2.2.2.1.cell 0
  have v1 : wzb.cell? ⟨y, 1, none⟩ = some (sv [102, 97, 99, 116, 115]) := HE.out.2.2.2.2.1.cell 1
  have v3 : wzb.cell? ⟨y, 3, none⟩ = some (.bool false) := HE.out.2.2.2.2.1.cell 3
  have v4 : wzb.cell? ⟨y, 4, none⟩ = some (.slice A2 0 c2) := HE.out.2.2.2.2.1.cell 4
  clear hVb hyb hwxb gxb sxb hwzb gzb bzb fb
  go_upto_region 7 with fail
  rw [HYb.out, HXb.out, HZb.out]
  go_wp2_with fail
  refine HSM.out.mono ?_
  clear HSM
  rintro e wc ⟨rfl, fc⟩
  have HC := Lib.hid (HAT9.out wc (FB.out.trans fc fun _ _ h => h))
  have hbz := BZB.out.of (fc.block _ BZB.out.lt id)
  have hba := BZA2.out.of (fc.block _ BZA2.out.lt id)
  have x0 : wc.cell? ⟨y, 2, none⟩ = some (.pointer (some ⟨g, o, none⟩)) := HC.out.2.2.2.2.1.cell 2
  have x1 := HC.out.2.2.2.2.2.2.2.1
  have x2 := HC.out.2.2.2.2.2.2.2.2
  have x3 : wc.cell? ⟨ya + 1, 0, none⟩ = some (.int .i64 45) := hba.cell 0
  have x4 : wc.cell? ⟨ya + 1, 1, none⟩ = some (.int .i64 37) := hba.cell 1
  have x5 : wc.cell? ⟨yb + 1, 0, none⟩ = some (.int .i64 45) := hbz.cell 0
  have x6 : wc.cell? ⟨yb + 1, 1, none⟩ = some (.int .i64 38) := hbz.cell 1
  clear fc hbz hba r0 r1 r2 r3 u0 u1 u2 u3 u4 v0 v1 v3 v4
  go_wp2_with fail
  go_ret
  exact ⟨rfl, HC.out.1⟩
end Go.Proofs.YtpdfenpmnpoehaaGreatDoor
