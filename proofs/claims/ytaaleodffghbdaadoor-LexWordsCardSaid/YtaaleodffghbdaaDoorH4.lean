/- LexWords: the reference's words, walked: letters. -/
import Derived.Test.YtaaleodffghbdaaDoorH3
namespace Go.Proofs.YtaaleodffghbdaaDoor
open Go.RowKit Go.Maps
set_option linter.unusedVariables false

theorem refV_good {p i k : Nat} {t : Tx} (h : p ≤ i) : refV p (.good k t (i - p)) = .tuple #[.agg #[.int .i64 (k : Nat), .string ⟨t.toArray⟩, .int .i64 (p : Nat)], .int .i64 (i : Nat), .agg #[.int .i64 0, .int .i64 0]] := by
  show Value.tuple #[_, .int .i64 ((p + (i - p) : Nat) : Int), _] = _
  rw [show p + (i - p) = i by omega]
set_option maxRecDepth 100000 in
set_option maxHeartbeats 8000000 in
theorem refLetters_any (s : ByteArray) (p : Nat) (w : World) (hs : s.size ≤ 4096) (hp : p < s.size) (hlet : isLet s[p] = true) : Calls Tryd.prog 21 #[.string s, .int .i64 (p : Nat)] w (RefP p (wordT (s.data.toList.drop p)) w) := by
  have HLT := Lib.hid hlet
  obtain ⟨T, hT⟩ : ∃ T, wordT (s.data.toList.drop p) = T := ⟨_, rfl⟩
  rw [hT]
  have HT := Lib.hid hT
  have HGO : Hid (∀ b, goB b = (isLet b || isDig b)) := Lib.hid fun _ => rfl
  obtain ⟨y, hy⟩ : ∃ y, w.heap.size = y := ⟨_, rfl⟩
  obtain ⟨w1, hw1⟩ : ∃ w1, w.alloc (.cells #[.int .i64 0, .string ⟨#[]⟩, .int .i64 0] 31) = w1 := ⟨_, rfl⟩
  have hb1 : Blk w1 y 31 #[.int .i64 0, .string ⟨#[]⟩, .int .i64 0] := by rw [← hw1, ← hy]; exact Blk.new w 31 _
  have hz1' : w1.heap.size = y + 1 := by rw [← hw1, ← hy]; simp
  obtain ⟨w2, hw2⟩ : ∃ w2, w1.alloc (.cells #[.int .i64 0, .int .i64 0] 26) = w2 := ⟨_, rfl⟩
  have hb2 : Blk w2 (y + 1) 26 #[.int .i64 0, .int .i64 0] := by rw [← hw2, ← hz1']; exact Blk.new w1 26 _
  have f12 : Fr No w1 w2 := by rw [← hw2]; exact (Fr.refl No w1).alloc _
  have f01 : Fr No w w1 := by rw [← hw1]; exact (Fr.refl No w).alloc _
  have HBY : Hid (Blk w2 y 31 #[.int .i64 0, .string ⟨#[]⟩, .int .i64 0]) := Lib.hid (hb1.of (f12.block y hb1.lt id))
  have HBZ := Lib.hid hb2
  have F2 := Lib.hid (f01.trans f12 fun _ _ h => h)
  have HW1 := Lib.hid hw1
  have HW2 := Lib.hid hw2
  have HYW : Hid (w.heap.size ≤ y) := Lib.hid (by omega)
  have HY := Lib.hid hy
  have HL : Hid (∀ b : UInt8, Calls Tryd.prog 33 #[.int .u8 (b.toNat : Nat)] w2 fun e w' => e = .returned (.bool (isLet b)) ∧ w2 = w') := Lib.hid fun b => refLetter_any b w2
  have HDG : Hid (∀ b : UInt8, Calls Tryd.prog 34 #[.int .u8 (b.toNat : Nat)] w2 fun e w' => e = .returned (.bool (isDig b)) ∧ w2 = w') := Lib.hid fun b => refDigit_any b w2
  clear hy hw1 hb1 hz1' hw2 hb2 f12 f01
  have hbp := u8_lt s[p]
  have HLP := Lib.hid (HL.out s[p])
  rw [hlet] at HLP
  have hp1 : (p : Int) < (s.size : Int) := by omega
  clear hT hlet
  go_enter Tryd.func21, Tryd.ntmps21
  go_upto_region 1 with fail
  rw [HY.out, HW1.out, HW2.out]
  go_wp2_with fail
  refine HLP.out.mono ?_
  rintro e w' ⟨rfl, rfl⟩
  go_wp2
  go_loop [8] (fun iv => ∃ i : Nat, iv = .int .i64 (i : Nat) ∧ p ≤ i ∧ i ≤ s.size ∧ Hid (AllFrom goB s p i)) (fun iv => s.size - (intOf iv).toNat)
  case atStart => exact ⟨p, rfl, Nat.le_refl _, by omega, Lib.hid (AllFrom.start _ _ _)⟩
  case round =>
    obtain ⟨i, rfl, hpi, hi1, HA⟩ := hrel
    by_cases hlt : i < s.size
    · have hb := u8_lt s[i]
      have hk0 : (0 : Int) ≤ (i : Int) := by omega
      have hk1 : (i : Int) < (s.size : Int) := by omega
      have HGK := Lib.hid (HGO.out s[i])
      have HNX := Lib.hid (HA.out.next hlt)
      have HLK := Lib.hid (HL.out s[i])
      have HDK := Lib.hid (HDG.out s[i])
      have HSI : Hid (goB s[i] = false → ∀ h : i < s.size, goB s[i] = false) := Lib.hid fun h _ => h
      generalize goB s[i] = G at HGK HNX HSI
      generalize isLet s[i] = L1 at *
      generalize isDig s[i] = D1 at *
      cases L1 with
      | true =>
        obtain rfl : G = true := HGK.out
        go_wp2_with fail
        refine HLK.out.mono ?_
        rintro e w' ⟨rfl, rfl⟩
        go_wp2
        refine ⟨⟨i + 1, by go_num, by omega, by omega, Lib.hid (HNX.out trivial)⟩, by simp [intOf]; omega⟩
      | false =>
        obtain rfl : G = D1 := by have := HGK.out; simpa using this
        cases G with
        | true =>
          go_wp2_with (first | (go_at_call 33; refine HLK.out.mono ?_; rintro e w' ⟨rfl, rfl⟩) | (go_at_call 34; refine HDK.out.mono ?_; rintro e w' ⟨rfl, rfl⟩))
          refine ⟨⟨i + 1, by go_num, by omega, by omega, Lib.hid (HNX.out trivial)⟩, by simp [intOf]; omega⟩
        | false =>
          have HSTOP := Lib.hid (HSI.out rfl)
          clear HNX HGK
          have hrun := runB_from hpi hi1 HA.out HSTOP.out
          have HX := Lib.hid (ref_letters hp HLT.out hrun)
          obtain ⟨X, hX⟩ : ∃ X, s.extract p i = X := ⟨_, rfl⟩
          rw [hX] at HX
          have hXs : X.size = i - p := by rw [← hX, ByteArray.size_extract]; omega
          have HKW := Lib.hid (refKeyword_any X w2 (by omega))
          have HCP : Hid (∀ w', Calls Tryd.prog 36 #[.string X] w' fun e w'' => e = .returned (.string ⟨(X.data.toList.map capB).toArray⟩) ∧ Fr No w' w'') := Lib.hid fun w' => refCaps_any X w' (by omega)
          have HXT := Lib.hid (mk_toList X)
          clear hrun
          obtain ⟨D, hD⟩ : ∃ D, decide (X.data.toList.map capB ∈ kws) = D := ⟨_, rfl⟩
          rw [hD] at HX HKW
          generalize X.data.toList.map capB = C at *
          generalize X.data.toList = XL at *
          have hip : (p : Int) ≤ (i : Int) := by omega
          clear hD
          go_upto_region 7 with (first | (go_at_call 33; refine HLK.out.mono ?_; rintro e w' ⟨rfl, rfl⟩) | (go_at_call 34; refine HDK.out.mono ?_; rintro e w' ⟨rfl, rfl⟩))
          clear hX
          go_wp2_with fail
          refine HKW.out.mono ?_
          rintro e w3 ⟨rfl, f3⟩
          cases D with
          | true =>
            go_wp2_with fail
            refine (HCP.out w3).mono ?_
            rintro e w4 ⟨rfl, f4⟩
            have HF := Lib.hid (f3.trans f4 fun _ _ h => h)
            have HEQ : Hid (Ending.returned (.tuple #[.agg #[.int .i64 2, .string ⟨C.toArray⟩, .int .i64 (p : Nat)], .int .i64 (i : Nat), .agg #[.int .i64 0, .int .i64 0]]) = .returned (refV p T)) := Lib.hid (by rw [← HT.out, HX.out.1 (by first | trivial | rfl), refV_good hpi]; rfl)
            clear f3 f4
            have hby := HBY.out.of (HF.out.block y HBY.out.lt id)
            have hbz := HBZ.out.of (HF.out.block (y + 1) HBZ.out.lt id)
            have z0 : w4.cell? ⟨y, 0, none⟩ = some (.int .i64 0) := hby.cell 0
            have z1 : w4.cell? ⟨y, 1, none⟩ = some (.string ⟨#[]⟩) := hby.cell 1
            have z2 : w4.cell? ⟨y, 2, none⟩ = some (.int .i64 0) := hby.cell 2
            have z3 : w4.cell? ⟨y + 1, 0, none⟩ = some (.int .i64 0) := hbz.cell 0
            have z4 : w4.cell? ⟨y + 1, 1, none⟩ = some (.int .i64 0) := hbz.cell 1
            have x0 := hby.frozen 0
            have x1 := hby.frozen 1
            have x2 := hby.frozen 2
            have x3 := hbz.frozen 0
            have x4 := hbz.frozen 1
            have F5 := Lib.hid (F2.out.trans HF.out fun _ _ h => h)
            have hyw := HYW.out
            clear hby hbz
            go_wp2
            refine bodyPost_ret (v := .tuple #[.agg #[.int .i64 2, .string ⟨C.toArray⟩, .int .i64 (p : Nat)], .int .i64 (i : Nat), .agg #[.int .i64 0, .int .i64 0]]) (by simp [results, Tryd.results21, go_sem, z0, z1, z2, z3, z4]) rfl ?_
            refine ⟨HEQ.out, ?_⟩
            repeat (refine Fr.setCell ?_ (fun h => absurd h (by first | (show ¬ y < _; omega) | (show ¬ y + 1 < _; omega))) _)
            exact F5.out
          | false =>
            have HF := Lib.hid f3
            clear f3
            have hby := HBY.out.of (HF.out.block y HBY.out.lt id)
            have hbz := HBZ.out.of (HF.out.block (y + 1) HBZ.out.lt id)
            have z0 : w3.cell? ⟨y, 0, none⟩ = some (.int .i64 0) := hby.cell 0
            have z1 : w3.cell? ⟨y, 1, none⟩ = some (.string ⟨#[]⟩) := hby.cell 1
            have z2 : w3.cell? ⟨y, 2, none⟩ = some (.int .i64 0) := hby.cell 2
            have z3 : w3.cell? ⟨y + 1, 0, none⟩ = some (.int .i64 0) := hbz.cell 0
            have z4 : w3.cell? ⟨y + 1, 1, none⟩ = some (.int .i64 0) := hbz.cell 1
            have x0 := hby.frozen 0
            have x1 := hby.frozen 1
            have x2 := hby.frozen 2
            have x3 := hbz.frozen 0
            have x4 := hbz.frozen 1
            have F5 := Lib.hid (F2.out.trans HF.out fun _ _ h => h)
            have hyw := HYW.out
            clear hby hbz
            by_cases h32 : 32 < i - p
            · have HEQ : Hid (Ending.returned (.tuple #[.agg #[.int .i64 0, .string ⟨#[]⟩, .int .i64 0], .int .i64 0, .agg #[.int .i64 45, .int .i64 (p : Nat)]]) = .returned (refV p T)) := Lib.hid (by rw [← HT.out, HX.out.2.1 (by first | trivial | rfl) h32]; rfl)
              have hx32 : (32 : Int) < (X.size : Int) := by omega
              go_wp2
              refine bodyPost_ret (v := .tuple #[.agg #[.int .i64 0, .string ⟨#[]⟩, .int .i64 0], .int .i64 0, .agg #[.int .i64 45, .int .i64 (p : Nat)]]) (by simp [results, Tryd.results21, go_sem, z0, z1, z2, z3, z4]) rfl ?_
              refine ⟨HEQ.out, ?_⟩
              repeat (refine Fr.setCell ?_ (fun h => absurd h (by first | (show ¬ y < _; omega) | (show ¬ y + 1 < _; omega))) _)
              exact F5.out
            · have HEQ : Hid (Ending.returned (.tuple #[.agg #[.int .i64 1, .string X, .int .i64 (p : Nat)], .int .i64 (i : Nat), .agg #[.int .i64 0, .int .i64 0]]) = .returned (refV p T)) := Lib.hid (by rw [← HT.out, HX.out.2.2 (by first | trivial | rfl) h32, refV_good hpi, HXT.out]; rfl)
              have hx32 : ¬ (32 : Int) < (X.size : Int) := by omega
              go_wp2
              refine bodyPost_ret (v := .tuple #[.agg #[.int .i64 1, .string X, .int .i64 (p : Nat)], .int .i64 (i : Nat), .agg #[.int .i64 0, .int .i64 0]]) (by simp [results, Tryd.results21, go_sem, z0, z1, z2, z3, z4]) rfl ?_
              refine ⟨HEQ.out, ?_⟩
              repeat (refine Fr.setCell ?_ (fun h => absurd h (by first | (show ¬ y < _; omega) | (show ¬ y + 1 < _; omega))) _)
              exact F5.out
    · have HSTOP : Hid (∀ h : i < s.size, goB s[i] = false) := Lib.hid fun h => absurd h hlt
      have hk1 : ¬ (i : Int) < (s.size : Int) := by omega
      have hrun := runB_from hpi hi1 HA.out HSTOP.out
      have HX := Lib.hid (ref_letters hp HLT.out hrun)
      obtain ⟨X, hX⟩ : ∃ X, s.extract p i = X := ⟨_, rfl⟩
      rw [hX] at HX
      have hXs : X.size = i - p := by rw [← hX, ByteArray.size_extract]; omega
      have HKW := Lib.hid (refKeyword_any X w2 (by omega))
      have HCP : Hid (∀ w', Calls Tryd.prog 36 #[.string X] w' fun e w'' => e = .returned (.string ⟨(X.data.toList.map capB).toArray⟩) ∧ Fr No w' w'') := Lib.hid fun w' => refCaps_any X w' (by omega)
      have HXT := Lib.hid (mk_toList X)
      clear hrun
      obtain ⟨D, hD⟩ : ∃ D, decide (X.data.toList.map capB ∈ kws) = D := ⟨_, rfl⟩
      rw [hD] at HX HKW
      generalize X.data.toList.map capB = C at *
      generalize X.data.toList = XL at *
      have hip : (p : Int) ≤ (i : Int) := by omega
      clear hD
      go_upto_region 7 with fail
      clear hX
      go_wp2_with fail
      refine HKW.out.mono ?_
      rintro e w3 ⟨rfl, f3⟩
      cases D with
      | true =>
        go_wp2_with fail
        refine (HCP.out w3).mono ?_
        rintro e w4 ⟨rfl, f4⟩
        have HF := Lib.hid (f3.trans f4 fun _ _ h => h)
        have HEQ : Hid (Ending.returned (.tuple #[.agg #[.int .i64 2, .string ⟨C.toArray⟩, .int .i64 (p : Nat)], .int .i64 (i : Nat), .agg #[.int .i64 0, .int .i64 0]]) = .returned (refV p T)) := Lib.hid (by rw [← HT.out, HX.out.1 (by first | trivial | rfl), refV_good hpi]; rfl)
        clear f3 f4
        have hby := HBY.out.of (HF.out.block y HBY.out.lt id)
        have hbz := HBZ.out.of (HF.out.block (y + 1) HBZ.out.lt id)
        have z0 : w4.cell? ⟨y, 0, none⟩ = some (.int .i64 0) := hby.cell 0
        have z1 : w4.cell? ⟨y, 1, none⟩ = some (.string ⟨#[]⟩) := hby.cell 1
        have z2 : w4.cell? ⟨y, 2, none⟩ = some (.int .i64 0) := hby.cell 2
        have z3 : w4.cell? ⟨y + 1, 0, none⟩ = some (.int .i64 0) := hbz.cell 0
        have z4 : w4.cell? ⟨y + 1, 1, none⟩ = some (.int .i64 0) := hbz.cell 1
        have x0 := hby.frozen 0
        have x1 := hby.frozen 1
        have x2 := hby.frozen 2
        have x3 := hbz.frozen 0
        have x4 := hbz.frozen 1
        have F5 := Lib.hid (F2.out.trans HF.out fun _ _ h => h)
        have hyw := HYW.out
        clear hby hbz
        go_wp2
        refine bodyPost_ret (v := .tuple #[.agg #[.int .i64 2, .string ⟨C.toArray⟩, .int .i64 (p : Nat)], .int .i64 (i : Nat), .agg #[.int .i64 0, .int .i64 0]]) (by simp [results, Tryd.results21, go_sem, z0, z1, z2, z3, z4]) rfl ?_
        refine ⟨HEQ.out, ?_⟩
        repeat (refine Fr.setCell ?_ (fun h => absurd h (by first | (show ¬ y < _; omega) | (show ¬ y + 1 < _; omega))) _)
        exact F5.out
      | false =>
        have HF := Lib.hid f3
        clear f3
        have hby := HBY.out.of (HF.out.block y HBY.out.lt id)
        have hbz := HBZ.out.of (HF.out.block (y + 1) HBZ.out.lt id)
        have z0 : w3.cell? ⟨y, 0, none⟩ = some (.int .i64 0) := hby.cell 0
        have z1 : w3.cell? ⟨y, 1, none⟩ = some (.string ⟨#[]⟩) := hby.cell 1
        have z2 : w3.cell? ⟨y, 2, none⟩ = some (.int .i64 0) := hby.cell 2
        have z3 : w3.cell? ⟨y + 1, 0, none⟩ = some (.int .i64 0) := hbz.cell 0
        have z4 : w3.cell? ⟨y + 1, 1, none⟩ = some (.int .i64 0) := hbz.cell 1
        have x0 := hby.frozen 0
        have x1 := hby.frozen 1
        have x2 := hby.frozen 2
        have x3 := hbz.frozen 0
        have x4 := hbz.frozen 1
        have F5 := Lib.hid (F2.out.trans HF.out fun _ _ h => h)
        have hyw := HYW.out
        clear hby hbz
        by_cases h32 : 32 < i - p
        · have HEQ : Hid (Ending.returned (.tuple #[.agg #[.int .i64 0, .string ⟨#[]⟩, .int .i64 0], .int .i64 0, .agg #[.int .i64 45, .int .i64 (p : Nat)]]) = .returned (refV p T)) := Lib.hid (by rw [← HT.out, HX.out.2.1 (by first | trivial | rfl) h32]; rfl)
          have hx32 : (32 : Int) < (X.size : Int) := by omega
          go_wp2
          refine bodyPost_ret (v := .tuple #[.agg #[.int .i64 0, .string ⟨#[]⟩, .int .i64 0], .int .i64 0, .agg #[.int .i64 45, .int .i64 (p : Nat)]]) (by simp [results, Tryd.results21, go_sem, z0, z1, z2, z3, z4]) rfl ?_
          refine ⟨HEQ.out, ?_⟩
          repeat (refine Fr.setCell ?_ (fun h => absurd h (by first | (show ¬ y < _; omega) | (show ¬ y + 1 < _; omega))) _)
          exact F5.out
        · have HEQ : Hid (Ending.returned (.tuple #[.agg #[.int .i64 1, .string X, .int .i64 (p : Nat)], .int .i64 (i : Nat), .agg #[.int .i64 0, .int .i64 0]]) = .returned (refV p T)) := Lib.hid (by rw [← HT.out, HX.out.2.2 (by first | trivial | rfl) h32, refV_good hpi, HXT.out]; rfl)
          have hx32 : ¬ (32 : Int) < (X.size : Int) := by omega
          go_wp2
          refine bodyPost_ret (v := .tuple #[.agg #[.int .i64 1, .string X, .int .i64 (p : Nat)], .int .i64 (i : Nat), .agg #[.int .i64 0, .int .i64 0]]) (by simp [results, Tryd.results21, go_sem, z0, z1, z2, z3, z4]) rfl ?_
          refine ⟨HEQ.out, ?_⟩
          repeat (refine Fr.setCell ?_ (fun h => absurd h (by first | (show ¬ y < _; omega) | (show ¬ y + 1 < _; omega))) _)
          exact F5.out
end Go.Proofs.YtaaleodffghbdaaDoor
