/- LexWords: the reference's words, walked: digits. -/
import Derived.Test.YtaaleodffghbdaaDoorH4
namespace Go.Proofs.YtaaleodffghbdaaDoor
open Go.RowKit Go.Maps
set_option linter.unusedVariables false

theorem u8_48 : ∀ b : UInt8, b.toNat = 48 ↔ b = 48 := all_bytes (p := fun b => b.toNat = 48 ↔ b = 48) (by decide +kernel)
theorem dig_let : ∀ b : UInt8, isDig b = true → isLet b = false := all_bytes (p := fun b => isDig b = true → isLet b = false) (by decide +kernel)
set_option maxRecDepth 100000 in
set_option maxHeartbeats 16000000 in
theorem refDigits_any (s : ByteArray) (p : Nat) (w : World) (hs : s.size ≤ 4096) (hp : p < s.size) (hdig : isDig s[p] = true) : Calls Tryd.prog 21 #[.string s, .int .i64 (p : Nat)] w (RefP p (wordT (s.data.toList.drop p)) w) := by
  have HDT := Lib.hid hdig
  obtain ⟨T, hT⟩ : ∃ T, wordT (s.data.toList.drop p) = T := ⟨_, rfl⟩
  rw [hT]
  have HT := Lib.hid hT
  obtain ⟨y, hy⟩ : ∃ y, w.heap.size = y := ⟨_, rfl⟩
  obtain ⟨w1, hw1⟩ : ∃ w1, w.alloc (.cells #[.int .i64 0, .string ⟨#[]⟩, .int .i64 0] 31) = w1 := ⟨_, rfl⟩
  have hb1 : Blk w1 y 31 #[.int .i64 0, .string ⟨#[]⟩, .int .i64 0] := by rw [← hw1, ← hy]; exact Blk.new w 31 _
  have hz1' : w1.heap.size = y + 1 := by rw [← hw1, ← hy]; simp
  obtain ⟨w2, hw2⟩ : ∃ w2, w1.alloc (.cells #[.int .i64 0, .int .i64 0] 26) = w2 := ⟨_, rfl⟩
  have hb2 : Blk w2 (y + 1) 26 #[.int .i64 0, .int .i64 0] := by rw [← hw2, ← hz1']; exact Blk.new w1 26 _
  have f12 : Fr No w1 w2 := by rw [← hw2]; exact (Fr.refl No w1).alloc _
  have f01 : Fr No w w1 := by rw [← hw1]; exact (Fr.refl No w).alloc _
  have HBY : Hid (Blk w2 y 31 #[.int .i64 0, .string ⟨#[]⟩, .int .i64 0]) := Lib.hid (hb1.of (f12.block y hb1.lt id))
  have HBZ := Lib.hid hb2
  have F2 := Lib.hid (f01.trans f12 fun _ _ h => h)
  have HW1 := Lib.hid hw1
  have HW2 := Lib.hid hw2
  have HYW : Hid (w.heap.size ≤ y) := Lib.hid (by omega)
  have HY := Lib.hid hy
  have HL : Hid (∀ b : UInt8, Calls Tryd.prog 33 #[.int .u8 (b.toNat : Nat)] w2 fun e w' => e = .returned (.bool (isLet b)) ∧ w2 = w') := Lib.hid fun b => refLetter_any b w2
  have HDG : Hid (∀ b : UInt8, Calls Tryd.prog 34 #[.int .u8 (b.toNat : Nat)] w2 fun e w' => e = .returned (.bool (isDig b)) ∧ w2 = w') := Lib.hid fun b => refDigit_any b w2
  clear hy hw1 hb1 hz1' hw2 hb2 f12 f01
  have hbp := u8_lt s[p]
  have HLP := Lib.hid (HL.out s[p])
  rw [dig_let _ hdig] at HLP
  have HDP := Lib.hid (HDG.out s[p])
  rw [hdig] at HDP
  have hp1 : (p : Int) < (s.size : Int) := by omega
  clear hT hdig
  go_enter Tryd.func21, Tryd.ntmps21
  go_upto_region 1 with fail
  rw [HY.out, HW1.out, HW2.out]
  go_wp2_with (first | (go_at_call 33; refine HLP.out.mono ?_; rintro e w' ⟨rfl, rfl⟩) | (go_at_call 34; refine HDP.out.mono ?_; rintro e w' ⟨rfl, rfl⟩))
  go_loop [8] (fun iv => ∃ i : Nat, iv = .int .i64 (i : Nat) ∧ p ≤ i ∧ i ≤ s.size ∧ Hid (AllFrom isDig s p i)) (fun iv => s.size - (intOf iv).toNat)
  case atStart => exact ⟨p, rfl, Nat.le_refl _, by omega, Lib.hid (AllFrom.start _ _ _)⟩
  case round =>
    obtain ⟨i, rfl, hpi, hi1, HA⟩ := hrel
    by_cases hlt : i < s.size
    · have hb := u8_lt s[i]
      have hk0 : (0 : Int) ≤ (i : Int) := by omega
      have hk1 : (i : Int) < (s.size : Int) := by omega
      have HNX := Lib.hid (HA.out.next hlt)
      have HLK := Lib.hid (HL.out s[i])
      have HDK := Lib.hid (HDG.out s[i])
      have HSI : Hid (isDig s[i] = false → ∀ h : i < s.size, isDig s[i] = false) := Lib.hid fun h _ => h
      have HYLI : Hid (isLet s[i] = true → ∃ h : i < s.size, isLet s[i] = true) := Lib.hid fun h => ⟨hlt, h⟩
      have HNLI : Hid (isLet s[i] = false → ∀ h : i < s.size, isLet s[i] = false) := Lib.hid fun h _ => h
      generalize isLet s[i] = L1 at HLK HYLI HNLI
      generalize isDig s[i] = D1 at HDK HNX HSI
      cases D1 with
      | true =>
        go_wp2_with fail
        refine HDK.out.mono ?_
        rintro e w' ⟨rfl, rfl⟩
        go_wp2
        refine ⟨⟨i + 1, by go_num, by omega, by omega, Lib.hid (HNX.out (by first | trivial | rfl))⟩, by simp [intOf]; omega⟩
      | false =>
        have HSTOP := Lib.hid (HSI.out (by first | trivial | rfl))
        clear HNX
        have hrun := runB_from hpi hi1 HA.out HSTOP.out
        have HX := Lib.hid (ref_digits hp HDT.out hrun hpi)
        obtain ⟨X, hX⟩ : ∃ X, s.extract p i = X := ⟨_, rfl⟩
        rw [hX] at HX
        have HXT := Lib.hid (mk_toList X)
        clear hrun
        generalize X.data.toList = XL at *
        have hip : (p : Int) ≤ (i : Int) := by omega
        have HF : Hid (Fr No w2 w2) := Lib.hid (Fr.refl _ _)
        have hby := HBY.out.of (HF.out.block y HBY.out.lt id)
        have hbz := HBZ.out.of (HF.out.block (y + 1) HBZ.out.lt id)
        have z0 : w2.cell? ⟨y, 0, none⟩ = some (.int .i64 0) := hby.cell 0
        have z1 : w2.cell? ⟨y, 1, none⟩ = some (.string ⟨#[]⟩) := hby.cell 1
        have z2 : w2.cell? ⟨y, 2, none⟩ = some (.int .i64 0) := hby.cell 2
        have z3 : w2.cell? ⟨y + 1, 0, none⟩ = some (.int .i64 0) := hbz.cell 0
        have z4 : w2.cell? ⟨y + 1, 1, none⟩ = some (.int .i64 0) := hbz.cell 1
        have x0 := hby.frozen 0
        have x1 := hby.frozen 1
        have x2 := hby.frozen 2
        have x3 := hbz.frozen 0
        have x4 := hbz.frozen 1
        have F5 := Lib.hid (F2.out.trans HF.out fun _ _ h => h)
        have hyw := HYW.out
        clear hby hbz
        by_cases h1 : 1 < i - p ∧ s[p] = 48
        · have HEQ : Hid (Ending.returned (.tuple #[.agg #[.int .i64 0, .string ⟨#[]⟩, .int .i64 0], .int .i64 0, .agg #[.int .i64 40, .int .i64 (p : Nat)]]) = .returned (refV p T)) := Lib.hid (by rw [← HT.out, HX.out.1 h1.1 h1.2]; rfl)
          have h48 : ((s[p].toNat : Int) == 48) = true := by have := (u8_48 _).2 h1.2; simp; omega
          have hx1 : (1 : Int) < (i : Int) - (p : Int) := by omega
          clear hX h1
          go_wp2_with (first | (go_at_call 34; refine HDK.out.mono ?_; rintro e w' ⟨rfl, rfl⟩) | (go_at_call 33; refine HLK.out.mono ?_; rintro e w' ⟨rfl, rfl⟩))
          refine bodyPost_ret (v := .tuple #[.agg #[.int .i64 0, .string ⟨#[]⟩, .int .i64 0], .int .i64 0, .agg #[.int .i64 40, .int .i64 (p : Nat)]]) (by simp [results, Tryd.results21, go_sem, z0, z1, z2, z3, z4]) rfl ?_
          refine ⟨HEQ.out, ?_⟩
          repeat (refine Fr.setCell ?_ (fun h => absurd h (by first | (show ¬ y < _; omega) | (show ¬ y + 1 < _; omega))) _)
          exact F5.out
        · have HSEL : Hid (∀ {P : Prop}, (1 < i - p → ((s[p].toNat : Int) == 48) = false → P) → (¬ 1 < i - p → P) → P) := Lib.hid fun f g => by
            by_cases hq : 1 < i - p
            · refine f hq ?_
              have h39 : ¬ s[p].toNat = 48 := fun e => h1 ⟨hq, (u8_48 _).1 e⟩
              simp; omega
            · exact g hq
          by_cases h19 : 19 < i - p
          · have HEQ : Hid (Ending.returned (.tuple #[.agg #[.int .i64 0, .string ⟨#[]⟩, .int .i64 0], .int .i64 0, .agg #[.int .i64 45, .int .i64 (p : Nat)]]) = .returned (refV p T)) := Lib.hid (by rw [← HT.out, HX.out.2.1 h1 h19]; rfl)
            have hx19 : (19 : Int) < (i : Int) - (p : Int) := by omega
            clear hX h1
            refine HSEL.out (fun hq h48 => ?_) (fun hq => ?_)
            · have hx1 : (1 : Int) < (i : Int) - (p : Int) := by omega
              go_wp2_with (first | (go_at_call 34; refine HDK.out.mono ?_; rintro e w' ⟨rfl, rfl⟩) | (go_at_call 33; refine HLK.out.mono ?_; rintro e w' ⟨rfl, rfl⟩))
              refine bodyPost_ret (v := .tuple #[.agg #[.int .i64 0, .string ⟨#[]⟩, .int .i64 0], .int .i64 0, .agg #[.int .i64 45, .int .i64 (p : Nat)]]) (by simp [results, Tryd.results21, go_sem, z0, z1, z2, z3, z4]) rfl ?_
              refine ⟨HEQ.out, ?_⟩
              repeat (refine Fr.setCell ?_ (fun h => absurd h (by first | (show ¬ y < _; omega) | (show ¬ y + 1 < _; omega))) _)
              exact F5.out
            · exact absurd (show 1 < i - p by omega) hq
          · have hx19 : ¬ (19 : Int) < (i : Int) - (p : Int) := by omega
            cases L1 with
            | true =>
              have HYL := Lib.hid (HYLI.out (by first | trivial | rfl))
              have HEQ : Hid (Ending.returned (.tuple #[.agg #[.int .i64 0, .string ⟨#[]⟩, .int .i64 0], .int .i64 0, .agg #[.int .i64 40, .int .i64 (i : Nat)]]) = .returned (refV p T)) := Lib.hid (by rw [← HT.out, HX.out.2.2.1 h1 h19 HYL.out]; show _ = Ending.returned (.tuple #[_, _, .agg #[_, .int .i64 ((p + (i - p) : Nat) : Int)]]); rw [show p + (i - p) = i by omega]; rfl)
              clear h1 hX
              refine HSEL.out (fun hq h48 => ?_) (fun hq => ?_)
              · have hx1 : (1 : Int) < (i : Int) - (p : Int) := by omega
                go_wp2_with (first | (go_at_call 34; refine HDK.out.mono ?_; rintro e w' ⟨rfl, rfl⟩) | (go_at_call 33; refine HLK.out.mono ?_; rintro e w' ⟨rfl, rfl⟩))
                refine bodyPost_ret (v := .tuple #[.agg #[.int .i64 0, .string ⟨#[]⟩, .int .i64 0], .int .i64 0, .agg #[.int .i64 40, .int .i64 (i : Nat)]]) (by simp [results, Tryd.results21, go_sem, z0, z1, z2, z3, z4]) rfl ?_
                refine ⟨HEQ.out, ?_⟩
                repeat (refine Fr.setCell ?_ (fun h => absurd h (by first | (show ¬ y < _; omega) | (show ¬ y + 1 < _; omega))) _)
                exact F5.out
              · have hx1 : ¬ (1 : Int) < (i : Int) - (p : Int) := by omega
                go_wp2_with (first | (go_at_call 34; refine HDK.out.mono ?_; rintro e w' ⟨rfl, rfl⟩) | (go_at_call 33; refine HLK.out.mono ?_; rintro e w' ⟨rfl, rfl⟩))
                refine bodyPost_ret (v := .tuple #[.agg #[.int .i64 0, .string ⟨#[]⟩, .int .i64 0], .int .i64 0, .agg #[.int .i64 40, .int .i64 (i : Nat)]]) (by simp [results, Tryd.results21, go_sem, z0, z1, z2, z3, z4]) rfl ?_
                refine ⟨HEQ.out, ?_⟩
                repeat (refine Fr.setCell ?_ (fun h => absurd h (by first | (show ¬ y < _; omega) | (show ¬ y + 1 < _; omega))) _)
                exact F5.out
            | false =>
              have HNL := Lib.hid (HNLI.out (by first | trivial | rfl))
              have HEQ : Hid (Ending.returned (.tuple #[.agg #[.int .i64 3, .string X, .int .i64 (p : Nat)], .int .i64 (i : Nat), .agg #[.int .i64 0, .int .i64 0]]) = .returned (refV p T)) := Lib.hid (by rw [← HT.out, HX.out.2.2.2 h1 h19 HNL.out, refV_good hpi, HXT.out]; rfl)
              clear h1
              refine HSEL.out (fun hq h48 => ?_) (fun hq => ?_)
              · have hx1 : (1 : Int) < (i : Int) - (p : Int) := by omega
                go_wp2_with (first | (go_at_call 34; refine HDK.out.mono ?_; rintro e w' ⟨rfl, rfl⟩) | (go_at_call 33; refine HLK.out.mono ?_; rintro e w' ⟨rfl, rfl⟩))
                refine bodyPost_ret (v := .tuple #[.agg #[.int .i64 3, .string X, .int .i64 (p : Nat)], .int .i64 (i : Nat), .agg #[.int .i64 0, .int .i64 0]]) (by simp [results, Tryd.results21, go_sem, z0, z1, z2, z3, z4]) rfl ?_
                refine ⟨HEQ.out, ?_⟩
                repeat (refine Fr.setCell ?_ (fun h => absurd h (by first | (show ¬ y < _; omega) | (show ¬ y + 1 < _; omega))) _)
                exact F5.out
              · have hx1 : ¬ (1 : Int) < (i : Int) - (p : Int) := by omega
                go_wp2_with (first | (go_at_call 34; refine HDK.out.mono ?_; rintro e w' ⟨rfl, rfl⟩) | (go_at_call 33; refine HLK.out.mono ?_; rintro e w' ⟨rfl, rfl⟩))
                refine bodyPost_ret (v := .tuple #[.agg #[.int .i64 3, .string X, .int .i64 (p : Nat)], .int .i64 (i : Nat), .agg #[.int .i64 0, .int .i64 0]]) (by simp [results, Tryd.results21, go_sem, z0, z1, z2, z3, z4]) rfl ?_
                refine ⟨HEQ.out, ?_⟩
                repeat (refine Fr.setCell ?_ (fun h => absurd h (by first | (show ¬ y < _; omega) | (show ¬ y + 1 < _; omega))) _)
                exact F5.out
    · have HSTOP : Hid (∀ h : i < s.size, isDig s[i] = false) := Lib.hid fun h => absurd h hlt
      have hk1 : ¬ (i : Int) < (s.size : Int) := by omega
      have hrun := runB_from hpi hi1 HA.out HSTOP.out
      have HX := Lib.hid (ref_digits hp HDT.out hrun hpi)
      obtain ⟨X, hX⟩ : ∃ X, s.extract p i = X := ⟨_, rfl⟩
      rw [hX] at HX
      have HXT := Lib.hid (mk_toList X)
      clear hrun
      generalize X.data.toList = XL at *
      have hip : (p : Int) ≤ (i : Int) := by omega
      have HF : Hid (Fr No w2 w2) := Lib.hid (Fr.refl _ _)
      have hby := HBY.out.of (HF.out.block y HBY.out.lt id)
      have hbz := HBZ.out.of (HF.out.block (y + 1) HBZ.out.lt id)
      have z0 : w2.cell? ⟨y, 0, none⟩ = some (.int .i64 0) := hby.cell 0
      have z1 : w2.cell? ⟨y, 1, none⟩ = some (.string ⟨#[]⟩) := hby.cell 1
      have z2 : w2.cell? ⟨y, 2, none⟩ = some (.int .i64 0) := hby.cell 2
      have z3 : w2.cell? ⟨y + 1, 0, none⟩ = some (.int .i64 0) := hbz.cell 0
      have z4 : w2.cell? ⟨y + 1, 1, none⟩ = some (.int .i64 0) := hbz.cell 1
      have x0 := hby.frozen 0
      have x1 := hby.frozen 1
      have x2 := hby.frozen 2
      have x3 := hbz.frozen 0
      have x4 := hbz.frozen 1
      have F5 := Lib.hid (F2.out.trans HF.out fun _ _ h => h)
      have hyw := HYW.out
      clear hby hbz
      by_cases h1 : 1 < i - p ∧ s[p] = 48
      · have HEQ : Hid (Ending.returned (.tuple #[.agg #[.int .i64 0, .string ⟨#[]⟩, .int .i64 0], .int .i64 0, .agg #[.int .i64 40, .int .i64 (p : Nat)]]) = .returned (refV p T)) := Lib.hid (by rw [← HT.out, HX.out.1 h1.1 h1.2]; rfl)
        have h48 : ((s[p].toNat : Int) == 48) = true := by have := (u8_48 _).2 h1.2; simp; omega
        have hx1 : (1 : Int) < (i : Int) - (p : Int) := by omega
        clear hX h1
        go_wp2_with fail
        refine bodyPost_ret (v := .tuple #[.agg #[.int .i64 0, .string ⟨#[]⟩, .int .i64 0], .int .i64 0, .agg #[.int .i64 40, .int .i64 (p : Nat)]]) (by simp [results, Tryd.results21, go_sem, z0, z1, z2, z3, z4]) rfl ?_
        refine ⟨HEQ.out, ?_⟩
        repeat (refine Fr.setCell ?_ (fun h => absurd h (by first | (show ¬ y < _; omega) | (show ¬ y + 1 < _; omega))) _)
        exact F5.out
      · have HSEL : Hid (∀ {P : Prop}, (1 < i - p → ((s[p].toNat : Int) == 48) = false → P) → (¬ 1 < i - p → P) → P) := Lib.hid fun f g => by
          by_cases hq : 1 < i - p
          · refine f hq ?_
            have h39 : ¬ s[p].toNat = 48 := fun e => h1 ⟨hq, (u8_48 _).1 e⟩
            simp; omega
          · exact g hq
        by_cases h19 : 19 < i - p
        · have HEQ : Hid (Ending.returned (.tuple #[.agg #[.int .i64 0, .string ⟨#[]⟩, .int .i64 0], .int .i64 0, .agg #[.int .i64 45, .int .i64 (p : Nat)]]) = .returned (refV p T)) := Lib.hid (by rw [← HT.out, HX.out.2.1 h1 h19]; rfl)
          have hx19 : (19 : Int) < (i : Int) - (p : Int) := by omega
          clear hX h1
          refine HSEL.out (fun hq h48 => ?_) (fun hq => ?_)
          · have hx1 : (1 : Int) < (i : Int) - (p : Int) := by omega
            go_wp2_with fail
            refine bodyPost_ret (v := .tuple #[.agg #[.int .i64 0, .string ⟨#[]⟩, .int .i64 0], .int .i64 0, .agg #[.int .i64 45, .int .i64 (p : Nat)]]) (by simp [results, Tryd.results21, go_sem, z0, z1, z2, z3, z4]) rfl ?_
            refine ⟨HEQ.out, ?_⟩
            repeat (refine Fr.setCell ?_ (fun h => absurd h (by first | (show ¬ y < _; omega) | (show ¬ y + 1 < _; omega))) _)
            exact F5.out
          · exact absurd (show 1 < i - p by omega) hq
        · have hx19 : ¬ (19 : Int) < (i : Int) - (p : Int) := by omega
          have HNL : Hid (∀ h : i < s.size, isLet s[i] = false) := Lib.hid fun h => absurd h hlt
          have HEQ : Hid (Ending.returned (.tuple #[.agg #[.int .i64 3, .string X, .int .i64 (p : Nat)], .int .i64 (i : Nat), .agg #[.int .i64 0, .int .i64 0]]) = .returned (refV p T)) := Lib.hid (by rw [← HT.out, HX.out.2.2.2 h1 h19 HNL.out, refV_good hpi, HXT.out]; rfl)
          clear h1
          refine HSEL.out (fun hq h48 => ?_) (fun hq => ?_)
          · have hx1 : (1 : Int) < (i : Int) - (p : Int) := by omega
            go_wp2_with fail
            refine bodyPost_ret (v := .tuple #[.agg #[.int .i64 3, .string X, .int .i64 (p : Nat)], .int .i64 (i : Nat), .agg #[.int .i64 0, .int .i64 0]]) (by simp [results, Tryd.results21, go_sem, z0, z1, z2, z3, z4]) rfl ?_
            refine ⟨HEQ.out, ?_⟩
            repeat (refine Fr.setCell ?_ (fun h => absurd h (by first | (show ¬ y < _; omega) | (show ¬ y + 1 < _; omega))) _)
            exact F5.out
          · have hx1 : ¬ (1 : Int) < (i : Int) - (p : Int) := by omega
            go_wp2_with fail
            refine bodyPost_ret (v := .tuple #[.agg #[.int .i64 3, .string X, .int .i64 (p : Nat)], .int .i64 (i : Nat), .agg #[.int .i64 0, .int .i64 0]]) (by simp [results, Tryd.results21, go_sem, z0, z1, z2, z3, z4]) rfl ?_
            refine ⟨HEQ.out, ?_⟩
            repeat (refine Fr.setCell ?_ (fun h => absurd h (by first | (show ¬ y < _; omega) | (show ¬ y + 1 < _; omega))) _)
            exact F5.out
end Go.Proofs.YtaaleodffghbdaaDoor
