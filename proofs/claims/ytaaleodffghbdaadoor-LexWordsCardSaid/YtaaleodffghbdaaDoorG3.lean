/- LexKinds: the reference's keywords and names. -/
import Derived.Test.YtaaleodffghbdaaDoorG2
namespace Go.Proofs.YtaaleodffghbdaaDoor
open Go.RowKit Go.Maps
set_option linter.unusedVariables false

set_option maxRecDepth 100000 in
set_option maxHeartbeats 4000000 in
theorem refKeyword_any (s : ByteArray) (w : World) (hs : s.size ≤ 5000) : Calls Tryd.prog 16 #[.string s] w fun e w' => e = .returned (.bool (decide (s.data.toList.map capB ∈ kws))) ∧ Fr No w w' := by
  obtain ⟨y, hy⟩ : ∃ y, w.heap.size = y := ⟨_, rfl⟩
  have HC : Hid (∀ w', Calls Tryd.prog 36 #[.string s] w' fun e w'' => e = .returned (.string ⟨(s.data.toList.map capB).toArray⟩) ∧ Fr No w' w'') := Lib.hid fun w' => refCaps_any s w' hs
  have HN : Hid (∀ k (hk : k < 17), decide (s.data.toList.map capB = kwN k) = true → decide (s.data.toList.map capB ∈ kws) = true) := Lib.hid fun k hk h => by
    rw [of_decide_eq_true h]; exact decide_eq_true (kwN_mem k hk)
  have HNO : Hid ((∀ k (hk : k < 17), s.data.toList.map capB ≠ kwN k) → decide (s.data.toList.map capB ∈ kws) = false) := Lib.hid fun h => decide_eq_false fun hm => by
    obtain ⟨k, hk, e⟩ := mem_kwN hm
    exact h k hk e.symm
  generalize s.data.toList.map capB = C at *
  generalize hD : decide (C ∈ kws) = D at *
  clear hD
  obtain ⟨w1, hw1⟩ : ∃ w1, w.alloc (.cells kwsV 9) = w1 := ⟨_, rfl⟩
  have hb1 : Blk w1 y 9 kwsV := by rw [← hw1, ← hy]; exact Blk.new w 9 _
  have HB1 := Lib.hid hb1
  have F1 : Hid (Fr No w w1) := Lib.hid (by rw [← hw1]; exact (Fr.refl No w).alloc _)
  have HW1 := Lib.hid hw1
  have HY := Lib.hid hy
  clear hb1 hw1 hy
  go_enter Tryd.func16, Tryd.ntmps16
  go_upto_region 2 with fail
  have he : w.alloc (.cells #[.string ⟨#[83, 69, 76, 69, 67, 84]⟩, .string ⟨#[70, 82, 79, 77]⟩, .string ⟨#[87, 72, 69, 82, 69]⟩, .string ⟨#[71, 82, 79, 85, 80]⟩, .string ⟨#[66, 89]⟩, .string ⟨#[82, 79, 76, 76, 85, 80]⟩, .string ⟨#[67, 85, 66, 69]⟩, .string ⟨#[71, 82, 79, 85, 80, 73, 78, 71]⟩, .string ⟨#[83, 69, 84, 83]⟩, .string ⟨#[67, 79, 85, 78, 84]⟩, .string ⟨#[83, 85, 77]⟩, .string ⟨#[77, 73, 78]⟩, .string ⟨#[77, 65, 88]⟩, .string ⟨#[65, 78, 68]⟩, .string ⟨#[79, 82]⟩, .string ⟨#[78, 79, 84]⟩, .string ⟨#[73, 78]⟩] 9) = w1 := HW1.out
  rw [he, HY.out]
  clear he
  go_wp2_with fail
  refine (HC.out w1).mono ?_
  rintro e w2 ⟨rfl, f2⟩
  have HB2 : Hid (Blk w2 y 9 kwsV) := Lib.hid (HB1.out.of (f2.block y HB1.out.lt id))
  have F2 := Lib.hid (F1.out.trans f2 fun _ _ h => h)
  clear f2
  go_wp2
  go_loop [5] (fun iv => ∃ k : Nat, k ≤ 17 ∧ iv = .int .i64 (k : Nat) ∧ Hid (∀ j (hj : j < 17), j < k → C ≠ kwN j)) (fun iv => 17 - (intOf iv).toNat)
  case atStart => exact ⟨0, Nat.zero_le _, rfl, Lib.hid (fun j h hj => by omega)⟩
  case round =>
    obtain ⟨k, hk, rfl, HNE⟩ := hrel
    by_cases hlt : k < 17
    · have c0 : w2.cell? ⟨y, k, none⟩ = some (.string ⟨(kwN k).toArray⟩) := (HB2.out.cell k).trans (kwsV_at hlt)
      have HNX : Hid (¬ C = kwN k → ∀ j (hj : j < 17), j < k + 1 → C ≠ kwN j) := Lib.hid fun h j hj hjk => by
        rcases Nat.lt_or_eq_of_le (Nat.le_of_lt_succ hjk) with h3 | rfl
        · exact HNE.out j hj h3
        · exact h
      have HYS := Lib.hid (HN.out k hlt)
      have hk0 : (0 : Int) ≤ (k : Int) := by omega
      have hk1 : (k : Int) < 17 := by omega
      clear HNE
      generalize kwN k = t at *
      by_cases hq : C = t
      · subst hq
        obtain rfl : D = true := HYS.out (by simp)
        go_wp2
        go_ret
        exact ⟨rfl, F2.out⟩
      · have hq2 : (t == C) = false := by simp; exact fun h => hq h.symm
        have HNX2 := Lib.hid (HNX.out hq)
        clear hq
        go_wp2
        refine ⟨⟨k + 1, by omega, by go_num, HNX2⟩, by simp [intOf]; omega⟩
    · obtain rfl : k = 17 := by omega
      obtain rfl : D = false := HNO.out fun j hj => HNE.out j hj hj
      go_wp2
      go_ret
      exact ⟨rfl, F2.out⟩
set_option maxRecDepth 100000 in
set_option maxHeartbeats 4000000 in
theorem refName_any (s : ByteArray) (w : World) (hs : s.size ≤ 5000) : Calls Tryd.prog 14 #[.string s] w fun e w' => e = .returned (.bool (nameB s.data.toList)) ∧ Fr No w w' := by
  have HK := Lib.hid (refKeyword_any s w hs)
  have HL : Hid (∀ b : UInt8, Calls Tryd.prog 33 #[.int .u8 (b.toNat : Nat)] w fun e w' => e = .returned (.bool (isLet b)) ∧ w = w') := Lib.hid fun b => refLetter_any b w
  have HDG : Hid (∀ b : UInt8, Calls Tryd.prog 34 #[.int .u8 (b.toNat : Nat)] w fun e w' => e = .returned (.bool (isDig b)) ∧ w = w') := Lib.hid fun b => refDigit_any b w
  rcases Nat.eq_zero_or_pos s.size with h0 | h0
  · have e : s = ⟨#[]⟩ := by
      apply ByteArray.ext
      exact Array.eq_empty_of_size_eq_zero h0
    subst e
    go_enter Tryd.func14, Tryd.ntmps14
    go_wp2
    go_ret
    exact ⟨rfl, Fr.refl _ _⟩
  · have hne : s.toList.isEmpty = false := by
      rw [ByteArray.toList_eq]
      cases hl : s.data.toList with
      | nil => exact absurd (len_data s) (by rw [hl]; simp; omega)
      | cons _ _ => rfl
    have hl0 : 0 < s.data.toList.length := by rw [len_data]; exact h0
    have hfst : firstB s.data.toList = kindB (s[0]'h0) := by
      have : s.data.toList = s.data.toList[0] :: s.data.toList.drop 1 := by
        rw [← List.drop_eq_getElem_cons hl0, List.drop_zero]
      rw [this]; rfl
    by_cases hbig : 32 < s.size
    · have HV : Hid (nameB s.data.toList = false) := Lib.hid (by unfold nameB; rw [len_data]; exact decide_eq_false fun h => by omega)
      clear hfst hl0
      go_enter Tryd.func14, Tryd.ntmps14
      go_wp2
      go_ret
      exact ⟨ret_bool (by rw [HV.out]), Fr.refl _ _⟩
    · have hb0 := u8_lt (s[0]'h0)
      cases hlet : isLet (s[0]'h0) with
      | false =>
        have HV : Hid (nameB s.data.toList = false) := Lib.hid (by
          unfold nameB
          rw [hfst]
          refine decide_eq_false fun h => ?_
          rw [(kind_let _).1 h.2.1] at hlet
          cases hlet)
        have HLT := Lib.hid hlet
        clear hfst hl0 hlet
        go_enter Tryd.func14, Tryd.ntmps14
        go_wp2_with fail
        refine (HL.out _).mono ?_
        rintro e w' ⟨rfl, rfl⟩
        rw [HLT.out]
        go_wp2
        go_ret
        exact ⟨ret_bool (by rw [HV.out]), Fr.refl _ _⟩
      | true =>
        have HLT := Lib.hid hlet
        have HBAD : Hid (∀ k (hk : k < s.size), goB s[k] = false → AllTo goB s k → nameB s.data.toList = false) := Lib.hid fun k hk hg ha => by
          unfold nameB
          refine decide_eq_false fun h => ?_
          have := runB_to (by omega) ha (fun _ => hg)
          rw [len_data] at h
          omega
        have HGOOD : Hid (AllTo goB s s.size → nameB s.data.toList = !decide (s.data.toList.map capB ∈ kws)) := Lib.hid fun ha => by
          have h1 := runB_to (Nat.le_refl _) ha (fun h => absurd h (by omega))
          unfold nameB
          rw [len_data, h1, hfst, (kind_let _).2 hlet]
          simp
          omega
        have HGO : Hid (∀ b, goB b = (isLet b || isDig b)) := Lib.hid fun _ => rfl
        generalize nameB s.data.toList = V at *
        generalize decide (s.data.toList.map capB ∈ kws) = D at *
        clear hfst hl0 hlet
        go_enter Tryd.func14, Tryd.ntmps14
        go_wp2_with fail
        refine (HL.out _).mono ?_
        rintro e w' ⟨rfl, rfl⟩
        rw [HLT.out]
        go_wp2
        go_loop [3] (fun iv => ∃ k : Nat, k ≤ s.size ∧ iv = .int .i64 (k : Nat) ∧ Hid (AllTo goB s k)) (fun iv => s.size - (intOf iv).toNat)
        case atStart => exact ⟨0, Nat.zero_le _, rfl, Lib.hid (AllTo.zero _ _)⟩
        case round =>
          obtain ⟨k, hk, rfl, HA⟩ := hrel
          by_cases hlt : k < s.size
          · have hb := u8_lt s[k]
            have hk0 : (0 : Int) ≤ (k : Int) := by omega
            have hk1 : (k : Int) < (s.size : Int) := by omega
            have HGK := Lib.hid (HGO.out s[k])
            have HNX := Lib.hid (HA.out.succ hlt)
            have HBK : Hid (goB s[k] = false → V = false) := Lib.hid fun h => HBAD.out k hlt h HA.out
            have HLK := Lib.hid (HL.out s[k])
            have HDK := Lib.hid (HDG.out s[k])
            clear HA
            generalize goB s[k] = G at *
            generalize isLet s[k] = L1 at *
            generalize isDig s[k] = D1 at *
            cases L1 with
            | true =>
              obtain rfl : G = true := HGK.out
              go_wp2_with fail
              refine HLK.out.mono ?_
              rintro e w' ⟨rfl, rfl⟩
              go_wp2
              refine ⟨⟨k + 1, by omega, by go_num, Lib.hid (HNX.out trivial)⟩, by simp [intOf]; omega⟩
            | false =>
              obtain rfl : G = D1 := by have := HGK.out; simpa using this
              go_wp2_with fail
              refine HLK.out.mono ?_
              rintro e w' ⟨rfl, rfl⟩
              go_wp2_with fail
              refine HDK.out.mono ?_
              rintro e w' ⟨rfl, rfl⟩
              cases G with
              | true =>
                go_wp2
                refine ⟨⟨k + 1, by omega, by go_num, Lib.hid (HNX.out trivial)⟩, by simp [intOf]; omega⟩
              | false =>
                have HVF := Lib.hid (HBK.out rfl)
                go_wp2
                go_ret
                exact ⟨ret_bool (by rw [HVF.out]), Fr.refl _ _⟩
          · obtain rfl : k = s.size := by omega
            have HVV := Lib.hid (HGOOD.out HA.out)
            go_wp2_with fail
            refine HK.out.mono ?_
            rintro e w' ⟨rfl, f⟩
            have F := Lib.hid f
            clear f
            go_wp2
            go_ret
            exact ⟨ret_bool (by rw [HVV.out]), F.out⟩
end Go.Proofs.YtaaleodffghbdaaDoor
