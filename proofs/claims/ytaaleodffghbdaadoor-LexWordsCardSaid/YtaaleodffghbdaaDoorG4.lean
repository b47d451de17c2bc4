/- LexKinds, walked. -/
import Derived.Test.YtaaleodffghbdaaDoorG3
namespace Go.Proofs.YtaaleodffghbdaaDoor
open Go.RowKit Go.Maps
set_option linter.unusedVariables false

theorem dbl_app : ∀ a b : Tx, dbl (a ++ b) = dbl a ++ dbl b
  | [], b => rfl
  | c :: a, b => by
    rw [List.cons_append, dbl_cons, dbl_cons, dbl_app a b]
    split <;> rfl
theorem dbl_len2 : ∀ t : Tx, (dbl t).length ≤ 2 * t.length
  | [] => Nat.le_refl _
  | b :: t => by
    have := dbl_len2 t
    rw [dbl_cons]; split <;> simp <;> omega
theorem dbl_step (s : ByteArray) (k : Nat) (hk : k < s.size) : dbl (s.data.toList.take (k + 1)) = dbl (s.data.toList.take k) ++ if s[k] = 39 then [39, 39] else [s[k]] := by
  have hl : k < s.data.toList.length := by rw [len_data]; exact hk
  rw [List.take_add_one, List.getElem?_eq_getElem hl, dbl_app]
  congr 1
theorem one_ext (s : ByteArray) (k : Nat) (hk : k < s.size) : s.extract k (k + 1) = ⟨[s[k]].toArray⟩ := mk_eq (by
  have hl : k < s.data.toList.length := by rw [len_data]; exact hk
  rw [ext_toList, List.take_add_one, List.getElem?_eq_getElem hl, List.drop_append_of_le_length (by rw [List.length_take]; omega), List.drop_of_length_le (by rw [List.length_take]; omega)]
  rfl)
theorem u8_39 : ∀ b : UInt8, b.toNat = 39 ↔ b = 39 := all_bytes (p := fun b => b.toNat = 39 ↔ b = 39) (by decide +kernel)
set_option maxRecDepth 100000 in
set_option maxHeartbeats 4000000 in
theorem refQuote_any (s : ByteArray) (w : World) (hs : s.size ≤ 5000) : Calls Tryd.prog 18 #[.string s] w fun e w' => e = .returned (.string ⟨(quoteB s.data.toList).toArray⟩) ∧ w = w' := by
  obtain ⟨Z, hZ⟩ : ∃ Z : Nat → Tx, ∀ k, 39 :: dbl (s.data.toList.take k) = Z k := ⟨fun k => 39 :: dbl (s.data.toList.take k), fun _ => rfl⟩
  have z0 : Z 0 = [39] := by rw [← hZ]; rfl
  have HZN : Hid (∀ k (hk : k < s.size), Z (k + 1) = Z k ++ if s[k] = 39 then [39, 39] else [s[k]]) := Lib.hid fun k hk => by
    rw [← hZ, ← hZ, dbl_step s k hk]; rfl
  have HZL : Hid (∀ k, (Z k).length ≤ 10001) := Lib.hid fun k => by
    rw [← hZ]
    have h1 := dbl_len2 (s.data.toList.take k)
    have h2 : (s.data.toList.take k).length ≤ s.size := by rw [List.length_take, len_data]; omega
    simp only [List.length_cons]
    omega
  have HQ : Hid (quoteB s.data.toList = Z s.size ++ [39]) := Lib.hid (by
    rw [← hZ, List.take_of_length_le (by rw [len_data]; omega)]; rfl)
  have HO := Lib.hid (one_ext s)
  have HZ0 := Lib.hid z0
  clear hZ z0
  go_enter Tryd.func18, Tryd.ntmps18
  go_wp2
  go_loop [3, 4] (fun sv iv => ∃ k : Nat, iv = .int .i64 (k : Nat) ∧ k ≤ s.size ∧ sv = .string ⟨(Z k).toArray⟩) (fun _ iv => s.size - (intOf iv).toNat)
  case atStart => exact ⟨0, rfl, Nat.zero_le _, by rw [HZ0.out]⟩
  case round =>
    obtain ⟨k, rfl, hk, rfl⟩ := hrel
    have hzl := HZL.out k
    by_cases hlt : k < s.size
    · have hk0 : (0 : Int) ≤ (k : Int) := by omega
      have hk1 : (k : Int) < (s.size : Int) := by omega
      have hk2 : (k : Int) + 1 ≤ (s.size : Int) := by omega
      have hb := u8_lt s[k]
      have hzn := HZN.out k hlt
      have ho := HO.out k hlt
      obtain ⟨gb, hgb⟩ : ∃ gb, s.extract k (k + 1) = gb := ⟨_, rfl⟩
      rw [hgb] at ho
      by_cases hq : s[k] = 39
      · have hq2 : ((s[k].toNat : Int) == 39) = true := by have := (u8_39 _).2 hq; simp; omega
        rw [if_pos hq] at hzn
        obtain ⟨Y, hY⟩ : ∃ Y, Z k ++ [39] = Y := ⟨_, rfl⟩
        have hyl : Y.length ≤ 10002 := by rw [← hY, List.length_append]; simp; omega
        have hc1 : ∀ w0, (Op.stringOp .add ⟨(Z k).toArray⟩ ⟨#[39]⟩).run Tryd.prog w0 = .ok (.string ⟨Y.toArray⟩) w0 := fun w0 => by
          rw [← hY]; exact run_cat _ [39] (by unfold maxLen; simp; omega) w0
        have hc2 : ∀ w0, (Op.stringOp .add ⟨Y.toArray⟩ gb).run Tryd.prog w0 = .ok (.string ⟨(Z (k + 1)).toArray⟩) w0 := fun w0 => by
          rw [ho, hq, run_cat _ _ (by unfold maxLen; simp; omega) w0, hzn, ← hY, List.append_assoc]; rfl
        clear hzn ho hY hq
        go_wp2
        refine ⟨⟨k + 1, by go_num, by omega, rfl⟩, by simp [intOf]; omega⟩
      · have hq2 : ((s[k].toNat : Int) == 39) = false := by have h39 : ¬ s[k].toNat = 39 := fun h => hq ((u8_39 _).1 h); simp; omega
        rw [if_neg hq] at hzn
        have hc2 : ∀ w0, (Op.stringOp .add ⟨(Z k).toArray⟩ gb).run Tryd.prog w0 = .ok (.string ⟨(Z (k + 1)).toArray⟩) w0 := fun w0 => by
          rw [ho, run_cat _ _ (by unfold maxLen; simp; omega) w0, hzn]
        clear hzn ho hq
        go_wp2
        refine ⟨⟨k + 1, by go_num, by omega, rfl⟩, by simp [intOf]; omega⟩
    · obtain rfl : k = s.size := by omega
      have hc1 : ∀ w0, (Op.stringOp .add ⟨(Z s.size).toArray⟩ ⟨#[39]⟩).run Tryd.prog w0 = .ok (.string ⟨(Z s.size ++ [39]).toArray⟩) w0 := fun w0 => run_cat _ [39] (by unfold maxLen; simp; omega) w0
      go_wp2
      go_ret
      exact ⟨by rw [HQ.out]; rfl, rfl⟩

def NameP (b : Bool) (w : World) (e : Ending) (w' : World) : Prop := e = .returned (.bool b) ∧ Fr No w w'
theorem name_kw (t : Tx) : nameB t = true → decide (t.map capB ∈ kws) = false := fun h => by
  unfold nameB at h
  exact decide_eq_false (of_decide_eq_true h).2.2.2
set_option maxRecDepth 100000 in
set_option maxHeartbeats 8000000 in
theorem lexkinds_any (s : ByteArray) (w : World) (hL : Lr w) (hs : s.size ≤ maxLen) : Calls Tryd.prog 4 #[.string s] w (TrueP w) := by
  have HLR : Hid (∀ w', Fr No w w' → Lr w') := Lib.hid fun w' hf => hL.keep hL.lt hf.below
  have HAW := Lib.hid (awake_any w hL)
  obtain ⟨t, ht⟩ : ∃ t : ByteArray, (if 5000 < s.size then s.extract 0 5000 else s) = t := ⟨_, rfl⟩
  have hts : t.size ≤ 5000 := by
    rw [← ht]; split
    · rw [ByteArray.size_extract]; omega
    · omega
  have hm : t.size ≤ maxLen := by unfold maxLen; omega
  have H13 : Hid (∀ w', Fr No w w' → Calls Tryd.prog 13 #[.string t] w' (NameP (nameB t.data.toList) w')) := Lib.hid fun w' hf => by
    refine (isName_any t w' (HLR.out w' hf) hm).mono ?_
    rintro e w'' ⟨h1, q, rfl⟩
    exact ⟨h1, (Fr.refl _ _).drewN q⟩
  have H15 : Hid (∀ w', Fr No w w' → Calls Tryd.prog 15 #[.string t] w' (NameP (decide (t.data.toList.map capB ∈ kws)) w')) := Lib.hid fun w' hf => by
    refine (isKeyword_any t w' (HLR.out w' hf) hm).mono ?_
    rintro e w'' ⟨h1, q, rfl⟩
    exact ⟨h1, (Fr.refl _ _).drewN q⟩
  have H14 : Hid (∀ w', Calls Tryd.prog 14 #[.string t] w' (NameP (nameB t.data.toList) w')) := Lib.hid fun w' => refName_any t w' hts
  have H16 : Hid (∀ w', Calls Tryd.prog 16 #[.string t] w' (NameP (decide (t.data.toList.map capB ∈ kws)) w')) := Lib.hid fun w' => refKeyword_any t w' hts
  have H17 : Hid (∀ w', Fr No w w' → Calls Tryd.prog 17 #[.string t] w' fun e w'' => e = .returned (.string ⟨(quoteB t.data.toList).toArray⟩) ∧ Fr No w' w'') := Lib.hid fun w' hf => quote_any t w' (HLR.out w' hf) (by omega)
  have H18 : Hid (∀ w', Calls Tryd.prog 18 #[.string t] w' fun e w'' => e = .returned (.string ⟨(quoteB t.data.toList).toArray⟩) ∧ w' = w'') := Lib.hid fun w' => refQuote_any t w' hts
  have hnk := name_kw t.data.toList
  generalize nameB t.data.toList = N at *
  generalize decide (t.data.toList.map capB ∈ kws) = D at *
  generalize (⟨(quoteB t.data.toList).toArray⟩ : ByteArray) = Q at *
  have hsm := hs
  unfold maxLen at hsm
  clear hL hs hts hm
  by_cases h5 : 5000 < s.size
  · rw [if_pos h5] at ht
    have hi : (5000 : Int) < (s.size : Int) := by omega
    go_enter Tryd.func4, Tryd.ntmps4
    go_wp2_with fail
    refine HAW.out.mono ?_
    rintro e w1 ⟨rfl, f1⟩
    have HF := Lib.hid f1
    clear f1
    go_upto_region 4 with fail
    cases N with
    | true =>
      obtain rfl : D = false := hnk rfl
      go_wp2_with (first | (go_at_call 13; refine (H13.out _ HF.out).mono ?_; rintro e w' ⟨rfl, hg⟩; have HF := Lib.hid (HF.out.trans hg fun _ _ h => h); clear hg) | (go_at_call 14; refine (H14.out _).mono ?_; rintro e w' ⟨rfl, hg⟩; have HF := Lib.hid (HF.out.trans hg fun _ _ h => h); clear hg) | (go_at_call 15; refine (H15.out _ HF.out).mono ?_; rintro e w' ⟨rfl, hg⟩; have HF := Lib.hid (HF.out.trans hg fun _ _ h => h); clear hg) | (go_at_call 16; refine (H16.out _).mono ?_; rintro e w' ⟨rfl, hg⟩; have HF := Lib.hid (HF.out.trans hg fun _ _ h => h); clear hg) | (go_at_call 17; refine (H17.out _ HF.out).mono ?_; rintro e w' ⟨rfl, hg⟩; have HF := Lib.hid (HF.out.trans hg fun _ _ h => h); clear hg) | (go_at_call 18; refine (H18.out _).mono ?_; rintro e w' ⟨rfl, rfl⟩))
      go_ret
      exact ⟨rfl, HF.out⟩
    | false =>
      cases D with
      | true =>
        go_wp2_with (first | (go_at_call 13; refine (H13.out _ HF.out).mono ?_; rintro e w' ⟨rfl, hg⟩; have HF := Lib.hid (HF.out.trans hg fun _ _ h => h); clear hg) | (go_at_call 14; refine (H14.out _).mono ?_; rintro e w' ⟨rfl, hg⟩; have HF := Lib.hid (HF.out.trans hg fun _ _ h => h); clear hg) | (go_at_call 15; refine (H15.out _ HF.out).mono ?_; rintro e w' ⟨rfl, hg⟩; have HF := Lib.hid (HF.out.trans hg fun _ _ h => h); clear hg) | (go_at_call 16; refine (H16.out _).mono ?_; rintro e w' ⟨rfl, hg⟩; have HF := Lib.hid (HF.out.trans hg fun _ _ h => h); clear hg) | (go_at_call 17; refine (H17.out _ HF.out).mono ?_; rintro e w' ⟨rfl, hg⟩; have HF := Lib.hid (HF.out.trans hg fun _ _ h => h); clear hg) | (go_at_call 18; refine (H18.out _).mono ?_; rintro e w' ⟨rfl, rfl⟩))
        go_ret
        exact ⟨rfl, HF.out⟩
      | false =>
        go_wp2_with (first | (go_at_call 13; refine (H13.out _ HF.out).mono ?_; rintro e w' ⟨rfl, hg⟩; have HF := Lib.hid (HF.out.trans hg fun _ _ h => h); clear hg) | (go_at_call 14; refine (H14.out _).mono ?_; rintro e w' ⟨rfl, hg⟩; have HF := Lib.hid (HF.out.trans hg fun _ _ h => h); clear hg) | (go_at_call 15; refine (H15.out _ HF.out).mono ?_; rintro e w' ⟨rfl, hg⟩; have HF := Lib.hid (HF.out.trans hg fun _ _ h => h); clear hg) | (go_at_call 16; refine (H16.out _).mono ?_; rintro e w' ⟨rfl, hg⟩; have HF := Lib.hid (HF.out.trans hg fun _ _ h => h); clear hg) | (go_at_call 17; refine (H17.out _ HF.out).mono ?_; rintro e w' ⟨rfl, hg⟩; have HF := Lib.hid (HF.out.trans hg fun _ _ h => h); clear hg) | (go_at_call 18; refine (H18.out _).mono ?_; rintro e w' ⟨rfl, rfl⟩))
        go_ret
        exact ⟨rfl, HF.out⟩
  · rw [if_neg h5] at ht
    subst ht
    have hi : ¬ (5000 : Int) < (s.size : Int) := by omega
    go_enter Tryd.func4, Tryd.ntmps4
    go_wp2_with fail
    refine HAW.out.mono ?_
    rintro e w1 ⟨rfl, f1⟩
    have HF := Lib.hid f1
    clear f1
    go_upto_region 4 with fail
    cases N with
    | true =>
      obtain rfl : D = false := hnk rfl
      go_wp2_with (first | (go_at_call 13; refine (H13.out _ HF.out).mono ?_; rintro e w' ⟨rfl, hg⟩; have HF := Lib.hid (HF.out.trans hg fun _ _ h => h); clear hg) | (go_at_call 14; refine (H14.out _).mono ?_; rintro e w' ⟨rfl, hg⟩; have HF := Lib.hid (HF.out.trans hg fun _ _ h => h); clear hg) | (go_at_call 15; refine (H15.out _ HF.out).mono ?_; rintro e w' ⟨rfl, hg⟩; have HF := Lib.hid (HF.out.trans hg fun _ _ h => h); clear hg) | (go_at_call 16; refine (H16.out _).mono ?_; rintro e w' ⟨rfl, hg⟩; have HF := Lib.hid (HF.out.trans hg fun _ _ h => h); clear hg) | (go_at_call 17; refine (H17.out _ HF.out).mono ?_; rintro e w' ⟨rfl, hg⟩; have HF := Lib.hid (HF.out.trans hg fun _ _ h => h); clear hg) | (go_at_call 18; refine (H18.out _).mono ?_; rintro e w' ⟨rfl, rfl⟩))
      go_ret
      exact ⟨rfl, HF.out⟩
    | false =>
      cases D with
      | true =>
        go_wp2_with (first | (go_at_call 13; refine (H13.out _ HF.out).mono ?_; rintro e w' ⟨rfl, hg⟩; have HF := Lib.hid (HF.out.trans hg fun _ _ h => h); clear hg) | (go_at_call 14; refine (H14.out _).mono ?_; rintro e w' ⟨rfl, hg⟩; have HF := Lib.hid (HF.out.trans hg fun _ _ h => h); clear hg) | (go_at_call 15; refine (H15.out _ HF.out).mono ?_; rintro e w' ⟨rfl, hg⟩; have HF := Lib.hid (HF.out.trans hg fun _ _ h => h); clear hg) | (go_at_call 16; refine (H16.out _).mono ?_; rintro e w' ⟨rfl, hg⟩; have HF := Lib.hid (HF.out.trans hg fun _ _ h => h); clear hg) | (go_at_call 17; refine (H17.out _ HF.out).mono ?_; rintro e w' ⟨rfl, hg⟩; have HF := Lib.hid (HF.out.trans hg fun _ _ h => h); clear hg) | (go_at_call 18; refine (H18.out _).mono ?_; rintro e w' ⟨rfl, rfl⟩))
        go_ret
        exact ⟨rfl, HF.out⟩
      | false =>
        go_wp2_with (first | (go_at_call 13; refine (H13.out _ HF.out).mono ?_; rintro e w' ⟨rfl, hg⟩; have HF := Lib.hid (HF.out.trans hg fun _ _ h => h); clear hg) | (go_at_call 14; refine (H14.out _).mono ?_; rintro e w' ⟨rfl, hg⟩; have HF := Lib.hid (HF.out.trans hg fun _ _ h => h); clear hg) | (go_at_call 15; refine (H15.out _ HF.out).mono ?_; rintro e w' ⟨rfl, hg⟩; have HF := Lib.hid (HF.out.trans hg fun _ _ h => h); clear hg) | (go_at_call 16; refine (H16.out _).mono ?_; rintro e w' ⟨rfl, hg⟩; have HF := Lib.hid (HF.out.trans hg fun _ _ h => h); clear hg) | (go_at_call 17; refine (H17.out _ HF.out).mono ?_; rintro e w' ⟨rfl, hg⟩; have HF := Lib.hid (HF.out.trans hg fun _ _ h => h); clear hg) | (go_at_call 18; refine (H18.out _).mono ?_; rintro e w' ⟨rfl, rfl⟩))
        go_ret
        exact ⟨rfl, HF.out⟩
end Go.Proofs.YtaaleodffghbdaaDoor
