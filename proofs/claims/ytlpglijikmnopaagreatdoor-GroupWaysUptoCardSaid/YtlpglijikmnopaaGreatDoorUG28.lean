/- The document's Compare. -/
import Derived.Test.YtlpglijikmnopaaGreatDoorUG11
namespace Go.Proofs.YtlpglijikmnopaaGreatDoor
open Go.RowKit Go.Maps Go.Sort Go.Proofs
set_option linter.unusedVariables false

def cmpN (a b : Int) : Int := if a < b then -1 else if b < a then 1 else 0
theorem number_any (a b : Int) (w : World) : Calls Tryz.prog 64 #[.int .i64 a, .int .i64 b] w fun e w' => e = .returned (.int .i64 (cmpN a b)) ∧ w = w' := by
  by_cases h1 : a < b
  · have hv : cmpN a b = -1 := by unfold cmpN; rw [if_pos h1]
    have HV := Lib.hid hv
    clear hv
    go_enter Tryz.func64, Tryz.ntmps64
    go_wp2_with fail
    go_ret
    exact ⟨by rw [HV.out]; rfl, rfl⟩
  · by_cases h2 : b < a
    · have hv : cmpN a b = 1 := by unfold cmpN; rw [if_neg h1, if_pos h2]
      have HV := Lib.hid hv
      clear hv
      have h3 : b ≤ a := by omega
      go_enter Tryz.func64, Tryz.ntmps64
      go_wp2_with fail
      go_ret
      exact ⟨by rw [HV.out]; rfl, rfl⟩
    · have hv : cmpN a b = 0 := by unfold cmpN; rw [if_neg h1, if_neg h2]
      have HV := Lib.hid hv
      obtain rfl : a = b := by omega
      clear hv h1 h2
      go_enter Tryz.func64, Tryz.ntmps64
      go_wp2_with fail
      go_ret
      exact ⟨by rw [HV.out]; rfl, rfl⟩
theorem cmpT_cons (x y : UInt8) (a b : Tx) : cmpT (x :: a) (y :: b) = if x < y then -1 else if y < x then 1 else cmpT a b := by
  unfold cmpT
  by_cases h1 : x < y
  · rw [if_pos h1, if_pos (List.cons_lt_cons_iff.2 (.inl h1))]
  · rw [if_neg h1]
    by_cases h2 : y < x
    · rw [if_pos h2, if_neg, if_pos (List.cons_lt_cons_iff.2 (.inl h2))]
      intro h
      rcases List.cons_lt_cons_iff.1 h with h | ⟨h, _⟩
      · exact h1 h
      · subst h; exact h1 h2
    · rw [if_neg h2]
      have e : x = y := UInt8.le_antisymm (UInt8.not_lt.1 h2) (UInt8.not_lt.1 h1)
      subst e
      have h3 : ∀ l m : Tx, (x :: l < x :: m) ↔ l < m := fun l m => by
        rw [List.cons_lt_cons_iff]
        exact ⟨fun h => by rcases h with h | ⟨_, h⟩; exact absurd h h1; exact h, fun h => .inr ⟨rfl, h⟩⟩
      simp only [h3]
theorem cmpT_step {a b : Tx} {j : Nat} (ha : j < a.length) (hb : j < b.length) : cmpT (a.drop j) (b.drop j) = if a[j] < b[j] then -1 else if b[j] < a[j] then 1 else cmpT (a.drop (j + 1)) (b.drop (j + 1)) := by
  rw [List.drop_eq_getElem_cons ha, List.drop_eq_getElem_cons hb, cmpT_cons]
theorem cmpT_end {a b : Tx} {j : Nat} (h : j ≤ a.length) (h2 : j ≤ b.length) (he : j = a.length ∨ j = b.length) : cmpT (a.drop j) (b.drop j) = cmpN a.length b.length := by
  rcases Nat.lt_trichotomy a.length b.length with h3 | h3 | h3
  · have hj : j = a.length := by omega
    rw [List.drop_eq_nil_of_le (by omega), List.drop_eq_getElem_cons (by omega : j < b.length)]
    unfold cmpT cmpN
    rw [if_pos (List.nil_lt_cons _ _), if_pos (by omega)]
  · have hj : j = a.length := by omega
    rw [List.drop_eq_nil_of_le (by omega), List.drop_eq_nil_of_le (by omega)]
    unfold cmpT cmpN
    rw [if_neg (by simp), if_neg (by simp), if_neg (by omega), if_neg (by omega)]
  · have hj : j = b.length := by omega
    rw [List.drop_eq_nil_of_le (by omega : b.length ≤ j), List.drop_eq_getElem_cons (by omega : j < a.length)]
    unfold cmpT cmpN
    rw [if_neg (List.not_lt_nil _), if_pos (List.nil_lt_cons _ _), if_neg (by omega), if_pos (by omega)]
set_option maxRecDepth 100000 in
theorem text_any (a b : Tx) (ha : a.length ≤ maxLen) (hb : b.length ≤ maxLen) (w : World) : Calls Tryz.prog 63 #[sv a, sv b] w fun e w' => e = .returned (.int .i64 (cmpT a b)) ∧ Fr No w w' := by
  obtain ⟨N, hN⟩ : ∃ n, a.length = n := ⟨_, rfl⟩
  obtain ⟨M, hM⟩ : ∃ n, b.length = n := ⟨_, rfl⟩
  have HN := Lib.hid hN
  have HM := Lib.hid hM
  have HNUM := Lib.hid (fun w' => number_any (N : Nat) (M : Nat) w')
  rw [hN] at ha
  rw [hM] at hb
  unfold maxLen at ha hb
  go_enter Tryz.func63, Tryz.ntmps63
  go_wp2_with fail
  go_loopg [5] N (fun k r5 wr => Hid (∃ j : Nat, r5 = .int .i64 (j : Nat) ∧ j + k = N ∧ j ≤ M ∧ cmpT a b = cmpT (a.drop j) (b.drop j) ∧ Fr No w wr))
  case atStart => exact Lib.hid ⟨0, rfl, by omega, by omega, rfl, Fr.refl _ _⟩
  case round =>
    obtain ⟨j, rfl, hjk, hjM, hv, hf⟩ := hrel.out
    have HV := Lib.hid hv
    have HF := Lib.hid hf
    clear hrel hv hf
    by_cases hj : j < N ∧ j < M
    · obtain ⟨hj1, hj2⟩ := hj
      have hji : (j : Int) < (N : Int) := by omega
      have hjm : (j : Int) < (M : Int) := by omega
      have hja : j < a.length := by omega
      have hjb : j < b.length := by omega
      have HS := Lib.hid (cmpT_step hja hjb)
      have ga : a[j]? = some a[j] := List.getElem?_eq_getElem hja
      have gb : b[j]? = some b[j] := List.getElem?_eq_getElem hjb
      obtain ⟨x, hx⟩ : ∃ x, a[j] = x := ⟨_, rfl⟩
      obtain ⟨y, hy⟩ : ∃ x, b[j] = x := ⟨_, rfl⟩
      rw [hx, hy] at HS
      have hxa : ({ data := List.toArray a } : ByteArray)[j]'(by show j < a.toArray.size; simpa using hja) = x := by rw [← hx]; rfl
      have hyb : ({ data := List.toArray b } : ByteArray)[j]'(by show j < b.toArray.size; simpa using hjb) = y := by rw [← hy]; rfl
      clear hx hy
      by_cases h1 : x < y
      · have h2 : x.toNat < y.toNat := UInt8.lt_iff_toNat_lt.1 h1
        have HE : Hid (cmpT a b = -1) := Lib.hid (by rw [HV.out, HS.out, if_pos h1])
        clear h1
        go_upto_region 4 with fail
        go_quiet (fail)
        go_wp2_with fail
        go_ret
        exact ⟨by rw [HE.out]; rfl, HF.out.drewN _⟩
      · have h2 : ¬ x.toNat < y.toNat := fun h => h1 (UInt8.lt_iff_toNat_lt.2 h)
        have h2d : decide (x.toNat < y.toNat) = false := decide_eq_false h2
        by_cases h3 : y < x
        · have h4 : y.toNat < x.toNat := UInt8.lt_iff_toNat_lt.1 h3
          have HE : Hid (cmpT a b = 1) := Lib.hid (by rw [HV.out, HS.out, if_neg h1, if_pos h3])
          have h5 : y.toNat ≤ x.toNat := by omega
          clear h1 h3
          go_upto_region 4 with fail
          go_quiet (fail)
          go_wp2_with fail
          go_quiet (fail)
          go_wp2_with fail
          go_ret
          exact ⟨by rw [HE.out]; rfl, (HF.out.drewN _).drewN _⟩
        · have h4 : ¬ y.toNat < x.toNat := fun h => h3 (UInt8.lt_iff_toNat_lt.2 h)
          have HE : Hid (cmpT a b = cmpT (a.drop (j + 1)) (b.drop (j + 1))) := Lib.hid (by rw [HV.out, HS.out, if_neg h1, if_neg h3])
          have h5 : x.toNat ≤ y.toNat := by omega
          have h6 : y.toNat ≤ x.toNat := by omega
          clear h1 h3
          go_upto_region 4 with fail
          go_quiet (fail)
          go_wp2_with fail
          go_quiet (fail)
          go_wp2_with fail
          obtain ⟨g1, rfl⟩ : ∃ g1, gk = g1 + 1 := ⟨gk - 1, by omega⟩
          go_roundg g1
          case rel => exact Lib.hid ⟨j + 1, by go_num, by omega, by omega, HE.out, HF.out.drewN _⟩
          all_goals omega
    · have HE : Hid (cmpT a b = cmpN (N : Nat) (M : Nat)) := Lib.hid (by rw [HV.out, cmpT_end (by omega) (by omega) (by omega), hN, hM])
      rcases Nat.lt_or_ge j N with h1 | h1
      · have h2 : ¬ (j : Int) < (M : Int) := by omega
        have h1' : (j : Int) < (N : Int) := by omega
        clear hj
        go_wp2_with (go_at_call 64; refine (HNUM.out _).mono ?_; rintro e w' ⟨rfl, rfl⟩)
        go_ret
        exact ⟨by rw [HE.out]; rfl, HF.out⟩
      · have h2 : ¬ (j : Int) < (N : Int) := by omega
        clear hj
        go_wp2_with (go_at_call 64; refine (HNUM.out _).mono ?_; rintro e w' ⟨rfl, rfl⟩)
        go_ret
        exact ⟨by rw [HE.out]; rfl, HF.out⟩
set_option maxRecDepth 100000 in
set_option maxHeartbeats 1000000 in
theorem rcompare_any {K K2 : Nat → Prop} {a b : Ky} {v v2 : Value} (w : World) (h : KR K w v a) (h2 : KR K2 w v2 b) : Calls Tryz.prog 26 #[v, v2] w fun e w' => e = .returned (.int .i64 (cmpK a b)) ∧ Fr No w w' := by
  obtain ⟨A, ca, rfl, ha1, ha2⟩ := h.form
  obtain ⟨B, cb, rfl, hb1, hb2⟩ := h2.form
  obtain ⟨N, hN⟩ : ∃ n, a.length = n := ⟨_, rfl⟩
  obtain ⟨M, hM⟩ : ∃ n, b.length = n := ⟨_, rfl⟩
  rw [hN] at h ha1 ⊢
  rw [hM] at h2 hb1 ⊢
  have HN := Lib.hid hN
  have HM := Lib.hid hM
  have HA := Lib.hid (fun w' (f' : Fr No w w') => h.no f')
  have HB := Lib.hid (fun w' (f' : Fr No w w') => h2.no f')
  have HNUM := Lib.hid (fun w' => number_any (N : Nat) (M : Nat) w')
  unfold maxLen at ha2 hb2
  clear h h2 hN hM
  go_enter Tryz.func26, Tryz.ntmps26
  go_wp2_with fail
  go_loopg [5, 6] N (fun k r5 r6 wr => Hid (∃ j : Nat, r5 = .int .i64 (j : Nat) ∧ j + k = N ∧ j ≤ M ∧ Fr No w wr ∧ cmpK a b = cmpK (a.drop j) (b.drop j)))
  case atStart => exact Lib.hid ⟨0, rfl, by omega, by omega, Fr.refl _ _, rfl⟩
  case round =>
    obtain ⟨j, rfl, hjk, hjM, hf, hv⟩ := hrel.out
    have HV := Lib.hid hv
    have HF := Lib.hid hf
    clear hrel hv
    by_cases hj : j < N ∧ j < M
    · obtain ⟨hj1, hj2⟩ := hj
      have hji : (j : Int) < (N : Int) := by omega
      have hjm : (j : Int) < (M : Int) := by omega
      have hja : j < a.length := by have := HN.out; omega
      have hjb : j < b.length := by have := HM.out; omega
      obtain ⟨g, off, rfl, -, hg1, hc, hl1⟩ := (HA.out wr hf).at_ hja
      obtain ⟨g2, off2, rfl, -, hg2, hc2, hl2⟩ := (HB.out wr hf).at_ hjb
      have HS := Lib.hid (cmpK_step hja hjb)
      have HC1 := Lib.hid (fun w' => text_any a[j] b[j] hl1 hl2 w')
      obtain ⟨x, hx⟩ : ∃ x, a[j] = x := ⟨_, rfl⟩
      obtain ⟨y, hy⟩ : ∃ y, b[j] = y := ⟨_, rfl⟩
      rw [hx, hy] at HS HC1
      rw [hx] at hc
      rw [hy] at hc2
      obtain ⟨q, hq⟩ : ∃ q, cmpT x y = q := ⟨_, rfl⟩
      rw [hq] at HS HC1
      clear hx hy hq hl1 hl2 hf
      by_cases h0 : q = 0
      · subst h0
        have HV2 : Hid (cmpK a b = cmpK (a.drop (j + 1)) (b.drop (j + 1))) := Lib.hid (HV.out.trans (HS.out.trans (if_pos rfl)))
        go_upto_region 4 with fail
        go_region_law (go_simp; go_at_call 63; refine (HC1.out _).mono ?_; rintro e w3 ⟨rfl, f3⟩; have HF3 := Lib.hid (HF.out.trans ((Fr.refl No wr).drew.trans f3 fun _ _ h => h) fun _ _ h => h); clear f3)
        all_goals (go_simp; go_wp2_with fail)
        all_goals (obtain ⟨g1, rfl⟩ : ∃ g1, gk = g1 + 1 := ⟨gk - 1, by omega⟩)
        all_goals
          go_roundg g1
          case rel => exact Lib.hid ⟨j + 1, by go_num, by omega, by omega, HF3.out, HV2.out⟩
          all_goals omega
      · have hq0 : (q == 0) = false := by simpa using h0
        have hq1 : (q != 0) = true := by simpa using h0
        have HV2 : Hid (cmpK a b = q) := Lib.hid (HV.out.trans (HS.out.trans (if_neg h0)))
        go_upto_region 4 with fail
        go_region_law (go_simp; go_at_call 63; refine (HC1.out _).mono ?_; rintro e w3 ⟨rfl, f3⟩; have HF3 := Lib.hid (HF.out.trans ((Fr.refl No wr).drew.trans f3 fun _ _ h => h) fun _ _ h => h); clear f3)
        all_goals (go_simp; go_wp2_with fail)
        all_goals go_ret
        all_goals exact ⟨by rw [HV2.out]; rfl, HF3.out⟩
    · have HE : Hid (cmpK a b = cmpN (N : Nat) (M : Nat)) := Lib.hid (by
        have h1 := HN.out
        have h2 := HM.out
        rw [HV.out]
        unfold cmpN
        rcases Nat.lt_trichotomy N M with h3 | h3 | h3
        · rw [cmpK_short (by omega) (by omega), if_pos (by omega)]
        · rw [List.drop_eq_nil_of_le (by omega), List.drop_eq_nil_of_le (by omega), if_neg (by omega), if_neg (by omega)]; rfl
        · rw [cmpK_long (by omega) (by omega), if_neg (by omega), if_pos (by omega)])
      clear hf
      rcases Nat.lt_or_ge j N with h1 | h1
      · have h2 : ¬ (j : Int) < (M : Int) := by omega
        have h1' : (j : Int) < (N : Int) := by omega
        clear hj
        go_wp2_with (go_at_call 64; refine (HNUM.out _).mono ?_; rintro e w' ⟨rfl, rfl⟩)
        go_ret
        exact ⟨by rw [HE.out]; rfl, HF.out⟩
      · have h2 : ¬ (j : Int) < (N : Int) := by omega
        clear hj
        go_wp2_with (go_at_call 64; refine (HNUM.out _).mono ?_; rintro e w' ⟨rfl, rfl⟩)
        go_ret
        exact ⟨by rw [HE.out]; rfl, HF.out⟩
end Go.Proofs.YtlpglijikmnopaaGreatDoor
