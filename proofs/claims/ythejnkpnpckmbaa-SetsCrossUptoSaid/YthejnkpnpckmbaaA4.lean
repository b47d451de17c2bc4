/- The document's own union and Of; rows that grow by one. -/
import Derived.Test.YthejnkpnpckmbaaA3
namespace Go.Proofs.Ythejnkpnpckmbaa
open Go.RowKit Go.Maps
set_option linter.unusedVariables false

theorem or_step : ∀ j, j < 6 → ∀ c, c < 64 → c % 2 ^ (j + 1) = c % 2 ^ j + (if hasB c j then 2 ^ j else 0) := by decide +kernel
theorem has_or {a b : Nat} (j : Nat) : hasB (a ||| b) j = (hasB a j || hasB b j) := by
  have h : ∀ c, hasB c j = c.testBit j := fun c => by
    unfold hasB
    rw [Nat.testBit_eq_decide_div_mod_eq]
    rw [Bool.eq_iff_iff]; simp
  rw [h, h, h, Nat.testBit_or]
set_option maxRecDepth 100000 in
theorem runion_any (a b : Nat) (ha : a < 64) (hb : b < 64) (w : World) : Calls Try.prog 17 #[.int .i64 (a : Int), .int .i64 (b : Int)] w (TellsI ((a ||| b : Nat) : Int) w) := by
  have HA : Hid (∀ (k : Nat) (w : World), k < 6 → Calls Try.prog 16 #[.int .i64 (a : Int), .int .i64 (k : Int)] w (TellsB (hasB a k) w)) := Lib.hid fun k w hk => has_any a k ha hk w
  have HB : Hid (∀ (k : Nat) (w : World), k < 6 → Calls Try.prog 16 #[.int .i64 (b : Int), .int .i64 (k : Int)] w (TellsB (hasB b k) w)) := Lib.hid fun k w hk => has_any b k hb hk w
  have HBIT : Hid (∀ (k : Nat) (w : World), k < 6 → Calls Try.prog 18 #[.int .i64 (k : Int)] w (TellsI ((2 ^ k : Nat) : Int) w)) := Lib.hid fun k w hk => rbit_any k hk w
  obtain ⟨c, hc⟩ : ∃ c, a ||| b = c := ⟨_, rfl⟩
  have hc64 : c < 64 := by rw [← hc]; exact or64 ha hb
  have HO : Hid (∀ j, hasB c j = (hasB a j || hasB b j)) := Lib.hid fun j => by rw [← hc]; exact has_or j
  have HS : Hid (∀ j, j < 6 → c % 2 ^ (j + 1) = c % 2 ^ j + (if hasB c j then 2 ^ j else 0)) := Lib.hid fun j hj => or_step j hj c hc64
  have HC := Lib.hid hc64
  rw [hc]
  clear hc ha hb hc64
  go_enter Try.func17, Try.ntmps17
  go_wp2_with fail
  go_loopg [5, 6, 7, 8] 6 (fun g r5 r6 r7 r8 wr => Hid (∃ j p : Nat, r6 = .int .i64 (j : Nat) ∧ j + g = 6 ∧ r5 = .int .i64 (p : Int) ∧ p = c % 2 ^ j ∧ Fr No w wr))
  case atStart => exact Lib.hid ⟨0, 0, rfl, by omega, rfl, by rw [Nat.pow_zero, Nat.mod_one], Fr.refl _ _⟩
  case round =>
  obtain ⟨j, p, rfl, hjk, rfl, hp, hf⟩ := hrel.out
  clear hrel
  have hp64 : p < 64 := by rw [hp]; exact Nat.lt_of_le_of_lt (Nat.mod_le _ _) HC.out
  have HF := Lib.hid hf
  have HP := Lib.hid hp
  clear hf hp
  by_cases hj : j < 6
  · have hji : (j : Int) < 6 := by omega
    have HA1 := Lib.hid (HA.out j wr hj)
    have HS1 := Lib.hid (HS.out j hj)
    have HO1 := Lib.hid (HO.out j)
    go_wp2_with fail
    refine HA1.out.mono ?_
    rintro e w1 ⟨rfl, f1⟩
    have HF1 := Lib.hid (HF.out.trans f1 fun _ _ h => h)
    have HB1 := Lib.hid (HB.out j w1 hj)
    clear f1
    obtain ⟨x, hx⟩ : ∃ x, hasB a j = x := ⟨_, rfl⟩
    obtain ⟨y, hy⟩ : ∃ y, hasB b j = y := ⟨_, rfl⟩
    have HX := Lib.hid hx
    have HY := Lib.hid hy
    rw [hx]
    rw [hy] at HB1
    clear hx hy
    go_wp2_with fail
    refine HB1.out.mono ?_
    rintro e w2 ⟨rfl, f2⟩
    have HF2 := Lib.hid (HF1.out.trans f2 fun _ _ h => h)
    have HT := Lib.hid (HBIT.out j w2 hj)
    clear f2
    have key : ∀ (z : Bool), z = (x || y) → c % 2 ^ (j + 1) = p + (if z then 2 ^ j else 0) := fun z hz => by
      rw [HS1.out, HO1.out, HX.out, HY.out, ← hz, HP.out]
    have hpow : 2 ^ j < 64 := Nat.lt_of_lt_of_le (Nat.pow_lt_pow_right (by decide) hj) (by decide)
    obtain ⟨q, hq⟩ : ∃ q, 2 ^ j = q := ⟨_, rfl⟩
    rw [hq] at hpow HT
    have HKEY : Hid (∀ (z : Bool), z = (x || y) → c % 2 ^ (j + 1) = p + (if z then q else 0)) := Lib.hid (by rw [← hq]; exact key)
    clear key hq
    cases x with
    | true =>
      have HK := Lib.hid (HKEY.out true rfl)
      go_wp2_with fail
      refine HT.out.mono ?_
      rintro e w3 ⟨rfl, f3⟩
      have HF3 := Lib.hid (HF2.out.trans f3 fun _ _ h => h)
      clear f3
      go_wp2_with fail
      obtain ⟨g1, rfl⟩ : ∃ g1, gk = g1 + 1 := ⟨gk - 1, by omega⟩
      go_roundg g1
      case rel => exact Lib.hid ⟨j + 1, p + q, by go_num, by omega, by go_num, by rw [HK.out]; rfl, HF3.out⟩
      all_goals omega
    | false =>
      cases y with
      | true =>
        have HK := Lib.hid (HKEY.out true rfl)
        go_wp2_with fail
        refine HT.out.mono ?_
        rintro e w3 ⟨rfl, f3⟩
        have HF3 := Lib.hid (HF2.out.trans f3 fun _ _ h => h)
        clear f3
        go_wp2_with fail
        obtain ⟨g1, rfl⟩ : ∃ g1, gk = g1 + 1 := ⟨gk - 1, by omega⟩
        go_roundg g1
        case rel => exact Lib.hid ⟨j + 1, p + q, by go_num, by omega, by go_num, by rw [HK.out]; rfl, HF3.out⟩
        all_goals omega
      | false =>
        have HK := Lib.hid (HKEY.out false rfl)
        go_wp2_with fail
        obtain ⟨g1, rfl⟩ : ∃ g1, gk = g1 + 1 := ⟨gk - 1, by omega⟩
        go_roundg g1
        case rel => exact Lib.hid ⟨j + 1, p, by go_num, by omega, rfl, by rw [HK.out]; rfl, HF2.out⟩
        all_goals omega
  · have hji : (6 : Int) ≤ (j : Int) := by omega
    have HT : Hid (p = c) := Lib.hid (by rw [HP.out, show j = 6 by omega]; exact Nat.mod_eq_of_lt HC.out)
    go_wp2_with fail
    go_ret
    exact ⟨by rw [HT.out]; rfl, HF.out⟩

set_option maxRecDepth 100000 in
/-- The document's Of. -/
theorem rof_any {K : Nat → Prop} {l : List Int} {v : Value} (w : World) (h : RowE K w 1 (intG K w) v l) : Calls Try.prog 13 #[v] w (TellsI (ofL l : Nat) w) := by
  obtain ⟨A, c, rfl, hlc, hcm, hrow⟩ := h
  obtain ⟨n, hn⟩ : ∃ n, l.length = n := ⟨_, rfl⟩
  rw [hn] at hlc ⊢
  have HROW := Lib.hid hrow
  have HN := Lib.hid hn
  unfold maxLen at hcm
  clear hrow hn
  go_enter Try.func13, Try.ntmps13
  go_wp2_with fail
  go_loopg [3, 4] n (fun k r3 r4 wr => Hid (∃ j : Nat, r4 = .int .i64 (j : Nat) ∧ j + k = n ∧ r3 = .int .i64 ((ofL (l.take j) : Nat) : Int) ∧ Fr No w wr))
  case atStart => exact Lib.hid ⟨0, rfl, by omega, rfl, Fr.refl _ _⟩
  case round =>
  obtain ⟨j, rfl, hjn, rfl, hf⟩ := hrel.out
  clear hrel
  by_cases hj : j < n
  · have hji : (j : Int) < (n : Int) := by omega
    have hjl : j < l.length := by rw [HN.out]; exact hj
    obtain ⟨g, off, rfl, hK, hg, hel⟩ := HROW.out (by omega)
    obtain ⟨cs, hcl, hcs, hE⟩ := hel j hjl
    obtain ⟨hE, hi⟩ := hE
    have hw0 : w.cell? ⟨g, off + j, none⟩ = some (.int .i64 l[j]) := by have := hcs 0 (by decide); rw [hE] at this; simpa using this
    have e0 : wr.cell? ⟨g, off + j, none⟩ = some (.int .i64 l[j]) := (cell_of_heap (hf.block g hg id)).trans hw0
    obtain ⟨x, hx⟩ : ∃ x, l[j] = x := ⟨_, rfl⟩
    obtain ⟨u, hu⟩ : ∃ u, ofL (l.take j) = u := ⟨_, rfl⟩
    obtain ⟨z, hz⟩ : ∃ z, u ||| bitI x = z := ⟨_, rfl⟩
    have HU : Hid (ofL (l.take (j + 1)) = z) := Lib.hid (by rw [ofL_take hjl, hx, hu, hz])
    have hu64 : u < 64 := by rw [← hu]; exact ofL_lt _
    have HF := Lib.hid hf
    have HW0 := Lib.hid hw0
    rw [hx] at e0 HW0
    rw [hu]
    clear hcs hcl hel hK hf hE hx hu hi hw0
    by_cases hin : 0 ≤ x ∧ x < 6
    · obtain ⟨k, rfl⟩ := Int.eq_ofNat_of_zero_le hin.1
      have hk : k < 6 := by omega
      have hb : bitI (k : Int) = 2 ^ k := by unfold bitI; rw [if_pos hin]; rfl
      have hk64 : 2 ^ k < 64 := by rw [← hb]; exact bitI_lt _
      have HBIT := Lib.hid (rbit_any k hk wr)
      have HUN : Hid (∀ w, Calls Try.prog 17 #[.int .i64 (u : Int), .int .i64 ((2 ^ k : Nat) : Int)] w (TellsI (z : Int) w)) := Lib.hid fun w => by
        have h1 := runion_any u (2 ^ k) hu64 hk64 w
        have e : u ||| 2 ^ k = z := by rw [← hb]; exact hz
        rw [e] at h1
        exact h1
      have h0 : (0 : Int) ≤ (k : Int) := by omega
      have h6 : (k : Int) < 6 := by omega
      obtain ⟨b, hbb⟩ : ∃ b, 2 ^ k = b := ⟨_, rfl⟩
      rw [hbb] at HBIT HUN
      clear hb hk64 hz hin hu64 hbb
      go_wp2_with fail
      refine HBIT.out.mono ?_
      rintro e w1 ⟨rfl, f1⟩
      have HF1 := Lib.hid (HF.out.trans f1 fun _ _ h => h)
      clear f1
      go_wp2_with fail
      refine (HUN.out w1).mono ?_
      rintro e w2 ⟨rfl, f2⟩
      have HF2 := Lib.hid (HF1.out.trans f2 fun _ _ h => h)
      clear f2
      go_wp2_with fail
      obtain ⟨g1, rfl⟩ : ∃ g1, gk = g1 + 1 := ⟨gk - 1, by omega⟩
      go_roundg g1
      case rel => exact Lib.hid ⟨j + 1, by go_num, by omega, by rw [HU.out], HF2.out⟩
      all_goals omega
    · have hb : bitI x = 0 := by unfold bitI; rw [if_neg hin]
      have HZ : Hid (u = z) := Lib.hid (by rw [← hz, hb, Nat.or_zero])
      clear hb hz hu64
      have hcase : (x < 0 ∧ (decide ((0 : Int) ≤ x)) = false) ∨ ((0 : Int) ≤ x ∧ ¬ x < 6) := by
        rcases Int.lt_or_le x 0 with h | h
        · exact .inl ⟨h, decide_eq_false (by omega)⟩
        · exact .inr ⟨h, by omega⟩
      clear hin
      rcases hcase with ⟨h1, h2⟩ | ⟨h1, h2⟩
      all_goals
        go_wp2_with fail
        obtain ⟨g1, rfl⟩ : ∃ g1, gk = g1 + 1 := ⟨gk - 1, by omega⟩
        go_roundg g1
        case rel => exact Lib.hid ⟨j + 1, by go_num, by omega, by rw [HU.out, HZ.out], HF.out⟩
        all_goals omega
  · have hji : (n : Int) ≤ (j : Int) := by omega
    have HT : Hid (l.take j = l) := Lib.hid (List.take_of_length_le (by rw [HN.out]; omega))
    have HF := Lib.hid hf
    clear hf
    go_wp2_with fail
    go_ret
    exact ⟨by rw [HT.out]; rfl, HF.out⟩
end Go.Proofs.Ythejnkpnpckmbaa
