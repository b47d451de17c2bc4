/- SetsLists. -/
import Derived.Test.YthejnkpnpckmbaaC2
namespace Go.Proofs.Ythejnkpnpckmbaa
open Go.RowKit Go.Maps
set_option linter.unusedVariables false

theorem row_int {K : Nat → Prop} {w : World} {v : Value} {l : List Nat} (h : RowE K w 1 (natG K w) v l) (hl : ∀ x ∈ l, x < 64) : RowE K w 1 (intG K w) v (l.map Int.ofNat) := by
  obtain ⟨A, c, e, h1, h2, h3⟩ := h
  refine ⟨A, c, by rw [List.length_map]; exact e, by rw [List.length_map]; exact h1, h2, fun h0 => ?_⟩
  rw [List.length_map] at h0
  obtain ⟨g, o, e1, hK, hg, hel⟩ := h3 h0
  refine ⟨g, o, e1, hK, hg, fun j hj => ?_⟩
  rw [List.length_map] at hj
  obtain ⟨cs, c1, c2, c3⟩ := hel j hj
  have := hl _ (List.getElem_mem hj)
  refine ⟨cs, c1, c2, ?_, ?_⟩
  · rw [List.getElem_map]; exact c3
  · rw [List.getElem_map]; show i64 ((l[j] : Nat) : Int); exact ⟨by omega, by omega⟩
theorem listN_lt (s : Nat) : ∀ n, ∀ x ∈ listN s n, x < n := fun n x hx => by
  have := (List.mem_filter.1 hx).1
  simpa using this
theorem listB_lt (s : Int) : ∀ x ∈ listB s, x < 64 := by
  by_cases h : 0 ≤ s ∧ s < 64
  · obtain ⟨k, rfl⟩ := Int.eq_ofNat_of_zero_le h.1
    rw [listB_in (by omega)]
    intro x hx
    have := listN_lt k 6 x hx
    omega
  · rw [listB_out (by omega)]; intro x hx; cases hx
theorem back_all : ∀ k, k < 64 → ofL ((listN k 6).map Int.ofNat) = k := by decide +kernel
theorem back_of {s : Int} (h0 : 0 ≤ s) (h1 : s < 64) : ((ofL ((listB s).map Int.ofNat) : Nat) : Int) = s := by
  obtain ⟨k, rfl⟩ := Int.eq_ofNat_of_zero_le h0
  rw [listB_in (by omega), back_all k (by omega)]
set_option maxRecDepth 100000 in
set_option maxHeartbeats 2000000 in
theorem lists_any {K K2 : Nat → Prop} {l : List Int} {dims : List Tx} {lv dv : Value} (s : Int) (w : World) (hL : RowE K w 1 (intG K w) lv l) (hD : RowE K2 w 1 (strG K2 w) dv dims) :
    Calls Try.prog 3 #[.int .i64 s, lv, dv] w (TellsB true w) := by
  obtain ⟨A1, c1, rfl, -, -⟩ := row_len hL
  obtain ⟨A2, c2, rfl, -, -⟩ := row_len hD
  have HAW := Lib.hid (awake_any w)
  have HL := Lib.hid hL
  have HD := Lib.hid hD
  generalize l.length = ln at *
  generalize dims.length = dn at *
  clear hL hD
  go_enter Try.func3, Try.ntmps3
  go_wp2_with fail
  refine HAW.out.mono ?_
  rintro e w1 ⟨rfl, f1⟩
  have HF1 := Lib.hid f1
  have HC1 := Lib.hid (list_any s w1)
  clear f1
  go_wp2_with fail
  refine HC1.out.mono ?_
  rintro e w2 ⟨v2, rfl, hr2, f2⟩
  have HF2 := Lib.hid (HF1.out.trans f2 fun _ _ h => h)
  have HR2 := Lib.hid hr2
  have HC2 := Lib.hid (rlist_any s w2)
  obtain ⟨A3, c3, rfl, -, -⟩ := row_len hr2
  generalize (listB s).length = bl at *
  clear f2 hr2 HC1
  go_wp2_with fail
  refine HC2.out.mono ?_
  rintro e w3 ⟨v3, rfl, hr3, f3⟩
  have HF3 := Lib.hid (HF2.out.trans f3 fun _ _ h => h)
  have HC3 := Lib.hid (same_true w3 (HR2.out.at_ natG_elem f3) hr3)
  obtain ⟨A4, c4, rfl, -, -⟩ := row_len hr3
  generalize (listB s).length = bl2 at *
  clear f3 hr3 HC2
  go_wp2_with fail
  refine HC3.out.mono ?_
  rintro e w4 ⟨rfl, f4⟩
  have HF4 := Lib.hid (HF3.out.trans f4 fun _ _ h => h)
  have HC4 := Lib.hid (names_any s w4 (HD.out.at_ strG_elem HF4.out))
  clear f4 HC3
  go_wp2_with fail
  refine HC4.out.mono ?_
  rintro e w5 ⟨v5, rfl, hr5, f5⟩
  have HF5 := Lib.hid (HF4.out.trans f5 fun _ _ h => h)
  have HR5 := Lib.hid hr5
  have HC5 := Lib.hid (rnames_any s w5 (HD.out.at_ strG_elem HF5.out))
  clear f5 HC4
  obtain ⟨N, hN⟩ : ∃ N, namesL dims (listB s) = N := ⟨_, rfl⟩
  rw [hN] at HR5 HC5 hr5
  obtain ⟨A5, c5, rfl, hl5, hm5⟩ := row_len hr5
  obtain ⟨n, hn⟩ : ∃ n, N.length = n := ⟨_, rfl⟩
  have HN := Lib.hid hn
  rw [hn] at HR5 hl5 ⊢
  clear hr5 hN hn
  go_wp2_with fail
  refine HC5.out.mono ?_
  rintro e w6 ⟨v6, rfl, hr6, f6⟩
  have HF6 := Lib.hid (HF5.out.trans f6 fun _ _ h => h)
  have HR6 := Lib.hid hr6
  have HR56 := Lib.hid (HR5.out.at_ strG_elem f6)
  obtain ⟨A6, c6, rfl, hl6, hm6⟩ := row_len hr6
  have HC6 := Lib.hid (of_any w6 (HL.out.at_ intG_elem HF6.out))
  obtain ⟨oz, hoz⟩ : ∃ oz, ofL l = oz := ⟨_, rfl⟩
  have HOZ := Lib.hid hoz
  rw [hoz] at HC6
  rw [HN.out] at HR6 hl6 ⊢
  unfold maxLen at hm5 hm6
  clear f6 hr6 HC5 HR5 hoz
  go_wp2_with fail
  refine HC6.out.mono ?_
  rintro e w7 ⟨rfl, f7⟩
  have HF7 := Lib.hid (HF6.out.trans f7 fun _ _ h => h)
  have HC7 := Lib.hid (rof_any w7 (HL.out.at_ intG_elem HF7.out))
  rw [HOZ.out] at HC7
  have HRA := Lib.hid (HR56.out.at_ strG_elem f7)
  have HRB := Lib.hid (HR6.out.at_ strG_elem f7)
  clear f7 HC6 HR56 HR6
  go_wp2_with fail
  refine HC7.out.mono ?_
  rintro e w8 ⟨rfl, f8⟩
  have HF8 := Lib.hid (HF7.out.trans f8 fun _ _ h => h)
  have HRA8 := Lib.hid (HRA.out.at_ strG_elem f8)
  have HRB8 := Lib.hid (HRB.out.at_ strG_elem f8)
  clear f8 HC7 HRA HRB
  go_wp2_with fail
  go_loopg [11] n (fun g r11 wr => Hid (∃ j : Nat, r11 = .int .i64 (j : Nat) ∧ j + g = n ∧ Fr No w8 wr))
  case atStart => exact Lib.hid ⟨0, rfl, by omega, Fr.refl _ _⟩
  case round =>
  obtain ⟨j, rfl, hjn, hf⟩ := hrel.out
  clear hrel
  have HFR := Lib.hid hf
  by_cases hj : j < n
  · have hji : (j : Int) < (n : Int) := by omega
    have hjl : j < N.length := by rw [HN.out]; exact hj
    obtain ⟨A7, c7, e7, _, _, hrow7⟩ := HRA8.out
    obtain ⟨A8, c8, e8, _, _, hrow8⟩ := HRB8.out
    injection e7 with e71 e72 e73
    injection e8 with e81 e82 e83
    subst e71 e73 e81 e83
    obtain ⟨g7, o7, rfl, _, hg7, hel7⟩ := hrow7 (by omega)
    obtain ⟨g8, o8, rfl, _, hg8, hel8⟩ := hrow8 (by omega)
    obtain ⟨cs7, _, hcs7, hE7, _⟩ := hel7 j hjl
    obtain ⟨cs8, _, hcs8, hE8, _⟩ := hel8 j hjl
    have d1 : wr.cell? ⟨g7, o7 + j, none⟩ = some (sv N[j]) := (cell_of_heap (hf.block g7 hg7 id)).trans (by have := hcs7 0 (by decide); rw [hE7] at this; simpa using this)
    have d2 : wr.cell? ⟨g8, o8 + j, none⟩ = some (sv N[j]) := (cell_of_heap (hf.block g8 hg8 id)).trans (by have := hcs8 0 (by decide); rw [hE8] at this; simpa using this)
    generalize N[j] = t at *
    clear hrow7 hrow8 e72 e82 hel7 hel8 hcs7 hcs8 hE7 hE8 hf hjl
    go_upto_region 10 with fail
    go_quiet (fail)
    go_wp2_with fail
    obtain ⟨g1, rfl⟩ : ∃ g1, gk = g1 + 1 := ⟨gk - 1, by omega⟩
    go_roundg g1
    case rel => exact Lib.hid ⟨j + 1, by go_num, by omega, HFR.out.trans ((Fr.refl No wr).drewN _) fun _ _ h => h⟩
    all_goals omega
  · have hji : (n : Int) ≤ (j : Int) := by omega
    have HF9 := Lib.hid (HF8.out.trans hf fun _ _ h => h)
    have HC9 := Lib.hid (list_any s wr)
    clear hf
    go_wp2_with fail
    refine HC9.out.mono ?_
    rintro e w10 ⟨v10, rfl, hr10, f10⟩
    have HF10 := Lib.hid (HF9.out.trans f10 fun _ _ h => h)
    have hr11 := row_int hr10 (listB_lt s)
    have HC10 := Lib.hid (of_any w10 hr11)
    have HBK : Hid (0 ≤ s → s < 64 → ((ofL ((listB s).map Int.ofNat) : Nat) : Int) = s) := Lib.hid fun h0 h1 => back_of h0 h1
    generalize ofL ((listB s).map Int.ofNat) = bz at *
    obtain ⟨A9, c9, rfl, -, -⟩ := row_len hr10
    generalize (listB s).length = bl3 at *
    clear hr10 hr11 f10 HC9
    go_wp2_with fail
    refine HC10.out.mono ?_
    rintro e w11 ⟨rfl, f11⟩
    have HF11 := Lib.hid (HF10.out.trans f11 fun _ _ h => h)
    clear f11 HC10
    rcases Int.lt_or_le s 0 with h0 | h0
    · go_wp2_with fail
      go_ret
      exact ⟨rfl, HF11.out⟩
    · have h0b : decide (s < 0) = false := decide_eq_false (by omega)
      rcases Int.lt_or_le 63 s with h1 | h1
      · go_wp2_with fail
        go_ret
        exact ⟨rfl, HF11.out⟩
      · have h1b : decide (63 < s) = false := decide_eq_false (by omega)
        have hbk := HBK.out h0 (by omega)
        have hbb : ((bz : Int) == s) = true := by rw [hbk]; simp
        clear hbk
        go_wp2_with fail
        go_ret
        exact ⟨rfl, HF11.out⟩
end Go.Proofs.Ythejnkpnpckmbaa
