/- The reference's names and quotes. -/
import Derived.Test.YtkcnbmgaeompjaaGreatDoorGB
namespace Go.Proofs.YtkcnbmgaeompjaaGreatDoor
open Go.RowKit Go.Maps
set_option linter.unusedVariables false

theorem let_nat : ∀ b : UInt8, isLet b = decide ((97 ≤ b.toNat ∧ b.toNat ≤ 122) ∨ (65 ≤ b.toNat ∧ b.toNat ≤ 90) ∨ b.toNat = 95) :=
  all_bytes (p := fun b => isLet b = decide ((97 ≤ b.toNat ∧ b.toNat ≤ 122) ∨ (65 ≤ b.toNat ∧ b.toNat ≤ 90) ∨ b.toNat = 95)) (by decide +kernel)
theorem dig_nat : ∀ b : UInt8, isDig b = decide (48 ≤ b.toNat ∧ b.toNat ≤ 57) :=
  all_bytes (p := fun b => isDig b = decide (48 ≤ b.toNat ∧ b.toNat ≤ 57)) (by decide +kernel)
set_option maxHeartbeats 1000000 in
theorem refLetter_any (b : UInt8) (w : World) : Calls Tryz.prog 99 #[.int .u8 (b.toNat : Nat)] w fun e w' => e = .returned (.bool (isLet b)) ∧ w = w' := by
  have h0 := u8_lt b
  obtain ⟨V, hV⟩ : ∃ V, isLet b = V := ⟨_, rfl⟩
  have hn := let_nat b
  rw [hV] at hn ⊢
  clear hV
  by_cases h1 : 97 ≤ b.toNat
  · by_cases h2 : b.toNat ≤ 122
    · obtain rfl : V = true := by rw [hn]; simp; omega
      clear hn
      go_enter Tryz.func99, Tryz.ntmps99
      go_wp2
      go_ret
      exact ⟨ret_bool (by first | rfl | assumption | (simp; omega)), rfl⟩
    · obtain rfl : V = false := by rw [hn]; simp; omega
      clear hn
      have h5 : ((b.toNat : Int) == 95) = false := by simp; omega
      go_enter Tryz.func99, Tryz.ntmps99
      go_wp2
      go_ret
      exact ⟨ret_bool (by first | rfl | assumption | (simp; omega)), rfl⟩
  · by_cases h2 : 65 ≤ b.toNat
    · by_cases h3 : b.toNat ≤ 90
      · obtain rfl : V = true := by rw [hn]; simp; omega
        clear hn
        go_enter Tryz.func99, Tryz.ntmps99
        go_wp2
        go_ret
        exact ⟨ret_bool (by first | rfl | assumption | (simp; omega)), rfl⟩
      · by_cases h4 : b.toNat = 95
        · obtain rfl : V = true := by rw [hn]; simp; omega
          clear hn
          have h5 : ((b.toNat : Int) == 95) = true := by simp; omega
          go_enter Tryz.func99, Tryz.ntmps99
          go_wp2
          go_ret
          exact ⟨ret_bool (by first | rfl | assumption | (simp; omega)), rfl⟩
        · obtain rfl : V = false := by rw [hn]; simp; omega
          clear hn
          have h5 : ((b.toNat : Int) == 95) = false := by simp; omega
          go_enter Tryz.func99, Tryz.ntmps99
          go_wp2
          go_ret
          exact ⟨ret_bool (by first | rfl | assumption | (simp; omega)), rfl⟩
    · obtain rfl : V = false := by rw [hn]; simp; omega
      clear hn
      have h5 : ((b.toNat : Int) == 95) = false := by simp; omega
      go_enter Tryz.func99, Tryz.ntmps99
      go_wp2
      go_ret
      exact ⟨ret_bool (by first | rfl | assumption | (simp; omega)), rfl⟩
theorem refDigit_any (b : UInt8) (w : World) : Calls Tryz.prog 100 #[.int .u8 (b.toNat : Nat)] w fun e w' => e = .returned (.bool (isDig b)) ∧ w = w' := by
  have h0 := u8_lt b
  obtain ⟨V, hV⟩ : ∃ V, isDig b = V := ⟨_, rfl⟩
  have hn := dig_nat b
  rw [hV] at hn ⊢
  clear hV
  by_cases h1 : 48 ≤ b.toNat
  · by_cases h2 : b.toNat ≤ 57
    · obtain rfl : V = true := by rw [hn]; simp; omega
      clear hn
      go_enter Tryz.func100, Tryz.ntmps100
      go_wp2
      go_ret
      exact ⟨ret_bool (by first | rfl | (simp; omega)), rfl⟩
    · obtain rfl : V = false := by rw [hn]; simp; omega
      clear hn
      go_enter Tryz.func100, Tryz.ntmps100
      go_wp2
      go_ret
      exact ⟨ret_bool (by first | rfl | (simp; omega)), rfl⟩
  · obtain rfl : V = false := by rw [hn]; simp; omega
    clear hn
    go_enter Tryz.func100, Tryz.ntmps100
    go_wp2
    go_ret
    exact ⟨ret_bool (by first | rfl | (simp; omega)), rfl⟩

/-! ### capitals -/
def capV (b : UInt8) : Value := .int .u8 ((capB b).toNat : Nat)
theorem info5 : (Tryz.prog.info? 5).map (fun i => (i.zero, i.size, i.bytes)) = some (some (.int .u8 0), 1, 1) := by kernel_rfl
theorem own1_cell' {w : World} {base n c : Nat} {e : TypeId} {A : Option Addr} {xs : List Value} (h : w.ownsRow base e 1 (.slice A n c) n xs) (hn : 0 < n) :
    ∃ g, A = some ⟨g, 0, none⟩ ∧ ∀ (j : Nat) (v : Value), xs[j]? = some v → j < n → w.cell? ⟨g, j, none⟩ = some v := by
  rcases h.2 with ⟨_, h0⟩ | ⟨g, cap, cur, e1, hb, hh, hnc, hcm, hs, ht⟩
  · omega
  · injection e1 with e1 e2 e3
    refine ⟨g, e1, fun j v hj hjn => ?_⟩
    rw [cell_of_row w g j cur e (0, 0) hh, ← hj, ← ht, List.getElem?_take, if_pos (by omega), Array.getElem?_toList]
theorem conv_nil (w : World) (c : Nat) : (convert 112 9 (.slice none 0 c)).run Tryz.prog w = .ok (.string ⟨#[]⟩) w := by
  rw [run_convert_bytes_string w 112 9 5 none 0 c Tryz.underlying112 Tryz.underlying5 Tryz.underlying9]
  simp [Conv.bytesToString]
  rfl
set_option maxRecDepth 100000 in
theorem conv_row {w : World} {base n c : Nat} {A : Option Addr} (t : Tx) (hn : t.length = n) (h : w.ownsRow base 5 1 (.slice A n c) n (t.map fun b => .int .u8 (b.toNat : Nat))) : (convert 112 9 (.slice A n c)).run Tryz.prog w = .ok (.string ⟨t.toArray⟩) w := by
  rcases Nat.eq_zero_or_pos n with rfl | hp
  · obtain rfl : t = [] := List.eq_nil_of_length_eq_zero hn
    rcases h.2 with ⟨h1, _⟩ | ⟨g, cap, cur, e1, hb, hh, hnc, hcm, hs, ht⟩
    · obtain rfl : A = none := by injection h1
      exact conv_nil w c
    · injection e1 with e1 e2 e3
      subst e1
      have := run_convert_bytes_back (P := Tryz.prog) w 112 9 5 ⟨g, 0, none⟩ c [] Tryz.underlying112 Tryz.underlying5 Tryz.underlying9 (fun j hj => absurd hj (by simp))
      exact this
  · obtain ⟨g, rfl, hc⟩ := own1_cell' h hp
    have := run_convert_bytes_back (P := Tryz.prog) w 112 9 5 ⟨g, 0, none⟩ c t Tryz.underlying112 Tryz.underlying5 Tryz.underlying9 (fun j hj => by
      rw [show (⟨g, 0, none⟩ : Addr).add j = ⟨g, j, none⟩ by simp [Addr.add]; exact fun e => e.symm]
      exact hc j _ (by rw [List.getElem?_map, List.getElem?_eq_getElem hj]; rfl) (by omega))
    rw [hn] at this
    exact this
end Go.Proofs.YtkcnbmgaeompjaaGreatDoor
namespace Go.Proofs.YtkcnbmgaeompjaaGreatDoor
open Go.RowKit Go.Maps
set_option linter.unusedVariables false

theorem take_capV (s : ByteArray) (k : Nat) (hk : k < s.size) : (s.data.toList.take (k + 1)).map capV = (s.data.toList.take k).map capV ++ [.int .u8 ((capB s[k]).toNat : Nat)] := by
  have hl : k < s.data.toList.length := by rw [len_data]; exact hk
  rw [List.take_add_one, List.getElem?_eq_getElem hl, List.map_append]
  rfl
theorem capV_map (t : Tx) : t.map capV = (t.map capB).map fun b => .int .u8 (b.toNat : Nat) := by
  rw [List.map_map]; rfl
set_option maxRecDepth 100000 in
set_option maxHeartbeats 4000000 in
theorem refCaps_any (s : ByteArray) (w : World) (hs : s.size ≤ 5000) : Calls Tryz.prog 124 #[.string s] w fun e w' => e = .returned (.string ⟨(s.data.toList.map capB).toArray⟩) ∧ Fr No w w' := by
  obtain ⟨y, hy⟩ : ∃ y, w.heap.size = y := ⟨_, rfl⟩
  have HY := Lib.hid hy
  have HCV : Hid (∀ (A : Option Addr) (c : Nat) (w' : World), w'.ownsRow y 5 1 (.slice A s.size c) s.size ((s.data.toList.take s.size).map capV) → (convert 112 9 (.slice A s.size c)).run Tryz.prog w' = .ok (.string ⟨(s.data.toList.map capB).toArray⟩) w') := Lib.hid fun A c w' h => by
    rw [List.take_of_length_le (by rw [len_data]; omega), capV_map] at h
    exact conv_row _ (by rw [List.length_map, len_data]) h
  have HTK0 := Lib.hid (take_capV s)
  obtain ⟨i0, hi00, hz0, hz1, hz2⟩ := info_parts info5
  clear hy
  go_enter Tryz.func124, Tryz.ntmps124
  go_wp2
  go_loopw [3, 4, 5] (fun sv iv bv wr => ∃ (k : Nat) (A : Option Addr) (c : Nat), iv = .int .i64 (k : Nat) ∧ k ≤ s.size ∧ sv = .slice A k c ∧ Hid (wr.ownsRow y 5 1 (.slice A k c) k ((s.data.toList.take k).map capV)) ∧ Hid (Fr No w wr)) (fun _ iv _ _ => s.size - (intOf iv).toNat)
  case atStart => exact ⟨0, none, 0, rfl, Nat.zero_le _, rfl, Lib.hid ⟨rfl, .inl ⟨rfl, rfl⟩⟩, Lib.hid (Fr.refl _ _)⟩
  case round =>
    obtain ⟨k, A, c, rfl, hk, rfl, HROW, HF⟩ := hrel
    by_cases hlt : k < s.size
    · have hk0 : (0 : Int) ≤ (k : Int) := by omega
      have hk1 : (k : Int) < (s.size : Int) := by omega
      have HTK := Lib.hid (HTK0.out k hlt)
      have hb := u8_lt s[k]
      have hsz := HF.out.size
      rw [HY.out] at hsz
      have HF6 : Hid (∀ (w6 : World) (o : Obj), (wr.alloc o).grownBy w6 (Value.slice A k c).ownBlock → Fr No w w6) := Lib.hid fun w6 o hg =>
        ((HF.out.alloc o).grown hg fun q hq hql => by
          have h1 := (HROW.out.lt q hq).1
          have h2 := HY.out
          omega)
      generalize (s.data.toList.take k).map capV = R at *
      by_cases h1 : 97 ≤ s[k].toNat
      · by_cases h2 : s[k].toNat ≤ 122
        · have HV : Hid (((capB s[k]).toNat : Int) = (s[k].toNat : Int) - 32) := Lib.hid (by have := cap_small _ h1 h2; omega)
          have e1 : IntKind.u8.wrap ((s[k].toNat : Int) - 32) = (s[k].toNat : Int) - 32 := IntWalk.u8_in _ (by omega)
          have HNX : Hid ((s.data.toList.take (k + 1)).map capV = R ++ [.int .u8 ((s[k].toNat : Int) - 32)]) := Lib.hid (by rw [HTK.out, HV.out])
          go_upto_region 8 with fail
          go_wp2_with (at_builtin; refine wpList_append_lies _ (by rfl) _ _ 112 (by rfl) y 5 i0 _ 1 1 Tryz.underlying112 hi00 hz0 hz1 hz2 rfl (by omega) (.slice A k c) _ _ (by rfl) (HROW.out.alloc _) ⟨wr.heap.size, 0, none⟩ 1 1 [.int .u8 ((s[k].toNat : Int) - 32)] (by rfl) (by rfl) (World.news_of_block (cs := #[.int .u8 ((s[k].toNat : Int) - 32)]) (t := 5) (fr := (0, 0)) (heap_alloc_new wr _)) (by simp [Value.oneCell']) (by omega) (by unfold maxLen; omega) (by omega) (by simp; omega) (wr.heap.size + 1) (by simp) ?_; intro g2 cap w6 hown6 hgrow6 hat6 hlt6; have HF7 := Lib.hid (HF6.out _ _ hgrow6); have HO6 := Lib.hid hown6; clear hgrow6 hat6 hown6)
          go_roundw
          case rel => exact ⟨k + 1, some ⟨g2, 0, none⟩, cap, by go_num, by omega, rfl, Lib.hid (by rw [HNX.out]; exact HO6.out), HF7⟩
          case measure => simp [intOf]; omega
        · have HV : Hid (((capB s[k]).toNat : Int) = (s[k].toNat : Int)) := Lib.hid (by rw [cap_of _ (by omega)])
          have HNX : Hid ((s.data.toList.take (k + 1)).map capV = R ++ [.int .u8 (s[k].toNat : Int)]) := Lib.hid (by rw [HTK.out, HV.out])
          go_upto_region 8 with fail
          go_wp2_with (at_builtin; refine wpList_append_lies _ (by rfl) _ _ 112 (by rfl) y 5 i0 _ 1 1 Tryz.underlying112 hi00 hz0 hz1 hz2 rfl (by omega) (.slice A k c) _ _ (by rfl) (HROW.out.alloc _) ⟨wr.heap.size, 0, none⟩ 1 1 [.int .u8 (s[k].toNat : Int)] (by rfl) (by rfl) (World.news_of_block (cs := #[.int .u8 (s[k].toNat : Int)]) (t := 5) (fr := (0, 0)) (heap_alloc_new wr _)) (by simp [Value.oneCell']) (by omega) (by unfold maxLen; omega) (by omega) (by simp; omega) (wr.heap.size + 1) (by simp) ?_; intro g2 cap w6 hown6 hgrow6 hat6 hlt6; have HF7 := Lib.hid (HF6.out _ _ hgrow6); have HO6 := Lib.hid hown6; clear hgrow6 hat6 hown6)
          go_roundw
          case rel => exact ⟨k + 1, some ⟨g2, 0, none⟩, cap, by go_num, by omega, rfl, Lib.hid (by rw [HNX.out]; exact HO6.out), HF7⟩
          case measure => simp [intOf]; omega
      · have HV : Hid (((capB s[k]).toNat : Int) = (s[k].toNat : Int)) := Lib.hid (by rw [cap_of _ (by omega)])
        have HNX : Hid ((s.data.toList.take (k + 1)).map capV = R ++ [.int .u8 (s[k].toNat : Int)]) := Lib.hid (by rw [HTK.out, HV.out])
        go_upto_region 8 with fail
        go_wp2_with (at_builtin; refine wpList_append_lies _ (by rfl) _ _ 112 (by rfl) y 5 i0 _ 1 1 Tryz.underlying112 hi00 hz0 hz1 hz2 rfl (by omega) (.slice A k c) _ _ (by rfl) (HROW.out.alloc _) ⟨wr.heap.size, 0, none⟩ 1 1 [.int .u8 (s[k].toNat : Int)] (by rfl) (by rfl) (World.news_of_block (cs := #[.int .u8 (s[k].toNat : Int)]) (t := 5) (fr := (0, 0)) (heap_alloc_new wr _)) (by simp [Value.oneCell']) (by omega) (by unfold maxLen; omega) (by omega) (by simp; omega) (wr.heap.size + 1) (by simp) ?_; intro g2 cap w6 hown6 hgrow6 hat6 hlt6; have HF7 := Lib.hid (HF6.out _ _ hgrow6); have HO6 := Lib.hid hown6; clear hgrow6 hat6 hown6)
        go_roundw
        case rel => exact ⟨k + 1, some ⟨g2, 0, none⟩, cap, by go_num, by omega, rfl, Lib.hid (by rw [HNX.out]; exact HO6.out), HF7⟩
        case measure => simp [intOf]; omega
    · obtain rfl : k = s.size := by omega
      have hcv := HCV.out A c wr HROW.out
      go_wp2
      go_ret
      exact ⟨rfl, HF.out⟩
end Go.Proofs.YtkcnbmgaeompjaaGreatDoor
namespace Go.Proofs.YtkcnbmgaeompjaaGreatDoor
open Go.RowKit Go.Maps
set_option linter.unusedVariables false

set_option maxRecDepth 100000 in
set_option maxHeartbeats 4000000 in
theorem refKeyword_any (s : ByteArray) (w : World) (hs : s.size ≤ 5000) : Calls Tryz.prog 101 #[.string s] w fun e w' => e = .returned (.bool (decide (s.data.toList.map capB ∈ kws))) ∧ Fr No w w' := by
  obtain ⟨y, hy⟩ : ∃ y, w.heap.size = y := ⟨_, rfl⟩
  have HC : Hid (∀ w', Calls Tryz.prog 124 #[.string s] w' fun e w'' => e = .returned (.string ⟨(s.data.toList.map capB).toArray⟩) ∧ Fr No w' w'') := Lib.hid fun w' => refCaps_any s w' hs
  have HN : Hid (∀ k (hk : k < 17), decide (s.data.toList.map capB = kwN k) = true → decide (s.data.toList.map capB ∈ kws) = true) := Lib.hid fun k hk h => by
    rw [of_decide_eq_true h]; exact decide_eq_true (kwN_mem k hk)
  have HNO : Hid ((∀ k (hk : k < 17), s.data.toList.map capB ≠ kwN k) → decide (s.data.toList.map capB ∈ kws) = false) := Lib.hid fun h => decide_eq_false fun hm => by
    obtain ⟨k, hk, e⟩ := mem_kwN hm
    exact h k hk e.symm
  generalize s.data.toList.map capB = C at *
  generalize hD : decide (C ∈ kws) = D at *
  clear hD
  obtain ⟨w1, hw1⟩ : ∃ w1, w.alloc (.cells kwsV 9) = w1 := ⟨_, rfl⟩
  have hb1 : Blk w1 y 9 kwsV := by rw [← hw1, ← hy]; exact Blk.new w 9 _
  have HB1 := Lib.hid hb1
  have F1 : Hid (Fr No w w1) := Lib.hid (by rw [← hw1]; exact (Fr.refl No w).alloc _)
  have HW1 := Lib.hid hw1
  have HY := Lib.hid hy
  clear hb1 hw1 hy
  go_enter Tryz.func101, Tryz.ntmps101
  go_upto_region 2 with fail
  have he : w.alloc (.cells #[.string ⟨#[83, 69, 76, 69, 67, 84]⟩, .string ⟨#[70, 82, 79, 77]⟩, .string ⟨#[87, 72, 69, 82, 69]⟩, .string ⟨#[71, 82, 79, 85, 80]⟩, .string ⟨#[66, 89]⟩, .string ⟨#[82, 79, 76, 76, 85, 80]⟩, .string ⟨#[67, 85, 66, 69]⟩, .string ⟨#[71, 82, 79, 85, 80, 73, 78, 71]⟩, .string ⟨#[83, 69, 84, 83]⟩, .string ⟨#[67, 79, 85, 78, 84]⟩, .string ⟨#[83, 85, 77]⟩, .string ⟨#[77, 73, 78]⟩, .string ⟨#[77, 65, 88]⟩, .string ⟨#[65, 78, 68]⟩, .string ⟨#[79, 82]⟩, .string ⟨#[78, 79, 84]⟩, .string ⟨#[73, 78]⟩] 9) = w1 := HW1.out
  rw [he, HY.out]
  clear he
  go_wp2_with fail
  refine (HC.out w1).mono ?_
  rintro e w2 ⟨rfl, f2⟩
  have HB2 : Hid (Blk w2 y 9 kwsV) := Lib.hid (HB1.out.of (f2.block y HB1.out.lt id))
  have F2 := Lib.hid (F1.out.trans f2 fun _ _ h => h)
  clear f2
  go_wp2
  go_loop [5] (fun iv => ∃ k : Nat, k ≤ 17 ∧ iv = .int .i64 (k : Nat) ∧ Hid (∀ j (hj : j < 17), j < k → C ≠ kwN j)) (fun iv => 17 - (intOf iv).toNat)
  case atStart => exact ⟨0, Nat.zero_le _, rfl, Lib.hid (fun j h hj => by omega)⟩
  case round =>
    obtain ⟨k, hk, rfl, HNE⟩ := hrel
    by_cases hlt : k < 17
    · have c0 : w2.cell? ⟨y, k, none⟩ = some (.string ⟨(kwN k).toArray⟩) := (HB2.out.cell k).trans (kwsV_at hlt)
      have HNX : Hid (¬ C = kwN k → ∀ j (hj : j < 17), j < k + 1 → C ≠ kwN j) := Lib.hid fun h j hj hjk => by
        rcases Nat.lt_or_eq_of_le (Nat.le_of_lt_succ hjk) with h3 | rfl
        · exact HNE.out j hj h3
        · exact h
      have HYS := Lib.hid (HN.out k hlt)
      have hk0 : (0 : Int) ≤ (k : Int) := by omega
      have hk1 : (k : Int) < 17 := by omega
      clear HNE
      generalize kwN k = t at *
      by_cases hq : C = t
      · subst hq
        obtain rfl : D = true := HYS.out (by simp)
        go_wp2
        go_ret
        exact ⟨rfl, F2.out⟩
      · have hq2 : (t == C) = false := by simp; exact fun h => hq h.symm
        have HNX2 := Lib.hid (HNX.out hq)
        clear hq
        go_wp2
        refine ⟨⟨k + 1, by omega, by go_num, HNX2⟩, by simp [intOf]; omega⟩
    · obtain rfl : k = 17 := by omega
      obtain rfl : D = false := HNO.out fun j hj => HNE.out j hj hj
      go_wp2
      go_ret
      exact ⟨rfl, F2.out⟩
set_option maxRecDepth 100000 in
set_option maxHeartbeats 4000000 in
theorem refName_any (s : ByteArray) (w : World) (hs : s.size ≤ 5000) : Calls Tryz.prog 43 #[.string s] w fun e w' => e = .returned (.bool (nameB s.data.toList)) ∧ Fr No w w' := by
  have HK := Lib.hid (refKeyword_any s w hs)
  have HL : Hid (∀ b : UInt8, Calls Tryz.prog 99 #[.int .u8 (b.toNat : Nat)] w fun e w' => e = .returned (.bool (isLet b)) ∧ w = w') := Lib.hid fun b => refLetter_any b w
  have HDG : Hid (∀ b : UInt8, Calls Tryz.prog 100 #[.int .u8 (b.toNat : Nat)] w fun e w' => e = .returned (.bool (isDig b)) ∧ w = w') := Lib.hid fun b => refDigit_any b w
  rcases Nat.eq_zero_or_pos s.size with h0 | h0
  · have e : s = ⟨#[]⟩ := by
      apply ByteArray.ext
      exact Array.eq_empty_of_size_eq_zero h0
    subst e
    go_enter Tryz.func43, Tryz.ntmps43
    go_wp2
    go_ret
    exact ⟨rfl, Fr.refl _ _⟩
  · have hne : s.toList.isEmpty = false := by
      rw [ByteArray.toList_eq]
      cases hl : s.data.toList with
      | nil => exact absurd (len_data s) (by rw [hl]; simp; omega)
      | cons _ _ => rfl
    have hl0 : 0 < s.data.toList.length := by rw [len_data]; exact h0
    have hfst : firstB s.data.toList = kindB (s[0]'h0) := by
      have : s.data.toList = s.data.toList[0] :: s.data.toList.drop 1 := by
        rw [← List.drop_eq_getElem_cons hl0, List.drop_zero]
      rw [this]; rfl
    by_cases hbig : 32 < s.size
    · have HV : Hid (nameB s.data.toList = false) := Lib.hid (by unfold nameB; rw [len_data]; exact decide_eq_false fun h => by omega)
      clear hfst hl0
      go_enter Tryz.func43, Tryz.ntmps43
      go_wp2
      go_ret
      exact ⟨ret_bool (by rw [HV.out]), Fr.refl _ _⟩
    · have hb0 := u8_lt (s[0]'h0)
      cases hlet : isLet (s[0]'h0) with
      | false =>
        have HV : Hid (nameB s.data.toList = false) := Lib.hid (by
          unfold nameB
          rw [hfst]
          refine decide_eq_false fun h => ?_
          rw [(kind_let _).1 h.2.1] at hlet
          cases hlet)
        have HLT := Lib.hid hlet
        clear hfst hl0 hlet
        go_enter Tryz.func43, Tryz.ntmps43
        go_wp2_with fail
        refine (HL.out _).mono ?_
        rintro e w' ⟨rfl, rfl⟩
        rw [HLT.out]
        go_wp2
        go_ret
        exact ⟨ret_bool (by rw [HV.out]), Fr.refl _ _⟩
      | true =>
        have HLT := Lib.hid hlet
        have HBAD : Hid (∀ k (hk : k < s.size), goB s[k] = false → AllTo goB s k → nameB s.data.toList = false) := Lib.hid fun k hk hg ha => by
          unfold nameB
          refine decide_eq_false fun h => ?_
          have := runB_to (by omega) ha (fun _ => hg)
          rw [len_data] at h
          omega
        have HGOOD : Hid (AllTo goB s s.size → nameB s.data.toList = !decide (s.data.toList.map capB ∈ kws)) := Lib.hid fun ha => by
          have h1 := runB_to (Nat.le_refl _) ha (fun h => absurd h (by omega))
          unfold nameB
          rw [len_data, h1, hfst, (kind_let _).2 hlet]
          simp
          omega
        have HGO : Hid (∀ b, goB b = (isLet b || isDig b)) := Lib.hid fun _ => rfl
        generalize nameB s.data.toList = V at *
        generalize decide (s.data.toList.map capB ∈ kws) = D at *
        clear hfst hl0 hlet
        go_enter Tryz.func43, Tryz.ntmps43
        go_wp2_with fail
        refine (HL.out _).mono ?_
        rintro e w' ⟨rfl, rfl⟩
        rw [HLT.out]
        go_wp2
        go_loop [3] (fun iv => ∃ k : Nat, k ≤ s.size ∧ iv = .int .i64 (k : Nat) ∧ Hid (AllTo goB s k)) (fun iv => s.size - (intOf iv).toNat)
        case atStart => exact ⟨0, Nat.zero_le _, rfl, Lib.hid (AllTo.zero _ _)⟩
        case round =>
          obtain ⟨k, hk, rfl, HA⟩ := hrel
          by_cases hlt : k < s.size
          · have hb := u8_lt s[k]
            have hk0 : (0 : Int) ≤ (k : Int) := by omega
            have hk1 : (k : Int) < (s.size : Int) := by omega
            have HGK := Lib.hid (HGO.out s[k])
            have HNX := Lib.hid (HA.out.succ hlt)
            have HBK : Hid (goB s[k] = false → V = false) := Lib.hid fun h => HBAD.out k hlt h HA.out
            have HLK := Lib.hid (HL.out s[k])
            have HDK := Lib.hid (HDG.out s[k])
            clear HA
            generalize goB s[k] = G at *
            generalize isLet s[k] = L1 at *
            generalize isDig s[k] = D1 at *
            cases L1 with
            | true =>
              obtain rfl : G = true := HGK.out
              go_wp2_with fail
              refine HLK.out.mono ?_
              rintro e w' ⟨rfl, rfl⟩
              go_wp2
              refine ⟨⟨k + 1, by omega, by go_num, Lib.hid (HNX.out trivial)⟩, by simp [intOf]; omega⟩
            | false =>
              obtain rfl : G = D1 := by have := HGK.out; simpa using this
              go_wp2_with fail
              refine HLK.out.mono ?_
              rintro e w' ⟨rfl, rfl⟩
              go_wp2_with fail
              refine HDK.out.mono ?_
              rintro e w' ⟨rfl, rfl⟩
              cases G with
              | true =>
                go_wp2
                refine ⟨⟨k + 1, by omega, by go_num, Lib.hid (HNX.out trivial)⟩, by simp [intOf]; omega⟩
              | false =>
                have HVF := Lib.hid (HBK.out rfl)
                go_wp2
                go_ret
                exact ⟨ret_bool (by rw [HVF.out]), Fr.refl _ _⟩
          · obtain rfl : k = s.size := by omega
            have HVV := Lib.hid (HGOOD.out HA.out)
            go_wp2_with fail
            refine HK.out.mono ?_
            rintro e w' ⟨rfl, f⟩
            have F := Lib.hid f
            clear f
            go_wp2
            go_ret
            exact ⟨ret_bool (by rw [HVV.out]), F.out⟩
end Go.Proofs.YtkcnbmgaeompjaaGreatDoor
namespace Go.Proofs.YtkcnbmgaeompjaaGreatDoor
open Go.RowKit Go.Maps
set_option linter.unusedVariables false

theorem dbl_app : ∀ a b : Tx, dbl (a ++ b) = dbl a ++ dbl b
  | [], b => rfl
  | c :: a, b => by
    rw [List.cons_append, dbl_cons, dbl_cons, dbl_app a b]
    split <;> rfl
theorem dbl_len2 : ∀ t : Tx, (dbl t).length ≤ 2 * t.length
  | [] => Nat.le_refl _
  | b :: t => by
    have := dbl_len2 t
    rw [dbl_cons]; split <;> simp <;> omega
theorem dbl_step (s : ByteArray) (k : Nat) (hk : k < s.size) : dbl (s.data.toList.take (k + 1)) = dbl (s.data.toList.take k) ++ if s[k] = 39 then [39, 39] else [s[k]] := by
  have hl : k < s.data.toList.length := by rw [len_data]; exact hk
  rw [List.take_add_one, List.getElem?_eq_getElem hl, dbl_app]
  congr 1
theorem one_ext (s : ByteArray) (k : Nat) (hk : k < s.size) : s.extract k (k + 1) = ⟨[s[k]].toArray⟩ := mk_eq (by
  have hl : k < s.data.toList.length := by rw [len_data]; exact hk
  rw [ext_toList, List.take_add_one, List.getElem?_eq_getElem hl, List.drop_append_of_le_length (by rw [List.length_take]; omega), List.drop_of_length_le (by rw [List.length_take]; omega)]
  rfl)
theorem u8_39 : ∀ b : UInt8, b.toNat = 39 ↔ b = 39 := all_bytes (p := fun b => b.toNat = 39 ↔ b = 39) (by decide +kernel)
set_option maxRecDepth 100000 in
set_option maxHeartbeats 4000000 in
theorem refQuote_any (s : ByteArray) (w : World) (hs : s.size ≤ 5000) : Calls Tryz.prog 136 #[.string s] w fun e w' => e = .returned (.string ⟨(quoteB s.data.toList).toArray⟩) ∧ w = w' := by
  obtain ⟨Z, hZ⟩ : ∃ Z : Nat → Tx, ∀ k, 39 :: dbl (s.data.toList.take k) = Z k := ⟨fun k => 39 :: dbl (s.data.toList.take k), fun _ => rfl⟩
  have z0 : Z 0 = [39] := by rw [← hZ]; rfl
  have HZN : Hid (∀ k (hk : k < s.size), Z (k + 1) = Z k ++ if s[k] = 39 then [39, 39] else [s[k]]) := Lib.hid fun k hk => by
    rw [← hZ, ← hZ, dbl_step s k hk]; rfl
  have HZL : Hid (∀ k, (Z k).length ≤ 10001) := Lib.hid fun k => by
    rw [← hZ]
    have h1 := dbl_len2 (s.data.toList.take k)
    have h2 : (s.data.toList.take k).length ≤ s.size := by rw [List.length_take, len_data]; omega
    simp only [List.length_cons]
    omega
  have HQ : Hid (quoteB s.data.toList = Z s.size ++ [39]) := Lib.hid (by
    rw [← hZ, List.take_of_length_le (by rw [len_data]; omega)]; rfl)
  have HO := Lib.hid (one_ext s)
  have HZ0 := Lib.hid z0
  clear hZ z0
  go_enter Tryz.func136, Tryz.ntmps136
  go_wp2
  go_loop [3, 4] (fun sv iv => ∃ k : Nat, iv = .int .i64 (k : Nat) ∧ k ≤ s.size ∧ sv = .string ⟨(Z k).toArray⟩) (fun _ iv => s.size - (intOf iv).toNat)
  case atStart => exact ⟨0, rfl, Nat.zero_le _, by rw [HZ0.out]⟩
  case round =>
    obtain ⟨k, rfl, hk, rfl⟩ := hrel
    have hzl := HZL.out k
    by_cases hlt : k < s.size
    · have hk0 : (0 : Int) ≤ (k : Int) := by omega
      have hk1 : (k : Int) < (s.size : Int) := by omega
      have hk2 : (k : Int) + 1 ≤ (s.size : Int) := by omega
      have hb := u8_lt s[k]
      have hzn := HZN.out k hlt
      have ho := HO.out k hlt
      obtain ⟨gb, hgb⟩ : ∃ gb, s.extract k (k + 1) = gb := ⟨_, rfl⟩
      rw [hgb] at ho
      by_cases hq : s[k] = 39
      · have hq2 : ((s[k].toNat : Int) == 39) = true := by have := (u8_39 _).2 hq; simp; omega
        rw [if_pos hq] at hzn
        obtain ⟨Y, hY⟩ : ∃ Y, Z k ++ [39] = Y := ⟨_, rfl⟩
        have hyl : Y.length ≤ 10002 := by rw [← hY, List.length_append]; simp; omega
        have hc1 : ∀ w0, (Op.stringOp .add ⟨(Z k).toArray⟩ ⟨#[39]⟩).run Tryz.prog w0 = .ok (.string ⟨Y.toArray⟩) w0 := fun w0 => by
          rw [← hY]; exact run_cat _ [39] (by unfold maxLen; simp; omega) w0
        have hc2 : ∀ w0, (Op.stringOp .add ⟨Y.toArray⟩ gb).run Tryz.prog w0 = .ok (.string ⟨(Z (k + 1)).toArray⟩) w0 := fun w0 => by
          rw [ho, hq, run_cat _ _ (by unfold maxLen; simp; omega) w0, hzn, ← hY, List.append_assoc]; rfl
        clear hzn ho hY hq
        go_wp2
        refine ⟨⟨k + 1, by go_num, by omega, rfl⟩, by simp [intOf]; omega⟩
      · have hq2 : ((s[k].toNat : Int) == 39) = false := by have h39 : ¬ s[k].toNat = 39 := fun h => hq ((u8_39 _).1 h); simp; omega
        rw [if_neg hq] at hzn
        have hc2 : ∀ w0, (Op.stringOp .add ⟨(Z k).toArray⟩ gb).run Tryz.prog w0 = .ok (.string ⟨(Z (k + 1)).toArray⟩) w0 := fun w0 => by
          rw [ho, run_cat _ _ (by unfold maxLen; simp; omega) w0, hzn]
        clear hzn ho hq
        go_wp2
        refine ⟨⟨k + 1, by go_num, by omega, rfl⟩, by simp [intOf]; omega⟩
    · obtain rfl : k = s.size := by omega
      have hc1 : ∀ w0, (Op.stringOp .add ⟨(Z s.size).toArray⟩ ⟨#[39]⟩).run Tryz.prog w0 = .ok (.string ⟨(Z s.size ++ [39]).toArray⟩) w0 := fun w0 => run_cat _ [39] (by unfold maxLen; simp; omega) w0
      go_wp2
      go_ret
      exact ⟨by rw [HQ.out]; rfl, rfl⟩
end Go.Proofs.YtkcnbmgaeompjaaGreatDoor
