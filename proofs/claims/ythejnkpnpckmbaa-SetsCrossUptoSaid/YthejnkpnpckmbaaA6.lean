/- The document's List; same; Names of both. -/
import Derived.Test.YthejnkpnpckmbaaA5
namespace Go.Proofs.Ythejnkpnpckmbaa
open Go.RowKit Go.Maps
set_option linter.unusedVariables false

set_option maxRecDepth 100000 in
theorem rlist_in (s : Nat) (hs : s < 64) (w : World) : Calls Try.prog 9 #[.int .i64 (s : Int)] w (TellsR 1 natG (listN s 6) w) := by
  obtain ⟨B, hB⟩ : ∃ B, w.heap.size = B := ⟨_, rfl⟩
  have HC : Hid (∀ (k : Nat) (w : World), k < 6 → Calls Try.prog 16 #[.int .i64 (s : Int), .int .i64 (k : Int)] w (TellsB (hasB s k) w)) := Lib.hid fun k w hk => has_any s k hs hk w
  have hlt : (s : Int) < 64 := by omega
  have HG1 : Hid (Grow B 3 1 natG w (.slice none 0 0) (listN s 0)) := Lib.hid (Grow.nil_ _ 3 1 natG w)
  have HB := Lib.hid hB
  clear hB
  go_enter Try.func9, Try.ntmps9
  go_wp2_with fail
  go_loopg [3, 4, 5] 6 (fun g r3 r4 r5 wr => Hid (∃ (j n : Nat) (A : Option Addr) (c : Nat), r4 = .int .i64 (j : Nat) ∧ j + g = 6 ∧ r3 = .slice A n c ∧ n = (listN s j).length ∧ Grow B 3 1 natG wr (.slice A n c) (listN s j) ∧ Fr No w wr))
  case atStart => exact Lib.hid ⟨0, 0, _, _, rfl, by omega, rfl, rfl, HG1.out, Fr.refl _ _⟩
  case round =>
  obtain ⟨j, n, A, c, rfl, hj6, rfl, hn, hg, hf⟩ := hrel.out
  clear hrel
  have HN := Lib.hid hn
  have HG := Lib.hid hg
  have HF := Lib.hid hf
  by_cases hj : j < 6
  · have hji : (j : Int) < 6 := by omega
    have HC1 := Lib.hid (HC.out j wr hj)
    have HL := Lib.hid (listN_succ s j)
    have hnl : n ≤ 6 := by rw [hn]; have := listN_len s j; omega
    clear hn hf hg
    go_wp2_with fail
    refine HC1.out.mono ?_
    rintro e w1 ⟨rfl, f1⟩
    have HF1 := Lib.hid (HF.out.trans f1 fun _ _ h => h)
    have HG1 := Lib.hid (HG.out.keep natG_elem f1 fun _ h => h.elim)
    clear f1
    obtain ⟨x, hx⟩ : ∃ x, hasB s j = x := ⟨_, rfl⟩
    have HH := Lib.hid hx
    rw [hx]
    clear hx
    cases x with
    | false =>
      have HT : Hid (listN s (j + 1) = listN s j) := Lib.hid (by rw [HL.out, HH.out]; exact List.append_nil _)
      go_wp2_with fail
      obtain ⟨g1, rfl⟩ : ∃ g1, gk = g1 + 1 := ⟨gk - 1, by omega⟩
      go_roundg g1
      case rel => exact Lib.hid ⟨j + 1, n, A, c, by go_num, by omega, rfl, by rw [HT.out]; exact HN.out, by rw [HT.out]; exact HG1.out, HF1.out⟩
      all_goals omega
    | true =>
      have HT : Hid (listN s (j + 1) = listN s j ++ [j]) := Lib.hid (by rw [HL.out, HH.out]; rfl)
      obtain ⟨A', c', w6, hrun, hg6, hf6, _⟩ := Grow.push (bytes := 8) natG_elem HG1.out HB.out.symm HF1.out 22 Try.underlying22 (.int .i64 0) (by kernel_rfl) rfl j (.int .i64 j) rfl rfl (by rw [← HN.out]; omega) (by rw [← HN.out]; unfold maxLen; omega)
      rw [← HN.out] at hrun hg6
      have HRUN := Lib.hid hrun
      have HG6 := Lib.hid hg6
      have HF6 := Lib.hid hf6
      clear hrun hg6 hf6
      go_wp2_with (at_builtin; refine wpList_add rfl _ _ _ _ rfl _ _ _ _ rfl rfl (HRUN.out _) ?_)
      obtain ⟨g1, rfl⟩ : ∃ g1, gk = g1 + 1 := ⟨gk - 1, by omega⟩
      go_roundg g1
      case rel => exact Lib.hid ⟨j + 1, n + 1, A', c', by go_num, by omega, rfl, by rw [HT.out, List.length_append, ← HN.out]; rfl, by rw [HT.out]; exact HG6.out, HF6.out⟩
      all_goals omega
  · have hji : (6 : Int) ≤ (j : Int) := by omega
    have HT : Hid (listN s j = listN s 6) := Lib.hid (by rw [show j = 6 by omega])
    clear hn hg hf
    go_wp2_with fail
    go_ret
    have := HG.out.tells natG_elem HB.out.symm HF.out
    rw [HT.out] at this
    exact this
set_option maxRecDepth 100000 in
theorem rlist_out (s : Int) (hs : s < 0 ∨ 64 ≤ s) (w : World) : Calls Try.prog 9 #[.int .i64 s] w (TellsR 1 natG [] w) := by
  have HE : Hid (TellsR 1 natG [] w (.returned (.slice none 0 0)) w) := Lib.hid ⟨_, rfl, RowE.nil _ _ _ _, Fr.refl _ _⟩
  rcases Int.lt_or_le s 0 with h | h
  · have h2 : (decide ((0 : Int) ≤ s)) = false := decide_eq_false (by omega)
    clear hs
    go_enter Try.func9, Try.ntmps9
    go_wp2_with fail
    refine wp_loop_rounds 1 ?_
    rw [rounds_succ]
    go_wp2_with fail
    go_ret
    exact HE.out
  · have h2 : (64 : Int) ≤ s := by omega
    clear hs
    go_enter Try.func9, Try.ntmps9
    go_wp2_with fail
    refine wp_loop_rounds 1 ?_
    rw [rounds_succ]
    go_wp2_with fail
    go_ret
    exact HE.out
theorem rlist_any (s : Int) (w : World) : Calls Try.prog 9 #[.int .i64 s] w (TellsR 1 natG (listB s) w) := by
  by_cases h : 0 ≤ s ∧ s < 64
  · obtain ⟨k, rfl⟩ := Int.eq_ofNat_of_zero_le h.1
    rw [listB_in (by omega)]
    exact rlist_in k (by omega) w
  · rw [listB_out (by omega)]
    exact rlist_out s (by omega) w

set_option maxRecDepth 100000 in
/-- same, of two that are. -/
theorem same_true {K K2 : Nat → Prop} {l : List Nat} {u v : Value} (w : World) (hu : RowE K w 1 (natG K w) u l) (hv : RowE K2 w 1 (natG K2 w) v l) : Calls Try.prog 7 #[u, v] w (TellsB true w) := by
  obtain ⟨A, c, rfl, hlc, hcm, hA⟩ := hu
  obtain ⟨C, c2, rfl, hlc2, hcm2, hC⟩ := hv
  have HA := Lib.hid hA
  have HC := Lib.hid hC
  obtain ⟨n, hn⟩ : ∃ n, l.length = n := ⟨_, rfl⟩
  have HN := Lib.hid hn
  rw [hn] at hlc hlc2 ⊢
  unfold maxLen at hcm hcm2
  clear hA hC hn
  go_enter Try.func7, Try.ntmps7
  go_wp2
  go_loopg [5] n (fun g r5 wr => Hid (∃ k : Nat, r5 = .int .i64 k ∧ k + g = n ∧ Fr No w wr))
  case atStart => exact Lib.hid ⟨0, rfl, by omega, Fr.refl _ _⟩
  case round =>
    obtain ⟨k, rfl, hk, hf⟩ := hrel.out
    clear hrel
    have HF := Lib.hid hf
    by_cases hlt : k < n
    · obtain ⟨g, o, rfl, _, hg1, h1⟩ := HA.out (by rw [HN.out]; omega)
      obtain ⟨g2, o2, rfl, _, hg2, h2⟩ := HC.out (by rw [HN.out]; omega)
      have hkl : k < l.length := by rw [HN.out]; exact hlt
      have hki : (k : Int) < (n : Int) := by omega
      obtain ⟨cs, _, hcs, hE⟩ := h1 k hkl
      obtain ⟨cs2, _, hcs2, hE2⟩ := h2 k hkl
      have d1 : wr.cell? ⟨g, o + k, none⟩ = some (.int .i64 (l[k] : Nat)) := (cell_of_heap (hf.block g hg1 id)).trans (by have := hcs 0 (by decide); rw [hE] at this; simpa using this)
      have d2 : wr.cell? ⟨g2, o2 + k, none⟩ = some (.int .i64 (l[k] : Nat)) := (cell_of_heap (hf.block g2 hg2 id)).trans (by have := hcs2 0 (by decide); rw [hE2] at this; simpa using this)
      generalize l[k] = x at *
      clear h1 h2 hkl hcs hcs2 hE hE2 hf
      go_upto_region 6 with fail
      go_quiet (fail)
      go_wp2
      obtain ⟨g1, rfl⟩ : ∃ g1, gk = g1 + 1 := ⟨gk - 1, by omega⟩
      go_roundg g1
      case rel => exact Lib.hid ⟨k + 1, by go_num, by omega, HF.out.trans ((Fr.refl No wr).drewN _) fun _ _ h => h⟩
      all_goals omega
    · have hki : (n : Int) ≤ (k : Int) := by omega
      clear hf
      go_wp2
      go_ret
      exact ⟨rfl, HF.out⟩
end Go.Proofs.Ythejnkpnpckmbaa
