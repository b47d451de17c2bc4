/- CUBE. -/
import Derived.Test.YthejnkpnpckmbaaB3
namespace Go.Proofs.Ythejnkpnpckmbaa
open Go.RowKit Go.Maps
set_option linter.unusedVariables false

theorem pick_sub {α : Type} (b : Nat) : ∀ l : List α, (pick b l).length ≤ l.length
  | [] => Nat.le_refl _
  | x :: l => by
    unfold pick
    have := pick_sub b l
    split <;> simp <;> omega
theorem pick_mem {α : Type} (b : Nat) : ∀ (l : List α) x, x ∈ pick b l → x ∈ l
  | [], x, h => h
  | y :: l, x, h => by
    unfold pick at h
    split at h
    · rcases List.mem_cons.1 h with rfl | h
      · simp
      · simp [pick_mem b l x h]
    · simp [pick_mem b l x h]
theorem pick_drop {α : Type} {b : Nat} {l : List α} {j e : Nat} (h : j < l.length) (he : e = l.length - 1 - j) : pick b (l.drop j) = (if b / 2 ^ e % 2 = 1 then [l[j]] else []) ++ pick b (l.drop (j + 1)) := by
  rw [List.drop_eq_getElem_cons h, pick, List.length_drop, show l.length - (j + 1) = e by omega]
  split <;> rfl
set_option maxRecDepth 100000 in
set_option maxHeartbeats 1000000 in
/-- chosen. -/
theorem chosen_any {K : Nat → Prop} {l : List Nat} {v : Value} (b : Nat) (w : World) (h : RowE K w 1 (natG K w) v l) (hl : l.length ≤ 16) (hb : b < 65536) : Calls Try.prog 41 #[v, .int .i64 (b : Int)] w (TellsR 1 natG (pick b l) w) := by
  obtain ⟨A, c, rfl, hlc, hcm, hrow⟩ := h
  obtain ⟨n, hn⟩ : ∃ n, l.length = n := ⟨_, rfl⟩
  rw [hn] at hlc hl ⊢
  have HROW := Lib.hid hrow
  have HN := Lib.hid hn
  unfold maxLen at hcm
  obtain ⟨B, hB⟩ : ∃ B, w.heap.size = B := ⟨_, rfl⟩
  obtain ⟨w1, hw1⟩ : ∃ w1, w.alloc (.cells #[] 3) = w1 := ⟨_, rfl⟩
  have HF1 : Hid (Fr No w w1) := Lib.hid (by rw [← hw1]; exact (Fr.refl No w).alloc _)
  have HG1 : Hid (Grow B 3 1 natG w1 (.slice (some ⟨B, 0, none⟩) 0 0) []) := Lib.hid (by rw [← hw1, ← hB]; exact Grow.empty _ 3 1 natG w (Nat.le_refl _) #[] rfl)
  have HW1 := Lib.hid hw1
  have HB := Lib.hid hB
  clear hrow hn hw1 hB
  go_enter Try.func41, Try.ntmps41
  go_upto_region 2 with fail
  rw [HW1.out, HB.out]
  go_wp2_with fail
  go_loopg [5, 6, 7, 11] n (fun k r5 r6 r7 r11 wr => Hid (∃ (j m : Nat) (acc : List Nat) (A : Option Addr) (c : Nat), r11 = .int .i64 (j : Nat) ∧ j + k = n ∧ acc.length = m ∧ m ≤ j ∧ r5 = .slice A m c ∧ acc ++ pick b (l.drop j) = pick b l ∧ Grow B 3 1 natG wr (.slice A m c) acc ∧ Fr No w wr))
  case atStart => exact Lib.hid ⟨0, 0, [], _, _, rfl, by omega, rfl, Nat.le_refl _, rfl, rfl, HG1.out, HF1.out⟩
  case round =>
  obtain ⟨j, m, acc, A3, c3, rfl, hjn, hacc, hmj, rfl, happ, hg3, hf⟩ := hrel.out
  clear hrel
  have HG := Lib.hid hg3
  have HF := Lib.hid hf
  have HAP := Lib.hid happ
  have HAC := Lib.hid hacc
  clear hg3 happ hacc
  by_cases hj : j < n
  · have hji : (j : Int) < (n : Int) := by omega
    have hjl : j < l.length := by rw [HN.out]; exact hj
    obtain ⟨g, off, rfl, hK, hg, hel⟩ := HROW.out (by omega)
    obtain ⟨cs, hcl, hcs, hE⟩ := hel j hjl
    have e0 : wr.cell? ⟨g, off + j, none⟩ = some (.int .i64 (l[j] : Nat)) := (cell_of_heap (hf.block g hg id)).trans (by have := hcs 0 (by decide); rw [hE] at this; simpa using this)
    obtain ⟨e, he⟩ : ∃ e, n - 1 - j = e := ⟨_, rfl⟩
    have hsub : (n : Int) - 1 - (j : Int) = (e : Int) := by omega
    have he16 : e ≤ 16 := by omega
    have hpd := pick_drop (b := b) hjl (e := e) (by rw [HN.out]; exact he.symm)
    obtain ⟨x, hx⟩ : ∃ x, l[j] = x := ⟨_, rfl⟩
    rw [hx] at e0 hpd
    obtain ⟨q, hq⟩ : ∃ q, b / 2 ^ e = q := ⟨_, rfl⟩
    have hq2 : q < 65536 := by rw [← hq]; exact Nat.lt_of_le_of_lt (Nat.div_le_self _ _) hb
    have hdiv : (b : Int) / (2 : Int) ^ e = (q : Int) := by rw [← hq]; simp
    have hand := i64_and1 q (by omega)
    obtain ⟨p, hp⟩ : ∃ p, q % 2 = p := ⟨_, rfl⟩
    rw [hq, hp] at hpd
    rw [hp] at hand
    have HPD := Lib.hid hpd
    have hp2 : p = 0 ∨ p = 1 := by omega
    clear hcs hcl hel hK hf hE hx hq hp he hpd
    rcases hp2 with rfl | rfl
    · have HT : Hid (acc ++ pick b (l.drop (j + 1)) = pick b l) := Lib.hid (by rw [← HAP.out, HPD.out]; simp)
      go_wp2_with fail
      obtain ⟨g1, rfl⟩ : ∃ g1, gk = g1 + 1 := ⟨gk - 1, by omega⟩
      go_roundg g1
      case rel => exact Lib.hid ⟨j + 1, m, acc, A3, c3, by go_num, by omega, HAC.out, by omega, rfl, HT.out, HG.out, HF.out⟩
      all_goals omega
    · have HT : Hid ((acc ++ [x]) ++ pick b (l.drop (j + 1)) = pick b l) := Lib.hid (by rw [← HAP.out, HPD.out]; simp)
      have hgp := HG.out
      rw [← HAC.out] at hgp
      obtain ⟨A', c', w6, hrun, hg6, hf6, _⟩ := Grow.push (bytes := 8) natG_elem hgp HB.out.symm HF.out 22 Try.underlying22 (.int .i64 0) (by kernel_rfl) rfl x (.int .i64 x) rfl rfl (by rw [HAC.out]; omega) (by rw [HAC.out]; unfold maxLen; omega)
      rw [HAC.out] at hrun hg6
      have HRUN := Lib.hid hrun
      have HG6 := Lib.hid hg6
      have HF6 := Lib.hid hf6
      clear hrun hg6 hf6 hgp
      go_wp2_with (at_builtin; refine wpList_add rfl _ _ _ _ rfl _ _ _ _ rfl rfl (HRUN.out _) ?_)
      obtain ⟨g1, rfl⟩ : ∃ g1, gk = g1 + 1 := ⟨gk - 1, by omega⟩
      go_roundg g1
      case rel => exact Lib.hid ⟨j + 1, m + 1, acc ++ [x], A', c', by go_num, by omega, by rw [List.length_append, HAC.out]; rfl, by omega, rfl, HT.out, HG6.out, HF6.out⟩
      all_goals omega
  · have hji : (n : Int) ≤ (j : Int) := by omega
    have HT : Hid (acc = pick b l) := Lib.hid (by have := HAP.out; rwa [List.drop_of_length_le (by rw [HN.out]; omega), show pick b ([] : List Nat) = [] from rfl, List.append_nil] at this)
    clear hf
    go_wp2_with fail
    go_ret
    have := HG.out.tells natG_elem HB.out.symm HF.out
    rw [HT.out] at this
    exact this

set_option maxRecDepth 100000 in
set_option maxHeartbeats 1000000 in
/-- cube. -/
theorem cube_any {K : Nat → Prop} {l : List Nat} {v : Value} (w : World) (h : RowE K w 1 (natG K w) v l) (hb : ∀ x ∈ l, x < 64) (hl : l.length ≤ 6) : Calls Try.prog 40 #[v] w (TellsR 1 natG (cubeL l) w) := by
  obtain ⟨A, n, c, rfl, hn⟩ := row_form h
  rw [← hn] at hl
  have HROW := Lib.hid h
  obtain ⟨B, hB⟩ : ∃ B, w.heap.size = B := ⟨_, rfl⟩
  obtain ⟨w1, hw1⟩ : ∃ w1, w.alloc (.cells #[] 3) = w1 := ⟨_, rfl⟩
  have HF1 : Hid (Fr No w w1) := Lib.hid (by rw [← hw1]; exact (Fr.refl No w).alloc _)
  have HG1 : Hid (Grow B 3 1 natG w1 (.slice (some ⟨B, 0, none⟩) 0 0) []) := Lib.hid (by rw [← hw1, ← hB]; exact Grow.empty _ 3 1 natG w (Nat.le_refl _) #[] rfl)
  have HW1 := Lib.hid hw1
  have HB := Lib.hid hB
  have HCH : Hid (∀ (b : Nat) (wx : World), b < 64 → Fr No w wx → Calls Try.prog 41 #[.slice A n c, .int .i64 (b : Int)] wx (TellsR 1 natG (pick b l) wx)) := Lib.hid fun b wx hbb hfx => chosen_any b wx (h.at_ natG_elem hfx) (by rw [← hn]; omega) (by omega)
  have HUL : Hid (∀ b, ∀ x ∈ pick b l, x < 64) := Lib.hid fun b x hx => hb x (pick_mem b l x hx)
  obtain ⟨N, hN⟩ : ∃ N, 2 ^ n = N := ⟨_, rfl⟩
  have hN64 : N ≤ 64 := by rw [← hN]; exact Nat.pow_le_pow_right (by decide) hl
  have hw : IntKind.i64.wrap ((2 : Int) ^ n) = (N : Int) := by
    rw [show ((2 : Int) ^ n) = ((2 ^ n : Nat) : Int) by simp, hN, IntKind.wrap_i64]; omega
  have HCL : Hid (cubeL l = (dl N).map fun b => uni (pick b l)) := Lib.hid (by rw [← hN, hn]; rfl)
  rw [HCL.out]
  clear hn h hb hw1 hB hN
  go_enter Try.func40, Try.ntmps40
  go_upto_region 2 with fail
  rw [HW1.out, HB.out]
  go_wp2_with fail
  go_loopg [3, 4] N (fun k r3 r4 wr => Hid (∃ (z : Int) (m : Nat) (acc : List Nat) (A : Option Addr) (c : Nat), r4 = .int .i64 z ∧ z = (k : Int) - 1 ∧ m + k = N ∧ acc.length = m ∧ r3 = .slice A m c ∧ acc ++ ((dl k).map fun b => uni (pick b l)) = ((dl N).map fun b => uni (pick b l)) ∧ Grow B 3 1 natG wr (.slice A m c) acc ∧ Fr No w wr))
  case atStart => exact Lib.hid ⟨_, 0, [], _, _, rfl, by omega, by omega, rfl, rfl, rfl, HG1.out, HF1.out⟩
  case round =>
  obtain ⟨z, m, acc, A3, c3, rfl, hz, hmk, hacc, rfl, happ, hg, hf⟩ := hrel.out
  clear hrel
  have HG := Lib.hid hg
  have HF := Lib.hid hf
  have HAP := Lib.hid happ
  have HAC := Lib.hid hacc
  clear hg hf happ hacc
  cases gk with
  | zero =>
    obtain rfl : z = -1 := by omega
    clear hz
    have HT := Lib.hid (show acc = ((dl N).map fun b => uni (pick b l)) by have := HAP.out; rwa [show dl 0 = [] from rfl, List.map_nil, List.append_nil] at this)
    go_wp2_with fail
    go_ret
    have := HG.out.tells natG_elem HB.out.symm HF.out
    rw [HT.out] at this
    exact this
  | succ i =>
    obtain rfl : z = (i : Int) := by omega
    clear hz
    have hi0 : (0 : Int) ≤ (i : Int) := by omega
    have HC := Lib.hid (HCH.out i wr (by omega) HF.out)
    obtain ⟨u, hu⟩ : ∃ u, uni (pick i l) = u := ⟨_, rfl⟩
    have HU := Lib.hid hu
    have HT : Hid ((acc ++ [u]) ++ ((dl i).map fun b => uni (pick b l)) = ((dl N).map fun b => uni (pick b l))) := Lib.hid (by rw [← HAP.out, ← hu]; simp [dl])
    clear hu
    go_wp2_with fail
    refine HC.out.mono ?_
    rintro e w2 ⟨v2, rfl, hr2, f2⟩
    have HF2 := Lib.hid (HF.out.trans f2 fun _ _ h => h)
    have HG2 := Lib.hid (HG.out.keep natG_elem f2 fun _ h => h.elim)
    have HC2 := Lib.hid (union_any w2 hr2 (HUL.out i))
    obtain ⟨A5, n5, c5, rfl, -⟩ := row_form hr2
    rw [HU.out] at HC2
    clear hr2 f2
    go_wp2_with fail
    refine HC2.out.mono ?_
    rintro e w3 ⟨rfl, f3⟩
    have HF3 := Lib.hid (HF2.out.trans f3 fun _ _ h => h)
    have HG3 := Lib.hid (HG2.out.keep natG_elem f3 fun _ h => h.elim)
    have hgp := HG3.out
    rw [← HAC.out] at hgp
    obtain ⟨A', c', w6, hrun, hg6, hf6, _⟩ := Grow.push (bytes := 8) natG_elem hgp HB.out.symm HF3.out 22 Try.underlying22 (.int .i64 0) (by kernel_rfl) rfl u (.int .i64 u) rfl rfl (by rw [HAC.out]; omega) (by rw [HAC.out]; unfold maxLen; omega)
    rw [HAC.out] at hrun hg6
    have HRUN := Lib.hid hrun
    have HG6 := Lib.hid hg6
    have HF6 := Lib.hid hf6
    clear hrun hg6 hf6 f3 hgp
    go_wp2_with (at_builtin; refine wpList_add rfl _ _ _ _ rfl _ _ _ _ rfl rfl (HRUN.out _) ?_)
    go_roundg i
    case rel => exact Lib.hid ⟨_, m + 1, acc ++ [u], A', c', rfl, by omega, by omega, by rw [List.length_append, HAC.out]; rfl, rfl, HT.out, HG6.out, HF6.out⟩
    all_goals omega
end Go.Proofs.Ythejnkpnpckmbaa
