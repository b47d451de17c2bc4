/- ROLLUP, CUBE. -/
import Derived.Test.YthejnkpnpckmbaaB2
namespace Go.Proofs.Ythejnkpnpckmbaa
open Go.RowKit Go.Maps
set_option linter.unusedVariables false

theorem size3 : ∀ wx, (sizeOf (Try.prog.elem 22)).run Try.prog wx = .ok 1 wx := by
  intro wx
  have e : Try.prog.elem 22 = 3 := by kernel_rfl
  obtain ⟨i0, hi0, hz0, hz1, hz2⟩ := info_parts (P := Try.prog) (e := 3) (z := .int .i64 0) (size := 1) (bytes := 8) (by kernel_rfl)
  rw [e]
  simp [sizeOf, typeInfo, hi0, hz1]
theorem size9 : ∀ wx, (sizeOf (Try.prog.elem 23)).run Try.prog wx = .ok 1 wx := by
  intro wx
  have e : Try.prog.elem 23 = 9 := by kernel_rfl
  obtain ⟨i0, hi0, hz0, hz1, hz2⟩ := info_parts (P := Try.prog) (e := 9) (z := .string ⟨#[]⟩) (size := 1) (bytes := 16) (by kernel_rfl)
  rw [e]
  simp [sizeOf, typeInfo, hi0, hz1]
/-- A beginning of a row of one-cell elements. -/
theorem slice_take {α : Type} {K : Nat → Prop} {w : World} {E : α → List Value → Prop} {l : List α} {A : Option Addr} {n c : Nat} (t : TypeId) (hel : Try.prog.underlying t = some (.slice (Try.prog.elem t))) (hsz : ∀ wx, (sizeOf (Try.prog.elem t)).run Try.prog wx = .ok 1 wx)
    (h : RowE K w 1 E (.slice A n c) l) (hn : n = l.length) {k : Nat} (hk : k ≤ n) :
    ∃ A', (∀ wx, (Instr.slice t (.slice A n c) none (some (.int .i64 (k : Int))) none).run Try.prog wx = .ok (.slice A' k c) wx) ∧ RowE K w 1 E (.slice A' k c) (l.take k) := by
  obtain ⟨A0, c0, e0, hlc, hcm, hrow⟩ := h
  injection e0 with e1 e2 e3
  subst e1 e3
  have e1 : ((k : Int)).toNat = k := by omega
  have htl : (l.take k).length = k := by rw [List.length_take]; omega
  have hr := fun wx => run_slice_h (P := Try.prog) wx t A n c hel .i64 (k : Int) (by omega) (by omega)
  rcases Nat.eq_zero_or_pos k with rfl | hk0
  · refine ⟨if c = 0 then A else A.map (Addr.add · 0), fun wx => ?_, ?_⟩
    · rw [hr wx, hsz, e1]
      by_cases e : c = 0
      · simp [sliced, e, Result.andThen]
      · cases A <;> simp [sliced, e, Result.andThen]
    · exact ⟨_, c, by rw [htl], by rw [htl]; omega, hcm, fun h0 => by rw [htl] at h0; omega⟩
  · obtain ⟨g, off, rfl, hK, hg, hel2⟩ := hrow (by omega)
    refine ⟨some ⟨g, off, none⟩, fun wx => ?_, ?_⟩
    · rw [hr wx, hsz, e1]
      have e : c ≠ 0 := by omega
      simp [sliced, e, Result.andThen, Addr.add]
    · refine ⟨_, c, by rw [htl], by rw [htl]; omega, hcm, fun h0 => ⟨g, off, rfl, hK, hg, fun j hj => ?_⟩⟩
      rw [htl] at hj
      obtain ⟨cs, h1, h2, h3⟩ := hel2 j (by omega)
      exact ⟨cs, h1, h2, by rw [List.getElem_take]; exact h3⟩
theorem dl_len : ∀ n, (dl n).length = n
  | 0 => rfl
  | n + 1 => by simp [dl, dl_len n]

set_option maxRecDepth 100000 in
set_option maxHeartbeats 1000000 in
/-- rollup. -/
theorem roll_any {K : Nat → Prop} {l : List Nat} {v : Value} (w : World) (h : RowE K w 1 (natG K w) v l) (hb : ∀ x ∈ l, x < 64) (hl : l.length ≤ 2097152) : Calls Try.prog 38 #[v] w (TellsR 1 natG (rollL l) w) := by
  obtain ⟨A, n, c, rfl, hn⟩ := row_form h
  have hrow := h
  obtain ⟨A0, c0, e0, hlc, hcm, _⟩ := hrow
  injection e0 with e1 e2 e3
  subst e1 e3
  clear e2
  rw [← hn] at hl hlc
  have HN := Lib.hid hn
  have HROW := Lib.hid h
  have HBD := Lib.hid hb
  unfold maxLen at hcm
  obtain ⟨B, hB⟩ : ∃ B, w.heap.size = B := ⟨_, rfl⟩
  obtain ⟨w1, hw1⟩ : ∃ w1, w.alloc (.cells #[] 3) = w1 := ⟨_, rfl⟩
  have HF1 : Hid (Fr No w w1) := Lib.hid (by rw [← hw1]; exact (Fr.refl No w).alloc _)
  have HG1 : Hid (Grow B 3 1 natG w1 (.slice (some ⟨B, 0, none⟩) 0 0) []) := Lib.hid (by rw [← hw1, ← hB]; exact Grow.empty _ 3 1 natG w (Nat.le_refl _) #[] rfl)
  have HW1 := Lib.hid hw1
  have HB := Lib.hid hB
  have HSL : Hid (∀ k, k ≤ n → ∃ A', (∀ wx, (Instr.slice 22 (.slice A n c) none (some (.int .i64 (k : Int))) none).run Try.prog wx = .ok (.slice A' k c) wx) ∧ RowE K w 1 (natG K w) (.slice A' k c) (l.take k)) := Lib.hid fun k hk => slice_take 22 (by kernel_rfl) size3 h hn hk
  have HRL : Hid (rollL l = (dl (n + 1)).map fun k => uni (l.take k)) := Lib.hid (by rw [hn]; rfl)
  rw [HRL.out]
  clear hn h hb hw1 hB
  go_enter Try.func38, Try.ntmps38
  go_upto_region 2 with fail
  rw [HW1.out, HB.out]
  go_wp2_with fail
  go_loopg [3, 4] (n + 1) (fun k r3 r4 wr => Hid (∃ (z : Int) (m : Nat) (acc : List Nat) (A : Option Addr) (c : Nat), r4 = .int .i64 z ∧ z = (k : Int) - 1 ∧ m + k = n + 1 ∧ acc.length = m ∧ r3 = .slice A m c ∧ acc ++ ((dl k).map fun k => uni (l.take k)) = ((dl (n + 1)).map fun k => uni (l.take k)) ∧ Grow B 3 1 natG wr (.slice A m c) acc ∧ Fr No w wr))
  case atStart => exact Lib.hid ⟨_, 0, [], _, _, rfl, by omega, by omega, rfl, rfl, rfl, HG1.out, HF1.out⟩
  case round =>
  obtain ⟨z, m, acc, A3, c3, rfl, hz, hmk, hacc, rfl, happ, hg, hf⟩ := hrel.out
  clear hrel
  have HG := Lib.hid hg
  have HF := Lib.hid hf
  have HAP := Lib.hid happ
  have HAC := Lib.hid hacc
  clear hg hf happ hacc
  cases gk with
  | zero =>
    obtain rfl : z = -1 := by omega
    clear hz
    have HT := Lib.hid (show acc = ((dl (n + 1)).map fun k => uni (l.take k)) by have := HAP.out; rwa [show dl 0 = [] from rfl, List.map_nil, List.append_nil] at this)
    go_wp2_with fail
    go_ret
    have := HG.out.tells natG_elem HB.out.symm HF.out
    rw [HT.out] at this
    exact this
  | succ i =>
    obtain rfl : z = (i : Int) := by omega
    clear hz
    have hi0 : (0 : Int) ≤ (i : Int) := by omega
    obtain ⟨A5, hsl, hr5⟩ := HSL.out i (by omega)
    have HC := Lib.hid (union_any wr (hr5.at_ natG_elem HF.out) (mem_take_lt HBD.out i))
    obtain ⟨u, hu⟩ : ∃ u, uni (l.take i) = u := ⟨_, rfl⟩
    have HT : Hid ((acc ++ [u]) ++ ((dl i).map fun k => uni (l.take k)) = ((dl (n + 1)).map fun k => uni (l.take k))) := Lib.hid (by rw [← HAP.out, ← hu]; simp [dl])
    rw [hu] at HC
    clear hr5 hu
    go_wp2_with fail
    refine HC.out.mono ?_
    rintro e w2 ⟨rfl, f2⟩
    have HF2 := Lib.hid (HF.out.trans f2 fun _ _ h => h)
    have HG2 := Lib.hid (HG.out.keep natG_elem f2 fun _ h => h.elim)
    have hgp := HG2.out
    rw [← HAC.out] at hgp
    obtain ⟨A', c', w6, hrun, hg6, hf6, _⟩ := Grow.push (bytes := 8) natG_elem hgp HB.out.symm HF2.out 22 Try.underlying22 (.int .i64 0) (by kernel_rfl) rfl u (.int .i64 u) rfl rfl (by rw [HAC.out]; omega) (by rw [HAC.out]; unfold maxLen; omega)
    rw [HAC.out] at hrun hg6
    have HRUN := Lib.hid hrun
    have HG6 := Lib.hid hg6
    have HF6 := Lib.hid hf6
    clear hrun hg6 hf6 f2 hgp
    go_wp2_with (at_builtin; refine wpList_add rfl _ _ _ _ rfl _ _ _ _ rfl rfl (HRUN.out _) ?_)
    go_roundg i
    case rel => exact Lib.hid ⟨_, m + 1, acc ++ [u], A', c', rfl, by omega, by omega, by rw [List.length_append, HAC.out]; rfl, rfl, HT.out, HG6.out, HF6.out⟩
    all_goals omega
end Go.Proofs.Ythejnkpnpckmbaa
