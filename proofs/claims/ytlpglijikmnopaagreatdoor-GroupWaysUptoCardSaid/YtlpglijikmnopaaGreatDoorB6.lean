/- Equal, Same, may, Valid, New. -/
import Derived.Test.YtlpglijikmnopaaGreatDoorB5
namespace Go.Proofs.YtlpglijikmnopaaGreatDoor
open Go.RowKit Go.Maps Go.Sort
set_option linter.unusedVariables false

set_option maxRecDepth 100000 in
theorem eql46 (p q : Pt) (w : World) : (binOp .eql 88 (ptV p) (ptV q)).run Tryz.prog w = .ok (.bool (decide (p = q))) w := by
  go_simp
  by_cases h : p = q
  · subst h; simp
  · rw [decide_eq_false h]
    have : ¬ (p.any = q.any ∧ p.s.hi = q.s.hi ∧ p.s.lo = q.s.lo ∧ p.mn = q.mn ∧ p.mx = q.mx) := fun ⟨a, b, c, d, e⟩ => h (Pt.ext a (Sm.ext b c) d e)
    repeat' split
    all_goals first | rfl | (exfalso; exact this ⟨by assumption, by assumption, by assumption, by assumption, by assumption⟩)
set_option maxRecDepth 100000 in
theorem neq46 (p q : Pt) (w : World) : (binOp .neq 88 (ptV p) (ptV q)).run Tryz.prog w = .ok (.bool (!decide (p = q))) w := by
  go_simp
  by_cases h : p = q
  · subst h; simp
  · rw [decide_eq_false h]
    have : ¬ (p.any = q.any ∧ p.s.hi = q.s.hi ∧ p.s.lo = q.s.lo ∧ p.mn = q.mn ∧ p.mx = q.mx) := fun ⟨a, b, c, d, e⟩ => h (Pt.ext a (Sm.ext b c) d e)
    repeat' split
    all_goals first | rfl | (exfalso; exact this ⟨by assumption, by assumption, by assumption, by assumption, by assumption⟩)
set_option maxRecDepth 100000 in
theorem eql24 (p q : Sm) (w : World) : (binOp .eql 86 (smV p) (smV q)).run Tryz.prog w = .ok (.bool (decide (p = q))) w := by
  go_simp
  by_cases h : p = q
  · subst h; simp
  · rw [decide_eq_false h]
    have : ¬ (p.hi = q.hi ∧ p.lo = q.lo) := fun ⟨b, c⟩ => h (Sm.ext b c)
    repeat' split
    all_goals first | rfl | (exfalso; exact this ⟨by assumption, by assumption⟩)
set_option maxRecDepth 100000 in
set_option maxHeartbeats 1000000 in
theorem equal_any {K K2 : Nat → Prop} (l m : List Pt) (v v2 : Value) (w : World) (h : PR K w v l) (h2 : PR K2 w v2 m) : Calls Tryz.prog 83 #[v, v2] w (TellsB (decide (l = m)) w) := by
  obtain ⟨A, ca, rfl, ha1, ha2⟩ := h.form
  obtain ⟨B, cb, rfl, hb1, hb2⟩ := h2.form
  by_cases hlen : l.length = m.length
  · obtain ⟨N, hN⟩ : ∃ N, l.length = N := ⟨_, rfl⟩
    have hM : m.length = N := by omega
    have HN := Lib.hid hN
    have HM := Lib.hid hM
    have HP := Lib.hid h
    have HQ := Lib.hid h2
    have hNb : N ≤ 9223372036854775807 := by unfold maxLen at ha2; omega
    rw [hN] at HP ⊢
    rw [hM] at HQ ⊢
    clear h h2 hlen hN hM ha1 ha2 hb1 hb2
    go_enter Tryz.func83, Tryz.ntmps83
    go_wp2_with fail
    go_loopg [5, 13] N (fun k r5 r13 wr => Hid (∃ (j : Nat), r13 = .int .i64 (j : Nat) ∧ j + k = N ∧ (∀ i (h1 : i < l.length) (h2 : i < m.length), i < j → l[i] = m[i]) ∧ Fr No w wr))
    case atStart => exact Lib.hid ⟨0, rfl, by omega, fun i _ _ h => absurd h (by omega), Fr.refl _ _⟩
    case round =>
    obtain ⟨j, rfl, hjk, heq, hf⟩ := hrel.out
    clear hrel
    by_cases hj : j < N
    · have hji : (j : Int) < (N : Int) := by omega
      have hjl : j < l.length := by have := HN.out; omega
      have hjm : j < m.length := by have := HM.out; omega
      obtain ⟨g1, o1, rfl, -, -, h5⟩ := (HP.out.no hf).at_ hjl
      obtain ⟨g2, o2, rfl, -, -, k5⟩ := (HQ.out.no hf).at_ hjm
      obtain ⟨c0, c1, c2, c3, c4⟩ := h5 j hjl
      obtain ⟨d0, d1, d2, d3, d4⟩ := k5 j hjm
      have hne := neq46 l[j] m[j]
      obtain ⟨p, hp⟩ : ∃ p, l[j] = p := ⟨_, rfl⟩
      obtain ⟨q, hq⟩ : ∃ q, m[j] = q := ⟨_, rfl⟩
      rw [hp] at c0 c1 c2 c3 c4 hne
      rw [hq] at d0 d1 d2 d3 d4 hne
      have HF := Lib.hid hf
      by_cases e : p = q
      · rw [decide_eq_true e] at hne
        have HEQ : Hid (∀ i (h1 : i < l.length) (h2 : i < m.length), i < j + 1 → l[i] = m[i]) := Lib.hid fun i h1 h2 hi => by
          rcases Nat.lt_or_ge i j with h | h
          · exact heq i h1 h2 h
          · obtain rfl : i = j := by omega
            rw [hp, hq, e]
        subst e
        clear h5 k5 heq hf hp hq
        go_upto_region 6 with fail
        go_quiet (fail)
        go_wp2_with fail
        obtain ⟨g1, rfl⟩ : ∃ g1, gk = g1 + 1 := ⟨gk - 1, by omega⟩
        go_roundg g1
        case rel => exact Lib.hid ⟨j + 1, by go_num, by omega, HEQ.out, HF.out.drewN _⟩
        all_goals omega
      · rw [decide_eq_false e] at hne
        have HV : Hid (decide (l = m) = false) := Lib.hid (decide_eq_false fun h => e (by subst h; rw [← hp, ← hq]))
        obtain ⟨pa, ⟨ph, pl⟩, pn, px⟩ := p
        obtain ⟨qa, ⟨qh, ql⟩, qn, qx⟩ := q
        clear h5 k5 heq hf hp hq e
        go_upto_region 6 with fail
        go_quiet (fail)
        go_wp2_with fail
        go_ret
        exact ⟨by rw [HV.out]; rfl, HF.out.drewN _⟩
    · have hji : (N : Int) ≤ (j : Int) := by omega
      have HV : Hid (decide (l = m) = true) := Lib.hid (decide_eq_true (List.ext_getElem (by rw [HN.out, HM.out]) fun i h1 h2 => heq i h1 h2 (by have := HN.out; omega)))
      have HF := Lib.hid hf
      clear heq hf
      go_wp2_with fail
      go_ret
      exact ⟨by rw [HV.out]; rfl, HF.out⟩
  · have HV : Hid (decide (l = m) = false) := Lib.hid (decide_eq_false fun h => hlen (by rw [h]))
    obtain ⟨N, hN⟩ : ∃ N, l.length = N := ⟨_, rfl⟩
    obtain ⟨M, hM⟩ : ∃ M, m.length = M := ⟨_, rfl⟩
    rw [hN, hM] at hlen
    rw [hN, hM]
    have d1 : (N : Int) ≠ (M : Int) := by omega
    rw [HV.out]
    clear h h2 HV hN hM
    go_enter Tryz.func83, Tryz.ntmps83
    go_wp2_with fail
    go_ret
    exact ⟨rfl, Fr.refl _ _⟩
end Go.Proofs.YtlpglijikmnopaaGreatDoor
