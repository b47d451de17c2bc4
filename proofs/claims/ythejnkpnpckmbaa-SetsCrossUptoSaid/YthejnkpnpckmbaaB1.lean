/- How many sets an element has. -/
import Derived.Test.YthejnkpnpckmbaaA9
namespace Go.Proofs.Ythejnkpnpckmbaa
open Go.RowKit Go.Maps
set_option linter.unusedVariables false

theorem min2 {n : Nat} (j : Nat) (h : n = min (2 ^ j) 65) : min (2 * n) 65 = min (2 ^ (j + 1)) 65 := by
  rw [Nat.pow_succ, h]; omega
theorem esize_cases (g : Gp) (m : Nat) (h : (if g.kind = 2 then g.cols.length + 1 else if g.kind = 3 then min (2 ^ g.cols.length) 65 else if g.kind = 4 then g.sets.length else 1) = m) : esize g = min m 65 := by
  unfold esize; rw [h]
set_option maxRecDepth 100000 in
set_option maxHeartbeats 1000000 in
theorem esize_any {K : Nat → Prop} (x : Gp) {a b : Value} (w : World) (hA : RowE K w 1 (strG K w) a x.cols) (hB : RowE K w 1 (lsG K w) b x.sets) (hl : x.cols.length ≤ 4611686018427387904) (hm : x.sets.length ≤ 4611686018427387904) : Calls Try.prog 31 #[.agg #[.int .i64 x.kind, a, b]] w (TellsI ((esize x : Nat) : Int) w) := by
  have HE := Lib.hid (esize_cases x)
  obtain ⟨kind, cols, sets⟩ := x
  simp only at hA hB hl hm HE ⊢
  obtain ⟨A1, c1, ha0⟩ : ∃ A1 c1, a = .slice A1 cols.length c1 := by obtain ⟨A1, c1, e, _⟩ := hA; exact ⟨_, _, e⟩
  obtain ⟨A2, c2, hb0⟩ : ∃ A2 c2, b = .slice A2 sets.length c2 := by obtain ⟨A2, c2, e, _⟩ := hB; exact ⟨_, _, e⟩
  subst ha0 hb0
  obtain ⟨w1, hw1⟩ : ∃ w1, w.alloc (.cells #[.int .i64 kind, .slice A1 cols.length c1, .slice A2 sets.length c2] 38) = w1 := ⟨_, rfl⟩
  obtain ⟨y, hy⟩ : ∃ y, w.heap.size = y := ⟨_, rfl⟩
  have f1 : Fr No w w1 := by rw [← hw1]; exact (Fr.refl No w).alloc _
  have hb : Blk w1 y 38 #[.int .i64 kind, .slice A1 cols.length c1, .slice A2 sets.length c2] := by rw [← hw1, ← hy]; exact Blk.new w 38 _
  have d0 : w1.cell? ⟨y, 0, none⟩ = some (.int .i64 kind) := hb.cell 0
  have d1 : w1.cell? ⟨y, 1, none⟩ = some (.slice A1 cols.length c1) := hb.cell 1
  have d2 : w1.cell? ⟨y, 2, none⟩ = some (.slice A2 sets.length c2) := hb.cell 2
  have F1 := Lib.hid f1
  have HW1 := Lib.hid hw1
  have HY := Lib.hid hy
  generalize esize ⟨kind, cols, sets⟩ = E at *
  generalize cols.length = n at *
  generalize sets.length = m at *
  clear f1 hb hw1 hy hA hB
  go_enter Try.func31, Try.ntmps31
  go_upto_region 1 with fail
  rw [HW1.out, HY.out]
  by_cases h2 : kind = 2
  · subst h2
    have HV := Lib.hid (HE.out (n + 1) (by rw [if_pos rfl]))
    go_wp2_with fail
    all_goals
      go_ret
      exact ⟨by rw [HV.out]; exact ret_int (by omega), F1.out⟩
  · have b2 : (kind == 2) = false := by simpa using h2
    by_cases h3 : kind = 3
    · subst h3
      have HV := Lib.hid (HE.out (min (2 ^ n) 65) (by rw [if_neg (by decide), if_pos rfl]))
      clear h2
      go_wp2_with fail
      go_loopg [3, 17] n (fun k r3 r17 wr => Hid (∃ j p : Nat, r17 = .int .i64 (j : Nat) ∧ j + k = n ∧ r3 = .int .i64 (p : Int) ∧ p = min (2 ^ j) 65 ∧ wr = w1))
      case atStart => exact Lib.hid ⟨0, 1, rfl, by omega, rfl, rfl, rfl⟩
      case round =>
      obtain ⟨j, p, rfl, hjk, rfl, hp, rfl⟩ := hrel.out
      clear hrel
      have HP := Lib.hid hp
      have hp65 : p ≤ 65 := by rw [hp]; exact Nat.min_le_right _ _
      clear hp
      by_cases hj : j < n
      · have hji : (j : Int) < (n : Int) := by omega
        have HT := Lib.hid (min2 j HP.out)
        go_wp2_with fail
        all_goals
          obtain ⟨g1, rfl⟩ : ∃ g1, gk = g1 + 1 := ⟨gk - 1, by omega⟩
          go_roundg g1
          case rel => exact Lib.hid ⟨j + 1, min (2 * p) 65, by go_num, by omega, congrArg (Value.int .i64) (by omega), HT.out, rfl⟩
          all_goals omega
      · have hji : (n : Int) ≤ (j : Int) := by omega
        have HT : Hid (p = min (2 ^ n) 65) := Lib.hid (by rw [HP.out, show j = n by omega])
        go_wp2_with fail
        all_goals
          go_ret
          exact ⟨by rw [HV.out, ← HT.out]; exact ret_int (by omega), F1.out⟩
    · have b3 : (kind == 3) = false := by simpa using h3
      by_cases h4 : kind = 4
      · subst h4
        have HV := Lib.hid (HE.out m (by rw [if_neg (by decide), if_neg (by decide), if_pos rfl]))
        clear h2 h3
        go_wp2_with fail
        all_goals
          go_ret
          exact ⟨by rw [HV.out]; exact ret_int (by omega), F1.out⟩
      · have b4 : (kind == 4) = false := by simpa using h4
        have HV := Lib.hid (HE.out 1 (by rw [if_neg h2, if_neg h3, if_neg h4]))
        clear h2 h3 h4
        go_wp2_with fail
        go_ret
        exact ⟨by rw [HV.out]; rfl, F1.out⟩
end Go.Proofs.Ythejnkpnpckmbaa
