/- A query that may be is the same as itself, plain. -/
import Derived.Test.YtkcnbmgaeompjaaGreatDoorGU
import Derived.Test.YtkcnbmgaeompjaaGreatDoorP14
namespace Go.Proofs.YtkcnbmgaeompjaaGreatDoor
set_option linter.unusedVariables false

theorem sameC_self : ∀ (c : Cd) (n : Nat), sizeW c ≤ n → sameC c c n = some (n - sizeW c)
  | .none, n, _ => rfl
  | .node k l r col op vals, n, h => by
    have e : sizeW (.node k l r col op vals) = 1 + sizeW l + sizeW r := rfl
    rw [e] at h ⊢
    obtain ⟨m, rfl⟩ : ∃ m, n = m + 1 := ⟨n - 1, by omega⟩
    unfold sameC
    have hn : nodeB k col op vals k col op vals = true := by simp [nodeB]
    rw [if_pos hn, sameC_self l m (by omega)]
    show sameC r r (m - sizeW l) = _
    rw [sameC_self r _ (by omega)]
    congr 1
    omega
theorem right_size {q : Qy} (h : rightQ q = true) : sizeW q.cond ≤ 2048 := by
  unfold rightQ at h
  simp only [Bool.and_eq_true, Bool.or_eq_true, decide_eq_true_eq] at h
  rcases h.1.2 with hc | hc
  · rw [hc]; exact Nat.zero_le _
  · obtain ⟨m, hm⟩ := Option.isSome_iff_exists.1 hc
    have := rightC_size _ _ _ _ hm
    omega
theorem sameQ_self {q : Qy} (h : rightQ q = true) : sameQ q q = true := by
  unfold sameQ besideB
  rw [sameC_self q.cond 4096 (by have := right_size h; omega)]
  simp
/-- What is shown is read again. -/
theorem again {q : Qy} (h : rightQ q = true) (hf : q.cond.Fits) (hl : ¬ 4096 < (showT q).length) : parseW (showT q) = (q, 0, 0) := parse_show (rq_of h) hf (by omega)
theorem showB_ok {q : Qy} (h : rightQ q = true) (hl : ¬ 4096 < (showT q).length) : showB q = (showT q, 0) := by unfold showB; rw [if_pos h, if_neg hl]
theorem showB_long {q : Qy} (h : rightQ q = true) (hl : 4096 < (showT q).length) : showB q = ([], 45) := by unfold showB; rw [if_pos h, if_pos hl]
theorem showB_no {q : Qy} (h : rightQ q = false) : showB q = ([], 1) := by unfold showB; rw [if_neg (by rw [h]; decide)]
end Go.Proofs.YtkcnbmgaeompjaaGreatDoor
