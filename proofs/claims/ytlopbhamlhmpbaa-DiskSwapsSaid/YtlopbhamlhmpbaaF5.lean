/- DiskSwaps: its start, and the removal of what is left over (no program here). -/
import Derived.Test.YtlopbhamlhmpbaaF4
import Derived.Deep.DeepCutAuto
namespace Go.Proofs.Ytlopbhamlhmpbaa
open Go.RowKit Go.Maps Go.Sort
set_option linter.unusedVariables false

def lFirst : List UInt8 := [102, 105, 114, 115, 116]
def X0 : AS := AS.new 16777216
def X1 : AS := (X0.write lOld lFirst).1
def X2 : AS := (X1.sync lOld).1
def X3 : AS := X2.settle.1
theorem xw1 : (X0.write lOld lFirst).2 = 0 := by kernel_rfl
theorem xw2 : (X1.sync lOld).2 = 0 := by kernel_rfl
theorem xw3 : X2.settle.2 = 0 := by kernel_rfl
theorem swap_start (hi : Good X3.file X3.names) : X3.on = true ∧ X3.loose = [] ∧ X3.last = 1 ∧ Safe X3 (fun b => b = lFirst) := by
  have hl : X3.loose = [] := rfl
  have hp : ∀ k, past X3 k = X3.names := fun k => by
    unfold past; rw [hl, List.take_nil]; rfl
  refine ⟨by kernel_rfl, hl, by kernel_rfl, fun k hk => ⟨1, { bytes := lFirst, firm := 5 }, ?_, by kernel_rfl, rfl, rfl⟩, fun k hk s m hs => ?_, by kernel_rfl⟩
  · rw [hp]; kernel_rfl
  · rw [hp] at hs
    left
    by_cases e : s = lOld
    · exact e
    · have e1 : X3.names = (DataW.map []).put (.string lOld) (.lit (.int .i64 1)) := by kernel_rfl
      rw [e1, look_put_other e] at hs
      cases hs

theorem swap_remove {N : Nat} {S : AS} {P : List UInt8 → Prop} (h : Safe S P) (hi : Inv N S) (hon : S.on = true) :
    Safe (S.remove lNew).1 P ∧ ((S.remove lNew).1.on = false ∨ ((S.remove lNew).1.on = true ∧ look (S.remove lNew).1.names lNew = none)) ∧ (S.remove lNew).1.last = S.last := by
  unfold AS.remove
  rw [if_pos (check_of hon ok_new)]
  cases hn : look S.names lNew with
  | none => exact ⟨h, .inr ⟨hon, hn⟩, rfl⟩
  | some n =>
    simp only
    obtain ⟨s1, s2, s3, s4, s5, s6⟩ := step_rest (S.removed lNew)
    refine ⟨(h.removed hi).step, ?_, s6⟩
    rcases step_how (S := S.removed lNew) hon with ⟨_, ho⟩ | ⟨_, ho⟩
    · refine .inr ⟨ho, ?_⟩
      rw [s1]
      have ea : (Ch.mk lNew [] 0).app S.names = S.names.del (.string lNew) := by unfold Ch.app; simp
      show look ((Ch.mk lNew [] 0).app S.names) lNew = none
      rw [ea, look_del_same]
    · exact .inl ho

theorem Safe.arm {S : AS} {P : List UInt8 → Prop} (h : Safe S P) (n : Int) : Safe (S.arm n) P := ⟨h.old, h.keys, h.room⟩

end Go.Proofs.Ytlopbhamlhmpbaa
