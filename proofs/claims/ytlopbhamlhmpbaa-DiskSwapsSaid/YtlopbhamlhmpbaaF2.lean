/- The steps of a swap, one by one (no program here). For DiskSwaps. -/
import Derived.Test.YtlopbhamlhmpbaaF1
namespace Go.Proofs.Ytlopbhamlhmpbaa
open Go.RowKit Go.Maps Go.Sort
set_option linter.unusedVariables false

theorem step_off {S : AS} (h : S.stepE = 13) : S.step.on = false := by
  unfold AS.stepE at h
  unfold AS.step
  by_cases ha : S.armed = true
  · rw [if_pos ha] at h ⊢
    by_cases hl : 0 < S.left
    · rw [if_pos hl] at h; exact absurd h (by decide)
    · rw [if_neg hl]
  · rw [if_neg ha] at h; exact absurd h (by decide)
theorem step_on {S : AS} (h : S.stepE = 0) : S.step.on = S.on := by
  unfold AS.stepE at h
  unfold AS.step
  by_cases ha : S.armed = true
  · rw [if_pos ha] at h ⊢
    by_cases hl : 0 < S.left
    · rw [if_pos hl]
    · rw [if_neg hl] at h; exact absurd h (by decide)
  · rw [if_neg ha]
theorem step_rest (S : AS) : S.step.names = S.names ∧ S.step.firm = S.firm ∧ S.step.loose = S.loose ∧ S.step.file = S.file ∧ S.step.room = S.room ∧ S.step.last = S.last := by
  unfold AS.step; split
  · split <;> exact ⟨rfl, rfl, rfl, rfl, rfl, rfl⟩
  · exact ⟨rfl, rfl, rfl, rfl, rfl, rfl⟩

theorem ok_new : nameOk lNew = true := by kernel_rfl
theorem ok_old : nameOk lOld = true := by kernel_rfl
theorem check_of {S : AS} (hon : S.on = true) {l : List UInt8} (hl : nameOk l = true) : checkOf S.on [l] = 0 := by rw [hon]; unfold checkOf; simp [hl]

/-- What a call in a swap leaves: all went well, or the power is gone; safe in either case. -/
structure After (S S' : AS) (e : Int) (P : List UInt8 → Prop) : Prop where
  safe : Safe S' P
  how : (e = 0 ∧ S'.on = true) ∨ (e = 13 ∧ S'.on = false)
  loose : S'.loose.length ≤ S.loose.length + 1
  last : S'.last ≤ S.last + 1

theorem swap_write {N : Nat} {S : AS} {P : List UInt8 → Prop} (h : Safe S P) (hi : Inv N S) (hon : S.on = true) (hn : look S.names lNew = none) (hP : ∀ b, P b → b.length ≤ 100000) (t : List UInt8) (ht : t.length ≤ 100000) :
    After S (S.write lNew t).1 (S.write lNew t).2 P ∧ ∃ n k, look (S.write lNew t).1.names lNew = some n ∧ (S.write lNew t).1.file n = some { bytes := t, firm := k } ∧ ∀ j, j ≤ (S.write lNew t).1.loose.length → look (past (S.write lNew t).1 j) lOld ≠ some n := by
  have hkeys := h.keysNow hi
  have hu : usedOf S.file S.names ≤ 100000 := by
    rw [used_keys hi.names (ks := [lOld]) (by simp) (fun s m hs => by
      rcases hkeys s m hs with e | e
      · simp [e]
      · rw [e, hn] at hs; cases hs)]
    obtain ⟨m, r, h1, h2, h3, h4⟩ := h.now hi
    simp only [List.map_cons, List.map_nil, List.sum_cons, List.sum_nil, Int.add_zero]
    unfold flk
    rw [h1]
    simp only [h2]
    have := hP _ h4
    omega
  have hsz := size_keys hi.names (ks := [lOld, lNew]) (by decide) (fun s m hs => by rcases hkeys s m hs with e | e <;> simp [e])
  have h2 : ([lOld, lNew] : List (List UInt8)).length = 2 := rfl
  have hno : S.file (S.last + 1) = none := by
    cases hr : S.file (S.last + 1) with
    | none => rfl
    | some r => have := hi.file _ r hr; omega
  have hw : S.write lNew t = (((S.made lNew).written (S.last + 1) { bytes := [], firm := 0 } t).step, S.stepE) := by
    unfold AS.write
    rw [if_pos (check_of hon ok_new), if_neg (by rw [h.room]; omega), hn]
    simp only
    rw [if_neg (by omega)]
  have hm := h.made hi
  have hml : (S.made lNew).loose.length = S.loose.length + 1 := by show (S.loose ++ [_]).length = _; simp
  have hfresh : ∀ j, j ≤ (S.made lNew).loose.length → look (past (S.made lNew) j) lOld ≠ some (S.last + 1) := fun j hj hl => by
    by_cases e : j ≤ S.loose.length
    · have ep : past (S.made lNew) j = past S j := (past_app S.opened _ j e).trans (past_same rfl rfl j)
      rw [ep] at hl
      obtain ⟨r, hr⟩ := (hi.good j e).ref _ _ hl
      rw [hno] at hr; cases hr
    · have ej : j = (S.opened.altered (Ch.mk [] lNew (S.last + 1))).loose.length := by
        have : (S.opened.altered (Ch.mk [] lNew (S.last + 1))).loose.length = S.loose.length + 1 := hml
        omega
      have ep : past (S.made lNew) j = (Ch.mk [] lNew (S.last + 1)).app S.names := by
        rw [ej]
        refine (past_app_last S.opened _).trans ?_
        rw [show past S.opened S.opened.loose.length = S.names from (past_same (S := S) (S' := S.opened) rfl rfl _).trans hi.now.symm]
      rw [ep] at hl
      have ea : (Ch.mk [] lNew (S.last + 1)).app S.names = (S.names.del (.string [])).put (.string lNew) (.lit (.int .i64 (S.last + 1))) := by unfold Ch.app; simp [lNew]
      rw [ea, look_put_other (by decide), look_del_other (by decide)] at hl
      obtain ⟨r, hr⟩ := hi.names.ref _ _ hl
      rw [hno] at hr; cases hr
  have hwr : Safe ((S.made lNew).written (S.last + 1) { bytes := [], firm := 0 } t) P := hm.turn _ hfresh
  obtain ⟨s1, s2, s3, s4, s5, s6⟩ := step_rest ((S.made lNew).written (S.last + 1) { bytes := [], firm := 0 } t)
  have hse : ((S.made lNew).written (S.last + 1) { bytes := [], firm := 0 } t).stepE = S.stepE := rfl
  rw [hw]
  refine ⟨⟨hwr.step, ?_, ?_, ?_⟩, S.last + 1, 0, ?_, ?_, fun j hj => ?_⟩
  · rcases stepE_01 S with he | he
    · exact .inl ⟨he, (step_on (hse.trans he)).trans hon⟩
    · exact .inr ⟨he, step_off (hse.trans he)⟩
  · show (AS.step _).loose.length ≤ _
    rw [s3]; exact Nat.le_of_eq hml
  · show (AS.step _).last ≤ _
    rw [s6]; exact Int.le_refl _
  · show look (AS.step _).names lNew = _
    rw [s1]
    have ea : (Ch.mk [] lNew (S.last + 1)).app S.names = (S.names.del (.string [])).put (.string lNew) (.lit (.int .i64 (S.last + 1))) := by unfold Ch.app; simp [lNew]
    show look ((Ch.mk [] lNew (S.last + 1)).app S.names) lNew = _
    have hmm : IsMap (S.names.del (.string [])) := by
      obtain ⟨es, he⟩ := hi.names.isMap
      rw [he]; exact ⟨_, rfl⟩
    rw [ea, look_put_same hmm]
  · show (AS.step _).file (S.last + 1) = _
    rw [s4]
    exact upd_same _ _ _
  · have hj' : j ≤ (S.made lNew).loose.length := by
      have : (AS.step ((S.made lNew).written (S.last + 1) { bytes := [], firm := 0 } t)).loose.length = (S.made lNew).loose.length := by rw [s3]; rfl
      exact this ▸ hj
    have ep : past (AS.step ((S.made lNew).written (S.last + 1) { bytes := [], firm := 0 } t)) j = past (S.made lNew) j := past_same s2 s3 j
    show look (past (AS.step _) j) lOld ≠ _
    rw [ep]
    exact hfresh j hj'

end Go.Proofs.Ytlopbhamlhmpbaa
