/- The steps of a swap, the rest (no program here). For DiskSwaps. -/
import Derived.Test.YtlopbhamlhmpbaaF2
namespace Go.Proofs.Ytlopbhamlhmpbaa
open Go.RowKit Go.Maps Go.Sort
set_option linter.unusedVariables false

theorem step_how {S : AS} (hon : S.on = true) : (S.stepE = 0 ∧ S.step.on = true) ∨ (S.stepE = 13 ∧ S.step.on = false) := by
  rcases stepE_01 S with he | he
  · exact .inl ⟨he, (step_on he).trans hon⟩
  · exact .inr ⟨he, step_off he⟩

theorem swap_sync {S : AS} {P : List UInt8 → Prop} (h : Safe S P) (hon : S.on = true) {n : Int} {r : FR} (hn : look S.names lNew = some n) (hr : S.file n = some r) (hfr : ∀ j, j ≤ S.loose.length → look (past S j) lOld ≠ some n) :
    After S (S.sync lNew).1 (S.sync lNew).2 P ∧ ((S.sync lNew).2 = 0 → look (S.sync lNew).1.names lNew = some n ∧ (S.sync lNew).1.file n = some { bytes := r.bytes, firm := r.bytes.length }) := by
  obtain ⟨s1, s2, s3, s4, s5, s6⟩ := step_rest S
  unfold AS.sync
  rw [if_pos (check_of hon ok_new), hn]
  simp only [hr]
  rcases step_how hon with ⟨he, ho⟩ | ⟨he, ho⟩
  · rw [if_pos he]
    have hs : Safe (S.step.synced n r) P := h.step.turn _ (fun k hk => by rw [past_same s2 s3 k]; exact hfr k (by rw [s3] at hk; exact hk))
    refine ⟨⟨hs, .inl ⟨rfl, ho⟩, ?_, ?_⟩, fun _ => ⟨?_, upd_same _ _ _⟩⟩
    · show S.step.loose.length ≤ _
      rw [s3]; omega
    · show S.step.last ≤ _
      rw [s6]; omega
    · show look S.step.names lNew = _
      rw [s1]; exact hn
  · rw [if_neg (by rw [he]; decide)]
    refine ⟨⟨h.step, .inr ⟨he, ho⟩, ?_, ?_⟩, fun e => ?_⟩
    · show S.step.loose.length ≤ _
      rw [s3]; omega
    · show S.step.last ≤ _
      rw [s6]; omega
    · rw [he] at e; exact absurd (show (13 : Int) = 0 from e) (by decide)

theorem swap_settle {N : Nat} {S : AS} {P : List UInt8 → Prop} (h : Safe S P) (hi : Inv N S) (hon : S.on = true) :
    After S S.settle.1 S.settle.2 P ∧ (S.settle.2 = 0 → S.settle.1.loose = [] ∧ S.settle.1.names = S.names ∧ ∀ l n, look S.names l = some n → S.settle.1.file n = S.file n) := by
  obtain ⟨s1, s2, s3, s4, s5, s6⟩ := step_rest S
  unfold AS.settle
  rw [if_pos hon]
  rcases step_how hon with ⟨he, ho⟩ | ⟨he, ho⟩
  · rw [if_pos he]
    refine ⟨⟨h.step.settled hi.step, .inl ⟨rfl, ho⟩, Nat.zero_le _, ?_⟩, fun _ => ⟨rfl, s1, fun l n hl => ?_⟩⟩
    · show S.step.last ≤ _
      rw [s6]; omega
    · show (if keeps S.step.names n = true then S.step.file n else none) = _
      rw [s1, if_pos (keeps_of hi.names hl), s4]
  · rw [if_neg (by rw [he]; decide)]
    refine ⟨⟨h.step, .inr ⟨rfl, ho⟩, ?_, ?_⟩, fun e => absurd (show (13 : Int) = 0 from e) (by decide)⟩
    · show S.step.loose.length ≤ _
      rw [s3]; omega
    · show S.step.last ≤ _
      rw [s6]; omega

theorem swap_rename {N : Nat} {S : AS} {P : List UInt8 → Prop} (h : Safe S P) (hi : Inv N S) (hon : S.on = true) {n : Int} {r : FR} (hn : look S.names lNew = some n) (hr : S.file n = some r) (hf : r.firm = r.bytes.length) (hP : P r.bytes) :
    After S (S.rename lNew lOld).1 (S.rename lNew lOld).2 P ∧ (S.rename lNew lOld).1.file n = some r ∧ look (S.rename lNew lOld).1.names lOld = some n := by
  have hE : checkOf S.on [lNew, lOld] = 0 := by rw [hon]; kernel_rfl
  have hne : lNew ≠ lOld := by decide
  unfold AS.rename
  rw [if_pos hE, hn]
  simp only
  rw [if_neg hne]
  have hs := h.renamed hi hn hr hf hP
  obtain ⟨s1, s2, s3, s4, s5, s6⟩ := step_rest (S.renamed lNew lOld n)
  have ea : (Ch.mk lNew lOld n).app S.names = (S.names.del (.string lNew)).put (.string lOld) (.lit (.int .i64 n)) := by unfold Ch.app; simp [lOld]
  have hm : IsMap (S.names.del (.string lNew)) := by
    obtain ⟨es, he⟩ := hi.names.isMap
    rw [he]; exact ⟨_, rfl⟩
  have hse : (S.renamed lNew lOld n).stepE = S.stepE := rfl
  refine ⟨⟨hs.step, ?_, ?_, ?_⟩, ?_, ?_⟩
  · have := step_how (S := S.renamed lNew lOld n) hon
    rw [hse] at this
    exact this
  · show (AS.step _).loose.length ≤ _
    rw [s3]; show (S.loose ++ [_]).length ≤ _; simp
  · show (AS.step _).last ≤ _
    rw [s6]; show S.last ≤ _; omega
  · show (AS.step _).file n = _
    rw [s4]; exact hr
  · show look (AS.step _).names lOld = _
    rw [s1]
    show look ((Ch.mk lNew lOld n).app S.names) lOld = _
    rw [ea, look_put_same hm]

/-- Where no name is loose, "old" is what it is now. -/
theorem Safe.exact {N : Nat} {S : AS} {P Q : List UInt8 → Prop} (h : Safe S P) (hi : Inv N S) (hl : S.loose = []) {n : Int} {r : FR} (hn : look S.names lOld = some n) (hr : S.file n = some r) (hQ : Q r.bytes) : Safe S Q := by
  obtain ⟨m, q, h1, h2, h3, h4⟩ := h.now hi
  rw [hn] at h1; cases h1
  rw [hr] at h2; cases h2
  refine ⟨fun k hk => ⟨n, r, ?_, hr, h3, hQ⟩, h.keys, h.room⟩
  have hk0 : k = S.loose.length := by rw [hl] at hk ⊢; simpa using hk
  rw [hk0, ← hi.now]; exact hn
/-- What a call does where the power is gone: nothing. -/
theorem off_all {S : AS} (h : S.on = false) (t : List UInt8) : S.write lNew t = (S, 13) ∧ S.remove lNew = (S, 13) := by
  have hE : ∀ l : List UInt8, checkOf S.on [l] = 13 := fun l => by rw [h]; rfl
  refine ⟨?_, ?_⟩
  · unfold AS.write; rw [if_neg (by rw [hE]; decide), hE]
  · unfold AS.remove; rw [if_neg (by rw [hE]; decide), hE]
theorem Safe.read {N : Nat} {S : AS} {P : List UInt8 → Prop} (h : Safe S P) (hi : Inv N S) (hon : S.on = true) : ∃ b, P b ∧ S.read lOld = (b, 0) := by
  obtain ⟨m, r, h1, h2, h3, h4⟩ := h.now hi
  refine ⟨r.bytes, h4, ?_⟩
  unfold AS.read
  rw [if_pos (check_of hon ok_old), h1]
  simp only [h2]

end Go.Proofs.Ytlopbhamlhmpbaa
