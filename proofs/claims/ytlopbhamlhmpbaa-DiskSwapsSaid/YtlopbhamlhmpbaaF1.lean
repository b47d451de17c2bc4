/- A crash at any place: what is whole stays whole (no program here). For DiskSwaps. -/
import Derived.Test.YtlopbhamlhmpbaaE4
namespace Go.Proofs.Ytlopbhamlhmpbaa
open Go.RowKit Go.Maps Go.Sort
set_option linter.unusedVariables false

/-- A file that is firm to its end outlives any crash as it is. -/
theorem foldl_full (D : DU) {m : Int} {r : FR} (hf : r.firm = r.bytes.length) : ∀ (ls : List (List UInt8)) (st : (Int → Option FR) × List Int), st.1 m = some r → (ls.foldl (crashStep D) st).1 m = some r
  | [], st, h => h
  | l :: ls, st, h => by
    rw [List.foldl_cons]
    refine foldl_full D hf ls _ ?_
    unfold crashStep
    cases hl : look D l with
    | none => exact h
    | some n =>
      cases hr : st.1 n with
      | none => simp only [hr]; exact h
      | some q =>
        simp only [hr]
        by_cases e : m = n
        · subst e
          rw [upd_same]
          rw [h] at hr
          cases hr
          rw [crash_full _ hf]
        · rw [upd_other _ _ e]; exact h

def lOld : List UInt8 := [111, 108, 100]
def lNew : List UInt8 := [110, 101, 119]

/-- Whatever prefix of the loose changes a crash keeps, "old" stands for a whole file that P likes; no names but the two. -/
structure Safe (S : AS) (P : List UInt8 → Prop) : Prop where
  old : ∀ k, k ≤ S.loose.length → ∃ m r, look (past S k) lOld = some m ∧ S.file m = some r ∧ r.firm = r.bytes.length ∧ P r.bytes
  keys : ∀ k, k ≤ S.loose.length → ∀ s m, look (past S k) s = some m → s = lOld ∨ s = lNew
  room : S.room = 16777216

theorem Safe.now {N : Nat} {S : AS} {P : List UInt8 → Prop} (h : Safe S P) (hi : Inv N S) : ∃ m r, look S.names lOld = some m ∧ S.file m = some r ∧ r.firm = r.bytes.length ∧ P r.bytes := by
  have := h.old S.loose.length (Nat.le_refl _)
  rw [← hi.now] at this
  exact this
theorem Safe.keysNow {N : Nat} {S : AS} {P : List UInt8 → Prop} (h : Safe S P) (hi : Inv N S) : ∀ s m, look S.names s = some m → s = lOld ∨ s = lNew := by
  have := h.keys S.loose.length (Nat.le_refl _)
  rw [← hi.now] at this
  exact this
theorem Safe.mono {S : AS} {P Q : List UInt8 → Prop} (h : Safe S P) (hPQ : ∀ b, P b → Q b) : Safe S Q :=
  ⟨fun k hk => by obtain ⟨m, r, h1, h2, h3, h4⟩ := h.old k hk; exact ⟨m, r, h1, h2, h3, hPQ _ h4⟩, h.keys, h.room⟩
theorem Safe.step {S : AS} {P : List UInt8 → Prop} (h : Safe S P) : Safe S.step P := by
  obtain ⟨e1, e2, e3, e4, e5⟩ : S.step.names = S.names ∧ S.step.firm = S.firm ∧ S.step.loose = S.loose ∧ S.step.file = S.file ∧ S.step.room = S.room := by
    unfold AS.step; split
    · split <;> exact ⟨rfl, rfl, rfl, rfl, rfl⟩
    · exact ⟨rfl, rfl, rfl, rfl, rfl⟩
  exact ⟨fun k hk => by rw [past_same e2 e3 k, e4]; exact h.old k (by rw [e3] at hk; exact hk), fun k hk => by rw [past_same e2 e3 k]; exact h.keys k (by rw [e3] at hk; exact hk), e5.trans h.room⟩

theorem Safe.crash {N : Nat} {S : AS} {P : List UInt8 → Prop} (h : Safe S P) (hi : Inv N S) (ps : List Int) : Safe (S.crashed ps) P ∧ (S.crashed ps).loose = [] ∧ (S.crashed ps).on = true ∧ (S.crashed ps).armed = false ∧ (S.crashed ps).last = S.last := by
  have hb := pickN_bd ps (S.loose.length : Int) (by omega)
  obtain ⟨k, hk⟩ : ∃ k, (pickN ps (S.loose.length : Int)).toNat = k := ⟨_, rfl⟩
  have hkl : k ≤ S.loose.length := by omega
  obtain ⟨m, r, h1, h2, h3, h4⟩ := h.old k hkl
  rw [crashed_at S ps _ rfl]
  unfold AS.crashedAt
  rw [hk]
  have hp : ∀ j, past ((({ S with names := past S k, file := ((sortedKeys (past S k)).foldl (crashStep (past S k)) (S.file, ps.tail)).1 } : AS)).settled.arm (-1)) j = past S k := fun j => by
    show List.foldl (fun D (c : Ch) => c.app D) (past S k) (List.take j []) = past S k
    rw [List.take_nil]; rfl
  refine ⟨⟨fun j hj => ⟨m, r, ?_, ?_, h3, h4⟩, fun j hj s q hs => ?_, h.room⟩, rfl, rfl, rfl, rfl⟩
  · exact (congrArg (fun D => look D lOld) (hp j)).trans h1
  · show (if keeps (past S k) m = true then ((sortedKeys (past S k)).foldl (crashStep (past S k)) (S.file, ps.tail)).1 m else none) = _
    rw [if_pos (keeps_of (hi.good k hkl) h1)]
    exact foldl_full _ h3 _ _ h2
  · exact h.keys k hkl s q ((congrArg (fun D => look D s) (hp j)).symm.trans hs)

theorem Safe.settled {N : Nat} {S : AS} {P : List UInt8 → Prop} (h : Safe S P) (hi : Inv N S) : Safe S.settled P := by
  obtain ⟨m, r, h1, h2, h3, h4⟩ := h.now hi
  have hk := h.keysNow hi
  have hp : ∀ j, past S.settled j = S.names := fun j => by
    show List.foldl (fun D (c : Ch) => c.app D) S.names (List.take j []) = S.names
    rw [List.take_nil]; rfl
  refine ⟨fun j hj => ⟨m, r, (congrArg (fun D => look D lOld) (hp j)).trans h1, ?_, h3, h4⟩, fun j hj s q hs => hk s q ((congrArg (fun D => look D s) (hp j)).symm.trans hs), h.room⟩
  show (if keeps S.names m = true then S.file m else none) = _
  rw [if_pos (keeps_of hi.names h1)]
  exact h2
/-- Another file than those that "old" stands for turns. -/
theorem Safe.turn {S : AS} {P : List UInt8 → Prop} (h : Safe S P) {n : Int} (r' : FR) (hn : ∀ k, k ≤ S.loose.length → look (past S k) lOld ≠ some n) : Safe { S with file := upd S.file n (some r') } P := by
  refine ⟨fun k hk => ?_, h.keys, h.room⟩
  obtain ⟨m, r, h1, h2, h3, h4⟩ := h.old k hk
  refine ⟨m, r, h1, ?_, h3, h4⟩
  show upd S.file n _ m = _
  rw [upd_other _ _ (fun e => hn k hk (by rw [← e]; exact h1))]
  exact h2
/-- One more loose change. -/
theorem Safe.altered {S : AS} {P : List UInt8 → Prop} (h : Safe S P) (c : Ch) (hnow : S.names = past S S.loose.length) (ho : ∃ m r, look (c.app S.names) lOld = some m ∧ S.file m = some r ∧ r.firm = r.bytes.length ∧ P r.bytes) (hk : ∀ s m, look (c.app S.names) s = some m → s = lOld ∨ s = lNew) : Safe (S.altered c) P := by
  have hl : (S.altered c).loose.length = S.loose.length + 1 := by show (S.loose ++ [c]).length = _; simp
  refine ⟨fun k hkl => ?_, fun k hkl => ?_, h.room⟩
  · by_cases e : k ≤ S.loose.length
    · rw [past_app S c k e]; exact h.old k e
    · have : k = (S.altered c).loose.length := by omega
      rw [this, past_app_last, ← hnow]
      exact ho
  · by_cases e : k ≤ S.loose.length
    · rw [past_app S c k e]; exact h.keys k e
    · have : k = (S.altered c).loose.length := by omega
      rw [this, past_app_last, ← hnow]
      exact hk
theorem Safe.removed {N : Nat} {S : AS} {P : List UInt8 → Prop} (h : Safe S P) (hi : Inv N S) : Safe (S.removed lNew) P := by
  have ea : (Ch.mk lNew [] 0).app S.names = S.names.del (.string lNew) := by unfold Ch.app; simp
  refine h.altered _ hi.now ?_ ?_
  · obtain ⟨m, r, h1, h2⟩ := h.now hi
    exact ⟨m, r, by rw [ea, look_del_other (by decide)]; exact h1, h2⟩
  · intro s m hs
    rw [ea] at hs
    by_cases e : s = lNew
    · exact .inr e
    · rw [look_del_other e] at hs; exact h.keysNow hi s m hs
theorem Safe.renamed {N : Nat} {S : AS} {P : List UInt8 → Prop} (h : Safe S P) (hi : Inv N S) {n : Int} {r : FR} (hn : look S.names lNew = some n) (hr : S.file n = some r) (hf : r.firm = r.bytes.length) (hP : P r.bytes) : Safe (S.renamed lNew lOld n) P := by
  have ea : (Ch.mk lNew lOld n).app S.names = (S.names.del (.string lNew)).put (.string lOld) (.lit (.int .i64 n)) := by unfold Ch.app; simp [lOld]
  have hm : IsMap (S.names.del (.string lNew)) := by
    obtain ⟨es, he⟩ := hi.names.isMap
    rw [he]; exact ⟨_, rfl⟩
  refine h.altered _ hi.now ⟨n, r, by rw [ea, look_put_same hm], hr, hf, hP⟩ ?_
  intro s m hs
  rw [ea] at hs
  by_cases e : s = lOld
  · exact .inl e
  · rw [look_put_other e] at hs
    by_cases e2 : s = lNew
    · exact .inr e2
    · rw [look_del_other e2] at hs; exact h.keysNow hi s m hs
theorem Safe.made {N : Nat} {S : AS} {P : List UInt8 → Prop} (h : Safe S P) (hi : Inv N S) : Safe (S.made lNew) P := by
  have hno : S.file (S.last + 1) = none := by
    cases hr : S.file (S.last + 1) with
    | none => rfl
    | some r => have := hi.file _ r hr; omega
  have h1 : Safe S.opened P := h.turn (S := S) (n := S.last + 1) { bytes := [], firm := 0 } (fun k hk hl => by
    obtain ⟨r, hr⟩ := (hi.good k hk).ref _ _ hl
    rw [hno] at hr; cases hr) |> fun h' => ⟨h'.old, h'.keys, h'.room⟩
  have ea : (Ch.mk [] lNew (S.last + 1)).app S.names = (S.names.del (.string [])).put (.string lNew) (.lit (.int .i64 (S.last + 1))) := by unfold Ch.app; simp [lNew]
  have hm : IsMap (S.names.del (.string [])) := by
    obtain ⟨es, he⟩ := hi.names.isMap
    rw [he]; exact ⟨_, rfl⟩
  have hnow : S.opened.names = past S.opened S.opened.loose.length := hi.now.trans (past_same (S := S) (S' := S.opened) rfl rfl _).symm
  obtain ⟨m, r, g1, g2, g3, g4⟩ := h1.old S.loose.length (Nat.le_refl _)
  have hpast : past S.opened S.loose.length = S.names := (past_same (S := S) (S' := S.opened) rfl rfl _).trans hi.now.symm
  rw [hpast] at g1
  refine h1.altered _ hnow ⟨m, r, ?_, g2, g3, g4⟩ ?_
  · show look ((Ch.mk [] lNew (S.last + 1)).app S.names) lOld = _
    rw [ea, look_put_other (by decide), look_del_other (by decide)]
    exact g1
  · intro s q hs
    have hs' : look ((Ch.mk [] lNew (S.last + 1)).app S.names) s = some q := hs
    rw [ea] at hs'
    by_cases e : s = lNew
    · exact .inr e
    · rw [look_put_other e] at hs'
      by_cases e2 : s = []
      · subst e2; rw [look_del_same] at hs'; cases hs'
      · rw [look_del_other e2] at hs'; exact h.keysNow hi s q hs'

end Go.Proofs.Ytlopbhamlhmpbaa
