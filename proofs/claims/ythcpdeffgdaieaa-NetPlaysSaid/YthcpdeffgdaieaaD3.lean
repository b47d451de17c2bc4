/- The document's own net: ask, Open, Cut, Waits; the state behind its calls. -/
import Derived.Test.YthcpdeffgdaieaaD2
import Derived.Deep.RegionLaw
namespace Go.Proofs.Ythcpdeffgdaieaa
open Go.RowKit Go.Maps
set_option linter.unusedVariables false

/-- None of those that are there is at its end. -/
def NS.Live (S : NS) : Prop := ∀ n K, S.link n = some K → K.gone = false

theorem ns_ext {a b : NS} (h1 : a.last = b.last) (h2 : a.keys = b.keys) (h3 : ∀ n, a.link n = b.link n) : a = b := by
  cases a; cases b
  simp only at h1 h2 h3
  subst h1; subst h2
  congr 1
  funext n
  exact h3 n

theorem goes_setL {S : NS} (hr : S.Right) (hl : S.Live) {n : Int} {K K' : LK} (hK : S.link n = some K) : (S.setL n K').goes = if K'.gone then S.drop n else S.setL n K' := by
  have al : ∀ m, m ≠ n → m ∈ S.keys → (S.setL n K').alive m = true := fun m hm hk => by
    unfold NS.alive
    rw [setL_link, if_neg hm]
    have := (hr.2 m).1 hk
    cases hQ : S.link m with
    | none => rw [hQ] at this; cases this
    | some Q => simp [hl m Q hQ]
  have an : (S.setL n K').alive n = !K'.gone := by unfold NS.alive; rw [setL_link, if_pos rfl]
  have nk : ∀ m, m ∉ S.keys → S.link m = none := fun m hm => by
    cases hQ : S.link m with
    | none => rfl
    | some Q => exact absurd ((hr.2 m).2 (by rw [hQ]; rfl)) hm
  cases hg : K'.gone
  · simp only [Bool.false_eq_true, if_false]
    rw [hg] at an
    refine ns_ext rfl ?_ fun m => ?_
    · show S.keys.filter _ = S.keys
      rw [List.filter_eq_self]
      intro m hm
      by_cases e : m = n
      · subst e; exact an
      · exact al m e hm
    · show (if (S.setL n K').alive m then (S.setL n K').link m else none) = (S.setL n K').link m
      by_cases e : m = n
      · subst e; rw [an]; rfl
      · by_cases hk : m ∈ S.keys
        · rw [al m e hk]; rfl
        · rw [setL_link, if_neg e, nk m hk]; split <;> rfl
  · simp only [if_true]
    rw [hg] at an
    refine ns_ext rfl ?_ fun m => ?_
    · show S.keys.filter _ = S.keys.filter _
      refine List.filter_congr fun m hm => ?_
      by_cases e : m = n
      · subst e; rw [an]; simp
      · rw [al m e hm]; simp [e]
    · show (if (S.setL n K').alive m then (S.setL n K').link m else none) = (S.drop n).link m
      rw [drop_link]
      by_cases e : m = n
      · subst e; rw [an, if_pos rfl]; rfl
      · rw [if_neg e]
        by_cases hk : m ∈ S.keys
        · rw [al m e hk, setL_link, if_neg e]; rfl
        · rw [setL_link, if_neg e, nk m hk]; split <;> rfl

theorem goes_tell {S : NS} (hr : S.Right) (hl : S.Live) {n : Int} {K : LK} (hK : S.link n = some K) (hc : K.cut = true) (s : Bool) : (S.setL n (K.tell s)).goes = S.tell n K s := by
  rw [goes_setL hr hl hK]
  have : (K.tell s).gone = K.told (!s) := by
    unfold LK.gone LK.tell
    simp only [hc, if_true]
    cases s <;> simp [updB]
  rw [this]; rfl
theorem goes_release {S : NS} (hr : S.Right) (hl : S.Live) {n : Int} {K K' : LK} (hK : S.link n = some K) (hc : K'.cut = false) : (S.setL n K').goes = (S.setL n K').release n K' := by
  rw [goes_setL hr hl hK]
  have : K'.gone = K'.over := by unfold LK.gone; rw [hc]; rfl
  rw [this]
  unfold NS.release
  rw [NS.drop_setL]

/-! ### what stays alive -/
theorem Live.setL {S : NS} (h : S.Live) {n : Int} {K' : LK} (hg : K'.gone = false) : (S.setL n K').Live := fun m Q hQ => by
  rw [setL_link] at hQ
  split at hQ
  · cases hQ; exact hg
  · exact h m Q hQ
theorem Live.drop {S : NS} (h : S.Live) (n : Int) : (S.drop n).Live := fun m Q hQ => by
  rw [drop_link] at hQ
  split at hQ
  · cases hQ
  · exact h m Q hQ
theorem Live.tell {S : NS} (h : S.Live) {n : Int} {K : LK} (hc : K.cut = true) (s : Bool) : (S.tell n K s).Live := by
  unfold NS.tell
  cases ht : K.told (!s)
  · refine Live.setL h ?_
    unfold LK.gone LK.tell
    simp only [hc, if_true]
    cases s <;> simp_all [updB]
  · exact Live.drop h n
theorem Live.release {S : NS} (h : S.Live) {n : Int} {K' : LK} (hc : K'.cut = false) : ((S.setL n K').release n K').Live := by
  unfold NS.release
  cases ho : K'.over
  · exact Live.setL h (by unfold LK.gone; rw [hc]; exact ho)
  · show ((S.setL n K').drop n).Live
    rw [NS.drop_setL]; exact Live.drop h n
theorem setW_over {K : LK} {s : Bool} {W : WS} (h : K.over = false) (hs : W.shut = (K.way s).shut) (hb : (K.way s).bytes = [] ∨ W.bytes ≠ []) (hb' : W.bytes = [] → (K.way s).bytes = []) : (K.setW s W).over = false := by
  unfold LK.over WS.ended at h ⊢
  have e : ∀ t, ((K.setW s W).way t).shut = (K.way t).shut := fun t => by
    unfold LK.setW updB; simp only; split
    · rename_i e; subst e; exact hs
    · rfl
  have eb : ∀ t, ((K.setW s W).way t).bytes.isEmpty = true → (K.way t).bytes.isEmpty = true := fun t => by
    unfold LK.setW updB; simp only; split
    · rename_i e; subst e; intro hx; rw [List.isEmpty_iff] at hx ⊢; exact hb' hx
    · exact id
  rw [e, e]
  cases h1 : (K.way false).shut <;> cases h2 : (K.way true).shut <;> simp_all
  exact fun h1 h2 => h (eb.1 h1) (eb.2 h2)

theorem Live.send {S : NS} (h : S.Live) (conn side : Int) (data : List UInt8) : (S.send conn side data).2.Live := by
  unfold NS.send
  cases hf : S.find conn side with
  | none => exact h
  | some p =>
    obtain ⟨s, K⟩ := p
    have hK := find_some hf
    simp only
    cases hc : K.cut
    · simp only [Bool.false_eq_true, if_false]
      cases hs : (K.way (!s)).shut
      · simp only [Bool.false_eq_true, if_false]
        refine Live.setL h ?_
        have : (K.send s data).cut = false := hc
        unfold LK.gone
        rw [this]
        show (K.send s data).over = false
        unfold LK.over WS.ended
        have : ((K.send s data).way (!s)).shut = false := by unfold LK.send LK.setW; simp only [updB_same]; exact hs
        cases s <;> simp_all
      · exact h
    · simp only [if_true]; exact Live.tell h hc s
theorem Live.move {S : NS} (h : S.Live) (conn side many : Int) : (S.move conn side many).2.Live := by
  unfold NS.move
  cases hf : S.find conn side with
  | none => exact h
  | some p =>
    obtain ⟨s, K⟩ := p
    have hK := find_some hf
    simp only
    cases hc : K.cut
    · simp only [Bool.false_eq_true, if_false]
      refine Live.setL h ?_
      have hg := h conn K hK
      unfold LK.gone at hg ⊢
      rw [hc] at hg
      have : (K.move s many).cut = false := hc
      rw [this]
      exact setW_over hg rfl (by by_cases e : (K.way s).bytes = []; exact .inl e; exact .inr e) id
    · simp only [if_true]; exact Live.tell h hc s
theorem Live.take {S : NS} (h : S.Live) (conn side many : Int) : (S.take conn side many).2.Live := by
  unfold NS.take
  cases hf : S.find conn side with
  | none => exact h
  | some p =>
    obtain ⟨s, K⟩ := p
    simp only
    cases hc : K.cut
    · simp only [Bool.false_eq_true, if_false]
      split
      · exact h
      · split
        · exact h
        · exact Live.release h (K' := K.take s many) hc
    · simp only [if_true]; exact Live.tell h hc s
theorem Live.shut {S : NS} (h : S.Live) (conn side : Int) : (S.shut conn side).2.Live := by
  unfold NS.shut
  cases hf : S.find conn side with
  | none => exact h
  | some p =>
    obtain ⟨s, K⟩ := p
    simp only
    cases hc : K.cut
    · simp only [Bool.false_eq_true, if_false]
      split
      · exact h
      · exact Live.release h (K' := K.shutS s) hc
    · simp only [if_true]; exact Live.tell h hc s
theorem Live.cutC {S : NS} (h : S.Live) (conn : Int) : (S.cutC conn).2.Live := by
  unfold NS.cutC
  cases hK : S.link conn with
  | none => exact h
  | some K =>
    simp only
    split
    · exact h
    · exact Live.setL h rfl
theorem Live.opened {S : NS} (h : S.Live) : S.opened.2.Live := by
  unfold NS.opened
  split
  · exact h
  · intro m Q hQ
    have hQ' : upd S.link (S.last + 1) (some LK.fresh) m = some Q := hQ
    unfold upd at hQ'
    split at hQ'
    · cases hQ'; rfl
    · exact h m Q hQ'

end Go.Proofs.Ythcpdeffgdaieaa
