/- Keys in their order; rows of groups; grouping, plain. -/
import Derived.Test.YtlpglijikmnopaaGreatDoorM1
import Derived.Sort.Walk0
namespace Go.Proofs.YtlpglijikmnopaaGreatDoor
open Go.Proofs
set_option linter.unusedVariables false

abbrev Ky := List Tx
theorem tx_irrefl (a : Tx) : ¬ a < a := List.lt_irrefl a
theorem tx_trans {a b c : Tx} (h : a < b) (k : b < c) : a < c := List.lt_trans h k
theorem tx_asymm {a b : Tx} (h : a < b) : ¬ b < a := fun k => tx_irrefl a (tx_trans h k)
theorem tx_tri {a b : Tx} (h : ¬ a < b) (k : ¬ b < a) : a = b := List.le_antisymm (List.not_lt.1 k) (List.not_lt.1 h)
theorem less_dec (a b : Tx) : Op.bytesLess a b = decide (a < b) := bytesLess_eq a b
theorem ky_irrefl (a : Ky) : ¬ a < a := List.lt_irrefl a
theorem ky_trans {a b c : Ky} (h : a < b) (k : b < c) : a < c := List.lt_trans h k
theorem ky_asymm {a b : Ky} (h : a < b) : ¬ b < a := fun k => ky_irrefl a (ky_trans h k)
theorem ky_tri {a b : Ky} (h : ¬ a < b) (k : ¬ b < a) : a = b := List.le_antisymm (List.not_lt.1 k) (List.not_lt.1 h)
theorem ky_le_lt {a b c : Ky} (h : ¬ b < a) (k : b < c) : a < c := by
  by_cases e : a < b
  · exact ky_trans e k
  · rw [ky_tri e h]; exact k
theorem ky_lt_le {a b c : Ky} (h : a < b) (k : ¬ c < b) : a < c := by
  by_cases e : b < c
  · exact ky_trans h e
  · rw [← ky_tri e k]; exact h

def cmpT (a b : Tx) : Int := if a < b then -1 else if b < a then 1 else 0
theorem cmpT_zero (a b : Tx) : cmpT a b = 0 ↔ a = b := by
  unfold cmpT
  constructor
  · intro h
    by_cases h1 : a < b
    · rw [if_pos h1] at h; omega
    · rw [if_neg h1] at h
      by_cases h2 : b < a
      · rw [if_pos h2] at h; omega
      · exact tx_tri h1 h2
  · rintro rfl
    rw [if_neg (tx_irrefl a), if_neg (tx_irrefl a)]
theorem cmpT_neg (a b : Tx) : cmpT a b < 0 ↔ a < b := by
  unfold cmpT
  by_cases h1 : a < b
  · rw [if_pos h1]; simp [h1]
  · rw [if_neg h1]
    by_cases h2 : b < a
    · rw [if_pos h2]; simp [h1]
    · rw [if_neg h2]; simp [h1]
theorem cmpT_anti (a b : Tx) : cmpT b a = - cmpT a b := by
  unfold cmpT
  by_cases h1 : a < b
  · rw [if_neg (tx_asymm h1), if_pos h1, if_pos h1]; rfl
  · by_cases h2 : b < a
    · rw [if_pos h2, if_neg h1, if_pos h2]
    · rw [if_neg h2, if_neg h1, if_neg h1, if_neg h2]; rfl
def cmpK : Ky → Ky → Int
  | [], [] => 0
  | [], _ :: _ => -1
  | _ :: _, [] => 1
  | a :: l, b :: m => if cmpT a b = 0 then cmpK l m else cmpT a b
theorem cmpK_zero : ∀ (a b : Ky), cmpK a b = 0 ↔ a = b
  | [], [] => by simp [cmpK]
  | [], _ :: _ => by simp [cmpK]
  | _ :: _, [] => by simp [cmpK]
  | a :: l, b :: m => by
    unfold cmpK
    by_cases h : cmpT a b = 0
    · rw [if_pos h, cmpK_zero l m, (cmpT_zero a b).1 h]; simp
    · rw [if_neg h]
      constructor
      · intro e; exact absurd e h
      · intro e
        exact absurd ((cmpT_zero a b).2 (List.cons.inj e).1) h
theorem cmpK_neg : ∀ (a b : Ky), cmpK a b < 0 ↔ a < b
  | [], [] => by simp [cmpK]
  | [], _ :: _ => by simp [cmpK]
  | _ :: _, [] => by simp [cmpK]
  | a :: l, b :: m => by
    unfold cmpK
    rw [List.cons_lt_cons_iff]
    by_cases h : cmpT a b = 0
    · have e := (cmpT_zero a b).1 h
      subst e
      rw [if_pos h, cmpK_neg l m]
      simp [tx_irrefl]
    · rw [if_neg h, cmpT_neg]
      have hne : a ≠ b := fun e => h ((cmpT_zero a b).2 e)
      simp [hne]
theorem cmpK_anti : ∀ (a b : Ky), cmpK b a = - cmpK a b
  | [], [] => rfl
  | [], _ :: _ => rfl
  | _ :: _, [] => rfl
  | a :: l, b :: m => by
    unfold cmpK
    rw [cmpT_anti a b]
    by_cases h : cmpT a b = 0
    · rw [if_pos (by omega), if_pos h, cmpK_anti l m]
    · rw [if_neg (by omega), if_neg h]
theorem cmpT_range (a b : Tx) : -1 ≤ cmpT a b ∧ cmpT a b ≤ 1 := by
  unfold cmpT
  split
  · omega
  · split <;> omega
theorem cmpK_range : ∀ (a b : Ky), -1 ≤ cmpK a b ∧ cmpK a b ≤ 1
  | [], [] => by simp [cmpK]
  | [], _ :: _ => by simp [cmpK]
  | _ :: _, [] => by simp [cmpK]
  | a :: l, b :: m => by
    unfold cmpK
    split
    · exact cmpK_range l m
    · exact cmpT_range a b

/-! ### rows -/
@[ext] structure Rw where
  key : Ky
  acc : Ac
deriving DecidableEq
def Srt (l : List Rw) : Prop := l.Pairwise fun a b => a.key < b.key
def atK : List Rw → Ky → Option Ac
  | [], _ => none
  | r :: l, k => if r.key = k then some r.acc else atK l k
theorem atK_cons (r : Rw) (l : List Rw) (k : Ky) : atK (r :: l) k = if r.key = k then some r.acc else atK l k := by conv => lhs; unfold atK
theorem atK_none {l : List Rw} {k : Ky} (h : ∀ r ∈ l, r.key ≠ k) : atK l k = none := by
  induction l with
  | nil => rfl
  | cons r l ih =>
    unfold atK
    rw [if_neg (h r (by simp))]
    exact ih fun s hs => h s (by simp [hs])
theorem srt_ext : ∀ {l m : List Rw}, Srt l → Srt m → (∀ k, atK l k = atK m k) → l = m
  | [], [], _, _, _ => rfl
  | [], s :: m, _, _, h => by have := h s.key; simp [atK] at this
  | r :: l, [], _, _, h => by have := h r.key; simp [atK] at this
  | r :: l, s :: m, hl, hm, h => by
    obtain ⟨hl1, hl2⟩ := List.pairwise_cons.1 hl
    obtain ⟨hm1, hm2⟩ := List.pairwise_cons.1 hm
    have e : r.key = s.key := by
      refine ky_tri (fun hlt => ?_) (fun hlt => ?_)
      · have h1 : atK (s :: m) r.key = none := atK_none fun x hx e => by
          rcases List.mem_cons.1 hx with rfl | hx
          · exact ky_irrefl _ (e ▸ hlt)
          · exact ky_irrefl _ (ky_trans hlt (e ▸ hm1 x hx))
        have := h r.key
        rw [h1] at this
        simp [atK] at this
      · have h1 : atK (r :: l) s.key = none := atK_none fun x hx e => by
          rcases List.mem_cons.1 hx with rfl | hx
          · exact ky_irrefl _ (e ▸ hlt)
          · exact ky_irrefl _ (ky_trans hlt (e ▸ hl1 x hx))
        have := h s.key
        rw [h1] at this
        simp [atK] at this
    have ea : r.acc = s.acc := by
      have := h r.key
      unfold atK at this
      rw [if_pos rfl, if_pos e.symm] at this
      exact Option.some.inj this
    have et : l = m := srt_ext hl2 hm2 fun k => by
      by_cases hk : r.key = k
      · rw [atK_none fun x hx e1 => ky_irrefl _ (hk ▸ e1 ▸ hl1 x hx), atK_none fun x hx e1 => ky_irrefl _ ((e.symm.trans hk) ▸ e1 ▸ hm1 x hx)]
      · have := h k
        unfold atK at this
        rwa [if_neg hk, if_neg (e ▸ hk)] at this
    rw [et, Rw.ext e ea]

/-! ### grouping -/
section
variable {γ : Type} (step : Ac → γ → Ac) (z : Ac)
def insG : List Rw → Ky → γ → List Rw
  | [], k, x => [⟨k, step z x⟩]
  | r :: rs, k, x => if r.key < k then r :: insG rs k x else if r.key = k then ⟨r.key, step r.acc x⟩ :: rs else ⟨k, step z x⟩ :: r :: rs
theorem insG_mem : ∀ (l : List Rw) (k : Ky) (x : γ), ∀ r ∈ insG step z l k x, r.key = k ∨ ∃ s ∈ l, s.key = r.key
  | [], k, x, r, hr => by
    simp [insG] at hr
    exact .inl (by rw [hr])
  | s :: l, k, x, r, hr => by
    unfold insG at hr
    split at hr
    · rcases List.mem_cons.1 hr with rfl | hr
      · exact .inr ⟨_, by simp, rfl⟩
      · rcases insG_mem l k x r hr with h | ⟨t, ht, e⟩
        · exact .inl h
        · exact .inr ⟨t, by simp [ht], e⟩
    · split at hr
      · rcases List.mem_cons.1 hr with rfl | hr
        · exact .inr ⟨s, by simp, rfl⟩
        · exact .inr ⟨r, by simp [hr], rfl⟩
      · rcases List.mem_cons.1 hr with rfl | hr
        · exact .inl rfl
        · exact .inr ⟨r, hr, rfl⟩
theorem insG_srt : ∀ (l : List Rw) (k : Ky) (x : γ), Srt l → Srt (insG step z l k x)
  | [], k, x, _ => by unfold insG Srt; simp
  | s :: l, k, x, h => by
    obtain ⟨h1, h2⟩ := List.pairwise_cons.1 h
    unfold insG
    split
    · next hlt =>
      refine List.pairwise_cons.2 ⟨fun r hr => ?_, insG_srt l k x h2⟩
      rcases insG_mem step z l k x r hr with e | ⟨t, ht, e⟩
      · rw [e]; exact hlt
      · rw [← e]; exact h1 t ht
    · next hge =>
      split
      · exact List.pairwise_cons.2 ⟨fun r hr => h1 r hr, h2⟩
      · next hne =>
        have hlt : k < s.key := by
          by_cases h3 : k < s.key
          · exact h3
          · exact absurd (ky_tri hge h3) hne
        refine List.pairwise_cons.2 ⟨fun r hr => ?_, h⟩
        rcases List.mem_cons.1 hr with rfl | hr
        · exact hlt
        · exact ky_trans hlt (h1 r hr)
theorem at_insG : ∀ (l : List Rw) (k : Ky) (x : γ), Srt l → ∀ k', atK (insG step z l k x) k' = if k = k' then some (step ((atK l k).getD z) x) else atK l k'
  | [], k, x, _, k' => by unfold insG; unfold atK; rfl
  | s :: l, k, x, h, k' => by
    obtain ⟨h1, h2⟩ := List.pairwise_cons.1 h
    unfold insG
    split
    · next hlt =>
      have hne : s.key ≠ k := fun e => ky_irrefl _ (e ▸ hlt)
      have ih := at_insG l k x h2 k'
      unfold atK
      rw [if_neg hne, ih]
      by_cases e : s.key = k'
      · rw [if_pos e, if_neg (fun e2 => hne (e.trans e2.symm)), if_pos e]
      · rw [if_neg e, if_neg e]
    · next hge =>
      split
      · next he =>
        unfold atK
        rw [if_pos he]
        simp only [Option.getD_some]
        by_cases e : k = k'
        · rw [if_pos (he.trans e), if_pos e]
        · rw [if_neg (fun e2 => e (he.symm.trans e2)), if_neg e, if_neg (fun e2 => e (he.symm.trans e2))]
      · next hne =>
        have hlt : k < s.key := by
          by_cases h3 : k < s.key
          · exact h3
          · exact absurd (ky_tri hge h3) hne
        have hn : atK (s :: l) k = none := atK_none fun r hr e => by
          rcases List.mem_cons.1 hr with rfl | hr
          · exact ky_irrefl _ (e ▸ hlt)
          · exact ky_irrefl _ (ky_trans hlt (e ▸ h1 r hr))
        rw [hn]
        conv => lhs; unfold atK
        rfl
def grpL (es : List (Ky × γ)) : List Rw := es.foldl (fun rows e => insG step z rows e.1 e.2) []
def colG (es : List (Ky × γ)) (k : Ky) : List γ := (es.filter fun e => decide (e.1 = k)).map (·.2)
def accG (l : List γ) : Option Ac := match l with | [] => none | x :: l => some ((x :: l).foldl step z)
theorem accG_snoc (l : List γ) (x : γ) : accG step z (l ++ [x]) = some (step ((accG step z l).getD z) x) := by
  cases l with
  | nil => rfl
  | cons y l => unfold accG; simp [List.foldl_append]
theorem colG_snoc (es : List (Ky × γ)) (e : Ky × γ) (k : Ky) : colG (es ++ [e]) k = if e.1 = k then colG es k ++ [e.2] else colG es k := by
  unfold colG
  rw [List.filter_append]
  by_cases h : e.1 = k
  · simp [h]
  · simp [h]
theorem grp_snoc (es : List (Ky × γ)) (e : Ky × γ) : grpL step z (es ++ [e]) = insG step z (grpL step z es) e.1 e.2 := by
  unfold grpL; rw [List.foldl_append]; rfl
theorem snoc_ind {α : Type} {p : List α → Prop} (h0 : p []) (h1 : ∀ l x, p l → p (l ++ [x])) (l : List α) : p l := by
  have : ∀ n (l : List α), l.length = n → p l := by
    intro n
    induction n with
    | zero => intro l h; rw [List.eq_nil_of_length_eq_zero h]; exact h0
    | succ n ih =>
      intro l h
      have hne : l ≠ [] := fun e => by rw [e] at h; simp at h
      have := h1 l.dropLast (l.getLast hne) (ih _ (by simp [h]))
      rwa [List.dropLast_concat_getLast hne] at this
  exact this _ l rfl
theorem grp_srt (es : List (Ky × γ)) : Srt (grpL step z es) := by
  induction es using snoc_ind with
  | h0 => exact List.Pairwise.nil
  | h1 l x ih => rw [grp_snoc]; exact insG_srt step z _ _ _ ih
theorem at_grp (es : List (Ky × γ)) : ∀ k, atK (grpL step z es) k = accG step z (colG es k) := by
  induction es using snoc_ind with
  | h0 => intro k; rfl
  | h1 l x ih =>
    intro k
    rw [grp_snoc, at_insG step z _ _ _ (grp_srt step z l), colG_snoc, ih, ih]
    by_cases h : x.1 = k
    · subst h
      rw [if_pos rfl, if_pos rfl, accG_snoc]
    · rw [if_neg h, if_neg h]
/-- Whatever is in order, and tells the same of each key. -/
theorem grp_of {l : List Rw} (es : List (Ky × γ)) (h : Srt l) (ha : ∀ k, atK l k = accG step z (colG es k)) : l = grpL step z es :=
  srt_ext h (grp_srt step z es) fun k => (ha k).trans (at_grp step z es k).symm
theorem grp_perm {es fs : List (Ky × γ)} (hp : es.Perm fs) (hc : ∀ l m : List γ, l.Perm m → l.foldl step z = m.foldl step z) : grpL step z es = grpL step z fs := by
  refine grp_of step z fs (grp_srt step z es) fun k => ?_
  rw [at_grp]
  have hq : (colG es k).Perm (colG fs k) := (hp.filter _).map _
  have := hc _ _ hq
  unfold accG
  revert hq this
  cases colG es k with
  | nil => intro hq _; rw [List.nil_perm.1 hq]
  | cons x l =>
    intro hq this
    cases hm : colG fs k with
    | nil => rw [hm] at hq; exact absurd (List.perm_nil.1 hq) (by simp)
    | cons y m => rw [hm] at this; exact congrArg some this

/-! ### rows as they come -/
def Dst (l : List Rw) : Prop := (l.map Rw.key).Nodup
def posK (l : List Rw) (k : Ky) : Nat := l.findIdx fun r => decide (r.key = k)
def rowG (l : List Rw) (k : Ky) : List Rw := if (atK l k).isSome then l else l ++ [⟨k, z⟩]
theorem atK_some {l : List Rw} {k : Ky} : (atK l k).isSome = true ↔ ∃ r ∈ l, r.key = k := by
  induction l with
  | nil => simp [atK]
  | cons r l ih =>
    unfold atK
    by_cases h : r.key = k
    · rw [if_pos h]; simp [h]
    · rw [if_neg h, ih]; simp [h]
theorem posK_lt {l : List Rw} {k : Ky} : posK l k < l.length ↔ (atK l k).isSome = true := by
  rw [atK_some]
  unfold posK
  rw [List.findIdx_lt_length]
  simp
theorem posK_le (l : List Rw) (k : Ky) : posK l k ≤ l.length := List.findIdx_le_length
theorem posK_key {l : List Rw} {k : Ky} (h : posK l k < l.length) : l[posK l k].key = k := by
  have := List.findIdx_getElem (p := fun r : Rw => decide (r.key = k)) (xs := l) (w := h)
  exact of_decide_eq_true this
theorem rowG_len (l : List Rw) (k : Ky) : posK l k < (rowG z l k).length := by
  unfold rowG
  split
  · next h => exact posK_lt.2 h
  · have := posK_le l k; simp; omega
theorem atK_append (l m : List Rw) (k : Ky) : atK (l ++ m) k = (atK l k).or (atK m k) := by
  induction l with
  | nil => rfl
  | cons r l ih =>
    rw [List.cons_append, atK_cons, atK_cons]
    by_cases h : r.key = k
    · rw [if_pos h, if_pos h]; rfl
    · rw [if_neg h, if_neg h, ih]
theorem rowG_at (l : List Rw) (k k' : Ky) : atK (rowG z l k) k' = if k = k' then some ((atK l k).getD z) else atK l k' := by
  unfold rowG
  split
  · next h =>
    by_cases e : k = k'
    · subst e; rw [if_pos rfl]
      cases ha : atK l k with
      | none => rw [ha] at h; cases h
      | some a => rfl
    · rw [if_neg e]
  · next h =>
    have hn : atK l k = none := by simpa using h
    rw [atK_append]
    by_cases e : k = k'
    · subst e; rw [if_pos rfl, hn]; simp [atK]
    · rw [if_neg e]; simp [atK, e]
theorem rowG_pos (l : List Rw) (k : Ky) : (rowG z l k)[posK l k]'(rowG_len z l k) = ⟨k, (atK l k).getD z⟩ := by
  have hd : ∀ (l : List Rw) (h : posK l k < l.length), (atK l k) = some l[posK l k].acc := by
    intro l
    induction l with
    | nil => intro h; simp at h
    | cons r l ih =>
      intro h
      unfold atK
      by_cases e : r.key = k
      · rw [if_pos e]
        have : posK (r :: l) k = 0 := by unfold posK; rw [List.findIdx_cons]; simp [e]
        simp [this]
      · rw [if_neg e]
        have he : posK (r :: l) k = posK l k + 1 := by unfold posK; rw [List.findIdx_cons]; simp [e]
        have h2 : posK l k < l.length := by rw [he] at h; simpa using h
        rw [ih h2]
        simp [he]
  by_cases h : (atK l k).isSome
  · have e : rowG z l k = l := by unfold rowG; rw [if_pos h]
    have hlt := posK_lt.2 h
    have h1 : (rowG z l k)[posK l k]'(rowG_len z l k) = l[posK l k] := by simp [e]
    rw [h1]
    have h2 := hd l hlt
    rw [h2]
    exact Rw.ext (posK_key hlt) rfl
  · have e : rowG z l k = l ++ [⟨k, z⟩] := by unfold rowG; rw [if_neg h]
    have hp : posK l k = l.length := by
      have := posK_le l k
      have h3 : ¬ posK l k < l.length := fun h4 => h (posK_lt.1 h4)
      omega
    have hn : atK l k = none := by simpa using h
    have h1 : (rowG z l k)[posK l k]'(rowG_len z l k) = (⟨k, z⟩ : Rw) := by simp [e, hp]
    rw [h1, hn]; rfl
theorem rowG_dst {l : List Rw} (h : Dst l) (k : Ky) : Dst (rowG z l k) := by
  unfold rowG
  split
  · exact h
  · next hn =>
    unfold Dst at *
    rw [List.map_append, List.nodup_append]
    refine ⟨h, by simp, fun a ha b hb => ?_⟩
    simp at hb
    subst hb
    rintro rfl
    obtain ⟨r, hr, e⟩ := List.mem_map.1 ha
    exact hn (atK_some.2 ⟨r, hr, e⟩)
/-- A row's accumulator is another one. -/
def setA (l : List Rw) (i : Nat) (a : Ac) : List Rw := match l[i]? with | some r => l.set i ⟨r.key, a⟩ | none => l
theorem setA_keys (l : List Rw) (i : Nat) (a : Ac) : (setA l i a).map Rw.key = l.map Rw.key := by
  unfold setA
  split
  · next r hr =>
    apply List.ext_getElem?
    intro j
    simp only [List.getElem?_map, List.getElem?_set]
    by_cases e : i = j
    · subst e
      obtain ⟨h1, h2⟩ := List.getElem?_eq_some_iff.1 hr
      rw [if_pos rfl, if_pos h1, hr]
      rfl
    · rw [if_neg e]
  · rfl
theorem setA_dst {l : List Rw} (h : Dst l) (i : Nat) (a : Ac) : Dst (setA l i a) := by unfold Dst at *; rw [setA_keys]; exact h
theorem setA_len (l : List Rw) (i : Nat) (a : Ac) : (setA l i a).length = l.length := by
  have := congrArg List.length (setA_keys l i a)
  simpa using this
theorem setA_at : ∀ (l : List Rw) (i : Nat) (a : Ac) (k : Ky), Dst l → (l[i]?).map Rw.key = some k → ∀ k', atK (setA l i a) k' = if k = k' then some a else atK l k'
  | [], i, a, k, _, h, k' => by simp at h
  | r :: l, 0, a, k, hd, h, k' => by
    have e : r.key = k := by simpa using h
    have : setA (r :: l) 0 a = ⟨r.key, a⟩ :: l := rfl
    rw [this, atK_cons, atK_cons]
    simp only
    rw [e]
    by_cases h2 : k = k'
    · rw [if_pos h2, if_pos h2]
    · rw [if_neg h2, if_neg h2, if_neg h2]
  | r :: l, i + 1, a, k, hd, h, k' => by
    have h' : (l[i]?).map Rw.key = some k := by simpa using h
    have hn : r.key ∉ l.map Rw.key ∧ (l.map Rw.key).Nodup := by
      have : (r.key :: l.map Rw.key).Nodup := hd
      exact List.nodup_cons.1 this
    have e : setA (r :: l) (i + 1) a = r :: setA l i a := by
      unfold setA
      simp only [List.getElem?_cons_succ]
      split <;> rfl
    rw [e, atK_cons, atK_cons]
    rw [setA_at l i a k hn.2 h' k']
    by_cases h2 : r.key = k'
    · rw [if_pos h2]
      have : k ≠ k' := by
        rintro rfl
        apply hn.1
        rw [h2]
        obtain ⟨x, hx, ex⟩ := Option.map_eq_some_iff.1 h'
        rw [← ex]
        exact List.mem_map_of_mem (List.mem_of_getElem? hx)
      rw [if_neg this, if_pos h2]
    · rw [if_neg h2, if_neg h2]
/-- One thing more, put to its key's row. -/
def updG (l : List Rw) (k : Ky) (x : γ) : List Rw := setA (rowG z l k) (posK l k) (step ((atK l k).getD z) x)
theorem updG_dst {l : List Rw} (h : Dst l) (k : Ky) (x : γ) : Dst (updG step z l k x) := setA_dst (rowG_dst z h k) _ _
theorem updG_at {l : List Rw} (h : Dst l) (k : Ky) (x : γ) (k' : Ky) : atK (updG step z l k x) k' = if k = k' then some (step ((atK l k).getD z) x) else atK l k' := by
  unfold updG
  rw [setA_at _ _ _ k (rowG_dst z h k) (by rw [List.getElem?_eq_getElem (rowG_len z l k), rowG_pos]; rfl), rowG_at]
  by_cases e : k = k'
  · rw [if_pos e, if_pos e]
  · rw [if_neg e, if_neg e, if_neg e]
def ordL (es : List (Ky × γ)) : List Rw := es.foldl (fun rows e => updG step z rows e.1 e.2) []
theorem ord_snoc (es : List (Ky × γ)) (e : Ky × γ) : ordL step z (es ++ [e]) = updG step z (ordL step z es) e.1 e.2 := by
  unfold ordL; rw [List.foldl_append]; rfl
theorem ord_dst (es : List (Ky × γ)) : Dst (ordL step z es) := by
  induction es using snoc_ind with
  | h0 => exact List.nodup_nil
  | h1 l x ih => rw [ord_snoc]; exact updG_dst step z ih _ _
theorem ord_at (es : List (Ky × γ)) : ∀ k, atK (ordL step z es) k = accG step z (colG es k) := by
  induction es using snoc_ind with
  | h0 => intro k; rfl
  | h1 l x ih =>
    intro k
    rw [ord_snoc, updG_at step z (ord_dst step z l), colG_snoc, ih, ih]
    by_cases h : x.1 = k
    · subst h
      rw [if_pos rfl, if_pos rfl, accG_snoc]
    · rw [if_neg h, if_neg h]
theorem ord_len (es : List (Ky × γ)) : (ordL step z es).length ≤ es.length := by
  induction es using snoc_ind with
  | h0 => exact Nat.le_refl _
  | h1 l x ih =>
    rw [ord_snoc, List.length_append]
    unfold updG
    rw [setA_len]
    unfold rowG
    split
    · simp; omega
    · simp; omega
theorem atK_perm {l m : List Rw} (h : l.Perm m) (hd : Dst l) (k : Ky) : atK l k = atK m k := by
  have key : ∀ (l : List Rw), Dst l → ∀ r ∈ l, atK l r.key = some r.acc := by
    intro l
    induction l with
    | nil => intro _ r hr; cases hr
    | cons s l ih =>
      intro hd r hr
      have hn : s.key ∉ l.map Rw.key ∧ (l.map Rw.key).Nodup := by
        have : (s.key :: l.map Rw.key).Nodup := hd
        exact List.nodup_cons.1 this
      unfold atK
      rcases List.mem_cons.1 hr with rfl | hr
      · rw [if_pos rfl]
      · rw [if_neg (fun e => hn.1 (by rw [e]; exact List.mem_map_of_mem hr))]
        exact ih hn.2 r hr
  have hd' : Dst m := ((h.map Rw.key).nodup_iff).1 hd
  by_cases hk : ∃ r ∈ l, r.key = k
  · obtain ⟨r, hr, rfl⟩ := hk
    rw [key l hd r hr, key m hd' r (h.mem_iff.1 hr)]
  · rw [atK_none fun r hr e => hk ⟨r, hr, e⟩, atK_none fun r hr e => hk ⟨r, h.mem_iff.2 hr, e⟩]
/-- The rows as they came, sorted. -/
theorem ord_sorted {es : List (Ky × γ)} {l : List Rw} (hp : l.Perm (ordL step z es)) (hs : l.Pairwise fun a b => ¬ b.key < a.key) : l = grpL step z es := by
  have hd : Dst l := ((hp.map Rw.key).nodup_iff).2 (ord_dst step z es)
  refine grp_of step z es ?_ fun k => (atK_perm hp hd k).trans (ord_at step z es k)
  have hn : l.Pairwise fun a b => a.key ≠ b.key := List.pairwise_map.1 hd
  refine (hs.and hn).imp ?_
  intro a b ⟨h1, h2⟩
  by_cases h3 : a.key < b.key
  · exact h3
  · exact absurd (ky_tri h3 h1) h2

/-! ### rows out of what is sorted -/
/-- What the last row, or a new one, becomes. -/
def lastG (l : List Rw) (k : Ky) (x : γ) : List Rw := match l.getLast? with
  | some r => if r.key = k then l.dropLast ++ [⟨r.key, step r.acc x⟩] else l ++ [⟨k, step z x⟩]
  | none => [⟨k, step z x⟩]
theorem lastG_ins : ∀ (l : List Rw) (k : Ky) (x : γ), Srt l → (∀ r ∈ l, ¬ k < r.key) → lastG step z l k x = insG step z l k x
  | [], k, x, _, _ => rfl
  | [r], k, x, _, h => by
    unfold lastG insG insG
    simp only [List.getLast?_singleton, List.dropLast_singleton, List.nil_append]
    by_cases e : r.key = k
    · rw [if_pos e, if_neg (fun h2 => ky_irrefl _ (e ▸ h2)), if_pos e]
    · rw [if_neg e, if_pos]
      · rfl
      · by_cases h2 : r.key < k
        · exact h2
        · exact absurd (ky_tri h2 (h r (by simp))) e
  | r :: s :: l, k, x, hs, h => by
    obtain ⟨h1, h2⟩ := List.pairwise_cons.1 hs
    have ih := lastG_ins (s :: l) k x h2 fun t ht => h t (by simp at ht ⊢; exact .inr ht)
    have hlt : r.key < k := ky_lt_le (h1 s (by simp)) (h s (by simp))
    conv => rhs; unfold insG
    rw [if_pos hlt, ← ih]
    unfold lastG
    rw [List.getLast?_cons_cons]
    cases hg : (s :: l).getLast? with
    | none => simp at hg
    | some t =>
      simp only
      split
      · rfl
      · rfl
theorem grp_last {es : List (Ky × γ)} (hs : es.Pairwise fun a b => ¬ b.1 < a.1) : es.foldl (fun rows e => lastG step z rows e.1 e.2) [] = grpL step z es := by
  have key : ∀ (es : List (Ky × γ)), (es.Pairwise fun a b => ¬ b.1 < a.1) → es.foldl (fun rows e => lastG step z rows e.1 e.2) [] = grpL step z es ∧ ∀ r ∈ grpL step z es, ∃ e ∈ es, e.1 = r.key := by
    intro es
    induction es using snoc_ind with
    | h0 => intro _; exact ⟨rfl, fun r hr => by cases hr⟩
    | h1 l x ih =>
      intro hs
      obtain ⟨h1, h2, h3⟩ := List.pairwise_append.1 hs
      obtain ⟨i1, i2⟩ := ih h1
      rw [List.foldl_append, grp_snoc]
      simp only [List.foldl_cons, List.foldl_nil]
      rw [i1]
      refine ⟨lastG_ins step z _ _ _ (grp_srt step z l) fun r hr => ?_, fun r hr => ?_⟩
      · obtain ⟨e, he, ee⟩ := i2 r hr
        rw [← ee]
        exact h3 e he x (by simp)
      · rcases insG_mem step z _ _ _ r hr with e | ⟨s, hsm, e⟩
        · exact ⟨x, by simp, e.symm⟩
        · obtain ⟨e', he, ee⟩ := i2 s hsm
          exact ⟨e', by simp [he], ee.trans e⟩
  exact (key es hs).1
end
end Go.Proofs.YtlpglijikmnopaaGreatDoor
