/- A query's text as words, plain: bytes' kinds, runs, keywords, texts in quotes, words. -/
import Derived.Lib.Replace
namespace Go.Proofs.YtkcnbmgaeompjaaGreatDoor
set_option linter.unusedVariables false

abbrev Tx := List UInt8

/-! ### bytes -/
def isLet (b : UInt8) : Bool := (97 ≤ b && b ≤ 122) || (65 ≤ b && b ≤ 90) || b == 95
def isDig (b : UInt8) : Bool := 48 ≤ b && b ≤ 57
def isBla (b : UInt8) : Bool := b == 32 || b == 9 || b == 10 || b == 13
def isSig (b : UInt8) : Bool := b == 40 || b == 41 || b == 44 || b == 42 || b == 61 || b == 45 || b == 60 || b == 62
def kindB (b : UInt8) : Nat := if isBla b then 1 else if isLet b then 2 else if isDig b then 3 else if b == 39 then 4 else if isSig b then 5 else 0
def goB (b : UInt8) : Bool := isLet b || isDig b
def capB (b : UInt8) : UInt8 := if 97 ≤ b && b ≤ 122 then b - 32 else b
theorem all_bytes {p : UInt8 → Prop} (h : ∀ n, n < 256 → p (UInt8.ofNat n)) (b : UInt8) : p b := by
  have := h b.toNat b.toNat_lt
  rwa [UInt8.ofNat_toNat] at this
theorem kind_go (b : UInt8) : (kindB b = 2 ∨ kindB b = 3) ↔ goB b = true := all_bytes (p := fun b => (kindB b = 2 ∨ kindB b = 3) ↔ goB b = true) (by decide +kernel) b
theorem kind_let (b : UInt8) : kindB b = 2 ↔ isLet b = true := all_bytes (p := fun b => kindB b = 2 ↔ isLet b = true) (by decide +kernel) b
theorem kind_dig (b : UInt8) : kindB b = 3 ↔ isDig b = true := all_bytes (p := fun b => kindB b = 3 ↔ isDig b = true) (by decide +kernel) b
theorem kind_bla (b : UInt8) : kindB b = 1 ↔ isBla b = true := all_bytes (p := fun b => kindB b = 1 ↔ isBla b = true) (by decide +kernel) b
theorem kind_quo (b : UInt8) : kindB b = 4 ↔ b = 39 := all_bytes (p := fun b => kindB b = 4 ↔ b = 39) (by decide +kernel) b
theorem kind_sig (b : UInt8) : kindB b = 5 ↔ isSig b = true := all_bytes (p := fun b => kindB b = 5 ↔ isSig b = true) (by decide +kernel) b
theorem kind_lt (b : UInt8) : kindB b < 6 := all_bytes (p := fun b => kindB b < 6) (by decide +kernel) b

/-! ### runs -/
def firstB : Tx → Nat
  | [] => 6
  | b :: _ => kindB b
def runB (p : UInt8 → Bool) : Tx → Nat
  | [] => 0
  | b :: l => if p b then runB p l + 1 else 0
theorem runB_cons (p : UInt8 → Bool) (b : UInt8) (l : Tx) : runB p (b :: l) = if p b then runB p l + 1 else 0 := rfl
theorem runB_le (p : UInt8 → Bool) : ∀ l : Tx, runB p l ≤ l.length
  | [] => Nat.le_refl 0
  | b :: l => by
    unfold runB
    have := runB_le p l
    split <;> simp <;> omega
theorem runB_lt (p : UInt8 → Bool) : ∀ (l : Tx) (j : Nat) (h : j < runB p l), p (l[j]'(Nat.lt_of_lt_of_le h (runB_le p l))) = true
  | [], j, h => by simp [runB] at h
  | b :: l, j, h => by
    unfold runB at h
    split at h
    · rename_i hb
      cases j with
      | zero => exact hb
      | succ j => simpa using runB_lt p l j (by omega)
    · omega
theorem runB_end (p : UInt8 → Bool) : ∀ (l : Tx) (h : runB p l < l.length), p (l[runB p l]'h) = false
  | [], h => by simp [runB] at h
  | b :: l, h => by
    by_cases hb : p b = true
    · have e : runB p (b :: l) = runB p l + 1 := by rw [runB_cons, if_pos hb]
      have h' : runB p l < l.length := by rw [e] at h; simpa using h
      have := runB_end p l h'
      simp only [e, List.getElem_cons_succ]
      exact this
    · have e : runB p (b :: l) = 0 := by rw [runB_cons, if_neg hb]
      simp only [e, List.getElem_cons_zero]
      simpa using hb
theorem runB_eq (p : UInt8 → Bool) : ∀ (l : Tx) (k : Nat), k ≤ l.length → (∀ j (h : j < l.length), j < k → p l[j] = true) → (∀ h : k < l.length, p l[k] = false) → runB p l = k
  | [], k, hk, _, _ => by simp [runB] at hk ⊢; omega
  | b :: l, k, hk, h1, h2 => by
    cases k with
    | zero =>
      have := h2 (by simp)
      unfold runB
      rw [if_neg (by simpa using this)]
    | succ k =>
      have := h1 0 (by simp) (by omega)
      unfold runB
      rw [if_pos (by simpa using this), runB_eq p l k (by simpa using hk) (fun j h hj => h1 (j + 1) (by simpa using h) (by omega)) (fun h => h2 (by simpa using h))]
/-- A run, all of whose bytes are meant, up to what is not. -/
theorem runB_app (p : UInt8 → Bool) (x y : Tx) (hx : ∀ b ∈ x, p b = true) (hy : ∀ b, y.head? = some b → p b = false) : runB p (x ++ y) = x.length := by
  induction x with
  | nil =>
    cases y with
    | nil => rfl
    | cons b y => show runB p (b :: y) = 0; unfold runB; rw [if_neg (by simpa using hy b rfl)]
  | cons b x ih =>
    show runB p (b :: (x ++ y)) = _
    unfold runB
    rw [if_pos (hx b (by simp)), ih fun c hc => hx c (by simp [hc])]; rfl
theorem runB_take (p : UInt8 → Bool) : ∀ l : Tx, ∀ b ∈ l.take (runB p l), p b = true
  | [], b, h => by simp [runB] at h
  | c :: l, b, h => by
    unfold runB at h
    split at h
    · rename_i hc
      rw [List.take_succ_cons, List.mem_cons] at h
      rcases h with rfl | h
      · exact hc
      · exact runB_take p l b h
    · simp at h
theorem runB_head (p : UInt8 → Bool) : ∀ l : Tx, ∀ b, (l.drop (runB p l)).head? = some b → p b = false
  | [], b, h => by simp [runB] at h
  | c :: l, b, h => by
    unfold runB at h
    split at h
    · exact runB_head p l b (by simpa using h)
    · rename_i hc
      simp at h; subst h; simpa using hc

/-! ### keywords -/
def kws : List Tx := [[83, 69, 76, 69, 67, 84], [70, 82, 79, 77], [87, 72, 69, 82, 69], [71, 82, 79, 85, 80], [66, 89], [82, 79, 76, 76, 85, 80], [67, 85, 66, 69], [71, 82, 79, 85, 80, 73, 78, 71], [83, 69, 84, 83], [67, 79, 85, 78, 84], [83, 85, 77], [77, 73, 78], [77, 65, 88], [65, 78, 68], [79, 82], [78, 79, 84], [73, 78]]
def kwOf (s : Tx) : Tx := if s.map capB ∈ kws then s.map capB else []
theorem kws_ne {k : Tx} (h : k ∈ kws) : k ≠ [] := by
  rintro rfl
  exact absurd h (by decide)
theorem kwOf_nil_iff (s : Tx) : kwOf s = [] ↔ s.map capB ∉ kws := by
  unfold kwOf
  split
  · rename_i h
    exact ⟨fun e => absurd e (kws_ne h), fun e => absurd h e⟩
  · rename_i h
    exact ⟨fun _ => h, fun _ => rfl⟩

/-! ### texts in quotes -/
def dbl : Tx → Tx
  | [] => []
  | b :: l => if b = 39 then 39 :: 39 :: dbl l else b :: dbl l
theorem dbl_cons (b : UInt8) (l : Tx) : dbl (b :: l) = if b = 39 then 39 :: 39 :: dbl l else b :: dbl l := rfl
def quoteB (t : Tx) : Tx := 39 :: dbl t ++ [39]
def half : Tx → Tx
  | [] => []
  | [b] => [b]
  | b :: c :: l => if b = 39 ∧ c = 39 then 39 :: half l else b :: half (c :: l)
/-- What stands behind the opening quote: the text, and how many bytes with the closing one. -/
def unq : Tx → Option (Tx × Nat)
  | [] => none
  | [b] => if b = 39 then some ([], 1) else none
  | b :: c :: l => if b = 39 then if c = 39 then (unq l).map fun x => (39 :: x.1, x.2 + 2) else some ([], 1) else (unq (c :: l)).map fun x => (b :: x.1, x.2 + 1)

section
open Go.Lib
theorem count_skip (b : UInt8) (l old : Tx) (ho : old ≠ []) (h : old.isPrefixOf (b :: l) = false) : count (b :: l) old = count l old := by
  rcases Int.lt_or_le (index l old) 0 with hm | hm
  · have e : index l old = -1 := by have := index_ge l old; omega
    have e2 : index (b :: l) old = -1 := by unfold index; rw [h, e]; rfl
    rw [count_miss e, count_miss e2]
  · obtain ⟨i, hi⟩ : ∃ i : Nat, index l old = i := ⟨(index l old).toNat, by omega⟩
    have e2 : index (b :: l) old = ((i + 1 : Nat) : Int) := by
      unfold index
      rw [h, hi]
      simp
    rw [count_hit ho hi, count_hit ho e2]
    rw [show i + 1 + old.length = (i + old.length) + 1 by omega, List.drop_succ_cons]
theorem replaceK_skip (b : UInt8) (l old new : Tx) (k : Nat) (h : old.isPrefixOf (b :: l) = false) : replaceK old new k (b :: l) = b :: replaceK old new k l := by
  cases k with
  | zero => rfl
  | succ k =>
    rcases Int.lt_or_le (index l old) 0 with hm | hm
    · have e : index l old = -1 := by have := index_ge l old; omega
      have e2 : index (b :: l) old = -1 := by unfold index; rw [h, e]; rfl
      unfold replaceK
      rw [e, e2]; rfl
    · obtain ⟨i, hi⟩ : ∃ i : Nat, index l old = i := ⟨(index l old).toNat, by omega⟩
      have e2 : index (b :: l) old = ((i + 1 : Nat) : Int) := by
        unfold index
        rw [h, hi]
        simp
      rw [replaceK_hit _ _ _ _ _ hi, replaceK_hit _ _ _ _ _ e2]
      rw [show i + 1 + old.length = (i + old.length) + 1 by omega, List.drop_succ_cons, List.take_succ_cons]
      rfl
theorem replaceAll_eq (s old new : Tx) (hne : old ≠ new) : replaceAll s old new = replaceK old new (count s old) s := by
  unfold replaceAll replace replaceNum
  rw [if_neg (by simpa using hne), if_pos (.inl (by omega))]
theorem replaceAll_skip (b : UInt8) (l old new : Tx) (ho : old ≠ []) (hne : old ≠ new) (h : old.isPrefixOf (b :: l) = false) : replaceAll (b :: l) old new = b :: replaceAll l old new := by
  rw [replaceAll_eq _ _ _ hne, replaceAll_eq _ _ _ hne, count_skip b l old ho h, replaceK_skip b l old new _ h]
theorem replaceAll_nil (old new : Tx) (ho : old ≠ []) (hne : old ≠ new) : replaceAll [] old new = [] := by
  rw [replaceAll_eq _ _ _ hne, count_miss (by unfold index; rw [if_neg (by simpa using ho)])]; rfl
theorem replaceAll_hit (b : UInt8) (l old new : Tx) (ho : old ≠ []) (hne : old ≠ new) (h : old.isPrefixOf (b :: l) = true) : replaceAll (b :: l) old new = new ++ replaceAll ((b :: l).drop old.length) old new := by
  have e : index (b :: l) old = ((0 : Nat) : Int) := by unfold index; rw [h]; rfl
  rw [replaceAll_eq _ _ _ hne, replaceAll_eq _ _ _ hne, count_hit ho e, Nat.add_comm, replaceK_hit _ _ _ _ _ e, Nat.zero_add]; rfl
theorem replace_dbl : ∀ s : Tx, replaceAll s [39] [39, 39] = dbl s
  | [] => replaceAll_nil _ _ (by decide) (by decide)
  | b :: l => by
    unfold dbl
    by_cases hb : b = 39
    · rw [if_pos hb, replaceAll_hit _ _ _ _ (by decide) (by decide) (by subst hb; rfl)]
      show [39, 39] ++ replaceAll l _ _ = _
      rw [replace_dbl l]; rfl
    · rw [if_neg hb, replaceAll_skip _ _ _ _ (by decide) (by decide) (by simpa [List.isPrefixOf] using fun e => hb e.symm), replace_dbl l]
theorem replace_half : ∀ s : Tx, replaceAll s [39, 39] [39] = half s
  | [] => replaceAll_nil _ _ (by decide) (by decide)
  | [b] => by
    rw [replaceAll_skip _ _ _ _ (by decide) (by decide) (by simp [List.isPrefixOf]), replaceAll_nil _ _ (by decide) (by decide)]; rfl
  | b :: c :: l => by
    unfold half
    by_cases hb : b = 39 ∧ c = 39
    · rw [if_pos hb, replaceAll_hit _ _ _ _ (by decide) (by decide) (by obtain ⟨rfl, rfl⟩ := hb; rfl)]
      show [39] ++ replaceAll l _ _ = _
      rw [replace_half l]; rfl
    · rw [if_neg hb, replaceAll_skip _ _ _ _ (by decide) (by decide) (by
        simp [List.isPrefixOf]
        intro e1 e2
        exact hb ⟨e1.symm, e2.symm⟩), replace_half (c :: l)]
end

theorem dbl_head (t : Tx) (r : Tx) : ∀ b l, dbl t = b :: l → b = 39 → ∃ l', l = 39 :: l' := by
  intro b l h hb
  cases t with
  | nil => simp [dbl] at h
  | cons c t =>
    unfold dbl at h
    split at h
    · injection h with h1 h2
      exact ⟨_, h2.symm⟩
    · rename_i hc
      injection h with h1 h2
      exact absurd (h1.trans hb) hc
theorem half_dbl : ∀ t : Tx, half (dbl t) = t
  | [] => rfl
  | b :: l => by
    unfold dbl
    by_cases hb : b = 39
    · rw [if_pos hb]
      unfold half
      rw [if_pos ⟨rfl, rfl⟩, half_dbl l, hb]
    · rw [if_neg hb]
      cases hd : dbl l with
      | nil =>
        have := half_dbl l
        rw [hd] at this
        unfold half
        rw [← this]; rfl
      | cons c m =>
        unfold half
        rw [if_neg (fun e => hb e.1), ← hd, half_dbl l]
theorem unq_inv : ∀ (l t : Tx) (n : Nat), unq l = some (t, n) → ∃ r, l = dbl t ++ 39 :: r ∧ r.head? ≠ some 39 ∧ n = (dbl t).length + 1
  | [], t, n, h => by simp [unq] at h
  | [b], t, n, h => by
    unfold unq at h
    split at h
    · rename_i hb
      cases h
      exact ⟨[], by rw [hb]; rfl, by simp, rfl⟩
    · cases h
  | b :: c :: l, t, n, h => by
    unfold unq at h
    split at h
    · rename_i hb
      split at h
      · rename_i hc
        obtain ⟨x, hx, he⟩ := Option.map_eq_some_iff.1 h
        obtain ⟨r, h1, h2, h3⟩ := unq_inv l x.1 x.2 hx
        injection he with e1 e2
        subst e1; subst e2
        exact ⟨r, by rw [hb, hc]; conv => lhs; rw [h1]
                     simp [dbl], h2, by simp [dbl]; omega⟩
      · rename_i hc
        cases h
        exact ⟨c :: l, by rw [hb]; rfl, by simpa using hc, rfl⟩
    · rename_i hb
      obtain ⟨x, hx, he⟩ := Option.map_eq_some_iff.1 h
      obtain ⟨r, h1, h2, h3⟩ := unq_inv (c :: l) x.1 x.2 hx
      injection he with e1 e2
      subst e1; subst e2
      exact ⟨r, by conv => lhs; rw [h1]
                   simp [dbl, hb], h2, by simp [dbl, hb]; omega⟩
theorem unq_dbl : ∀ (t r : Tx), r.head? ≠ some 39 → unq (dbl t ++ 39 :: r) = some (t, (dbl t).length + 1)
  | [], r, h => by
    cases r with
    | nil => rfl
    | cons c r =>
      show unq (39 :: c :: r) = _
      unfold unq
      rw [if_pos rfl, if_neg (by simpa using h)]; rfl
  | b :: t, r, h => by
    have ih := unq_dbl t r h
    by_cases hb : b = 39
    · have e : dbl (b :: t) = 39 :: 39 :: dbl t := by rw [dbl_cons, if_pos hb]
      rw [e]
      show unq (39 :: 39 :: (dbl t ++ 39 :: r)) = _
      unfold unq
      rw [if_pos rfl, if_pos rfl, ih, hb]; rfl
    · have e : dbl (b :: t) = b :: dbl t := by rw [dbl_cons, if_neg hb]
      rw [e]
      show unq (b :: (dbl t ++ 39 :: r)) = _
      cases hd : dbl t ++ 39 :: r with
      | nil => simp at hd
      | cons c m =>
        unfold unq
        rw [if_neg hb, ← hd, ih]; rfl
theorem unq_none_drop : ∀ (l : Tx), unq l = none → True := fun _ _ => trivial

/-! ### words -/
inductive Tk where
  | bad (code on : Nat)
  | good (kind : Nat) (text : Tx) (size : Nat)
def lettersT (r : Tx) : Tk :=
  if kwOf (r.take (runB goB r)) ≠ [] then .good 2 (kwOf (r.take (runB goB r))) (runB goB r)
  else if 32 < runB goB r then .bad 45 0 else .good 1 (r.take (runB goB r)) (runB goB r)
def digitsT (r : Tx) : Tk :=
  if 1 < runB isDig r ∧ r.head? = some 48 then .bad 40 0
  else if 19 < runB isDig r then .bad 45 0
  else if firstB (r.drop (runB isDig r)) = 2 then .bad 40 (runB isDig r) else .good 3 (r.take (runB isDig r)) (runB isDig r)
def quotedT (r : Tx) : Tk :=
  match unq (r.drop 1) with
  | none => .bad 40 0
  | some x => if 64 < x.1.length then .bad 45 0 else .good 4 x.1 (x.2 + 1)
def twoB (r : Tx) : Bool := r.take 2 == [60, 62] || r.take 2 == [60, 61] || r.take 2 == [62, 61]
def signT (r : Tx) : Tk := if twoB r then .good 5 (r.take 2) 2 else .good 5 (r.take 1) 1
def wordT (r : Tx) : Tk :=
  if firstB r = 2 then lettersT r else if firstB r = 3 then digitsT r else if firstB r = 4 then quotedT r else if firstB r = 5 then signT r else .bad 40 0

structure Wd where
  kind : Nat
  text : Tx
  pos : Nat
  deriving DecidableEq, Inhabited
/-- Words, code and place of a fault. -/
abbrev Res := List Wd × Nat × Nat
def cons1 (w : Wd) (x : Res) : Res := if x.2.1 = 0 then (w :: x.1, 0, 0) else ([], x.2)
def goW : Nat → Tx → Nat → Res
  | 0, _, _ => ([], 0, 0)
  | f + 1, r, p =>
    if r.drop (runB isBla r) = [] then ([⟨6, [], p + runB isBla r⟩], 0, 0)
    else match wordT (r.drop (runB isBla r)) with
      | .bad c on => ([], c, p + runB isBla r + on)
      | .good k t s => cons1 ⟨k, t, p + runB isBla r⟩ (goW f ((r.drop (runB isBla r)).drop s) (p + runB isBla r + s))
def wordsB (l : Tx) : Res := if 4096 < l.length then ([], 45, 0) else goW (l.length + 1) l 0

/-! ### what a word is -/
def signs : List Tx := [[40], [41], [44], [42], [61], [45], [60, 62], [60, 61], [60], [62, 61], [62]]
def Valid (k : Nat) (t : Tx) : Prop :=
  (k = 1 ∧ firstB t = 2 ∧ (∀ b ∈ t, goB b = true) ∧ kwOf t = [] ∧ t.length ≤ 32) ∨
  (k = 2 ∧ t ∈ kws) ∨
  (k = 3 ∧ t ≠ [] ∧ (∀ b ∈ t, isDig b = true) ∧ ¬ (1 < t.length ∧ t.head? = some 48) ∧ t.length ≤ 19) ∨
  (k = 4 ∧ t.length ≤ 64) ∨
  (k = 5 ∧ t ∈ signs)
/-- What stands behind does not belong to the word. -/
def Stops (k : Nat) (t y : Tx) : Prop :=
  ∀ b, y.head? = some b → (k = 1 ∨ k = 2 ∨ k = 3 → goB b = false) ∧ (k = 4 → b ≠ 39) ∧ (k = 5 → t = [60] → b ≠ 62 ∧ b ≠ 61) ∧ (k = 5 → t = [62] → b ≠ 61)
/-- x stands for the word (k, t). -/
def Stands (k : Nat) (t x : Tx) : Prop := (k ≠ 2 → x = if k = 4 then quoteB t else t) ∧ (k = 2 → x.map capB = t)

theorem cap_go : ∀ b : UInt8, isLet (capB b) = true → capB b ≠ 95 → isLet b = true ∧ goB b = true :=
  all_bytes (p := fun b => isLet (capB b) = true → capB b ≠ 95 → isLet b = true ∧ goB b = true) (by decide +kernel)
theorem kws_let : ∀ k ∈ kws, ∀ b ∈ k, isLet b = true ∧ b ≠ 95 := by decide +kernel
theorem kws_cap : ∀ k ∈ kws, k.map capB = k := by decide +kernel
theorem kws_len : ∀ k ∈ kws, 1 ≤ k.length ∧ k.length ≤ 8 := by decide +kernel
theorem kw_letters {x t : Tx} (ht : t ∈ kws) (hx : x.map capB = t) : ∀ b ∈ x, isLet b = true ∧ goB b = true := by
  intro b hb
  have : capB b ∈ t := by rw [← hx]; exact List.mem_map_of_mem hb
  obtain ⟨h1, h2⟩ := kws_let t ht _ this
  exact cap_go b h1 h2
theorem firstB_app {x y : Tx} (hx : x ≠ []) : firstB (x ++ y) = firstB x := by
  cases x with
  | nil => exact absurd rfl hx
  | cons b x => rfl
theorem take_app (x y : Tx) : (x ++ y).take x.length = x := by simp
theorem drop_app (x y : Tx) : (x ++ y).drop x.length = y := by simp

/-- Forward: what stands for a word, ahead of what stops it, is taken as it. -/
theorem word_of {k : Nat} {t x y : Tx} (hv : Valid k t) (hx : Stands k t x) (hy : Stops k t y) : wordT (x ++ y) = .good k t x.length := by
  rcases hv with ⟨rfl, h1, h2, h3, h4⟩ | ⟨rfl, h1⟩ | ⟨rfl, h1, h2, h3, h4⟩ | ⟨rfl, h1⟩ | ⟨rfl, h1⟩
  · obtain rfl : x = t := by simpa using hx.1 (by decide)
    have hne : x ≠ [] := by rintro rfl; simp [firstB] at h1
    have hr : runB goB (x ++ y) = x.length := runB_app _ _ _ h2 fun b hb => (hy b hb).1 (by simp)
    unfold wordT lettersT
    rw [firstB_app hne, if_pos h1, hr, take_app, if_neg (by rw [h3]; simp), if_neg (by omega)]
  · have hm := hx.2 rfl
    have hl := kw_letters h1 hm
    have hne : x ≠ [] := by rintro rfl; simp at hm; exact kws_ne h1 hm
    have hf : firstB x = 2 := by
      cases x with
      | nil => exact absurd rfl hne
      | cons b x => exact (kind_let b).2 (hl b (by simp)).1
    have hr : runB goB (x ++ y) = x.length := runB_app _ _ _ (fun b hb => (hl b hb).2) fun b hb => (hy b hb).1 (by simp)
    have hk : kwOf x = t := by unfold kwOf; rw [hm, if_pos h1]
    unfold wordT lettersT
    rw [firstB_app hne, if_pos hf, hr, take_app, hk, if_pos (kws_ne h1)]
  · obtain rfl : x = t := by simpa using hx.1 (by decide)
    have hf : firstB x = 3 := by
      cases x with
      | nil => exact absurd rfl h1
      | cons b x => exact (kind_dig b).2 (h2 b (by simp))
    have hr : runB isDig (x ++ y) = x.length := runB_app _ _ _ h2 fun b hb => by
      have := (hy b hb).1 (by simp)
      unfold goB at this
      simp at this; exact this.2
    have hh : (x ++ y).head? = x.head? := by
      cases x with
      | nil => exact absurd rfl h1
      | cons b x => rfl
    have hd : firstB y ≠ 2 := by
      cases y with
      | nil => simp [firstB]
      | cons b y =>
        intro e
        have := (hy b rfl).1 (by simp)
        rw [(kind_go b).1 (.inl e)] at this; cases this
    unfold wordT digitsT
    rw [firstB_app h1, if_neg (by omega), if_pos hf, hr, hh, take_app, drop_app, if_neg h3, if_neg (by omega), if_neg hd]
  · obtain rfl : x = quoteB t := by simpa using hx.1 (by decide)
    have hu : unq (dbl t ++ 39 :: y) = some (t, (dbl t).length + 1) := unq_dbl t y fun e => (hy 39 e).2.1 rfl rfl
    have e : quoteB t ++ y = 39 :: (dbl t ++ 39 :: y) := by simp [quoteB]
    unfold wordT quotedT
    rw [e]
    have hf : firstB (39 :: (dbl t ++ 39 :: y)) = 4 := by show kindB 39 = 4; decide
    rw [if_neg (by omega), if_neg (by omega), if_pos hf]
    simp only [List.drop_succ_cons, List.drop_zero, hu]
    rw [if_neg (by omega)]
    simp [quoteB]
  · obtain rfl : x = t := by simpa using hx.1 (by decide)
    have h60 := (fun b hb => (hy b hb).2.2.1 rfl : ∀ b, y.head? = some b → x = [60] → b ≠ 62 ∧ b ≠ 61)
    have h62 := (fun b hb => (hy b hb).2.2.2 rfl : ∀ b, y.head? = some b → x = [62] → b ≠ 61)
    clear hy hx
    simp only [signs, List.mem_cons, List.not_mem_nil, or_false] at h1
    rcases h1 with rfl | rfl | rfl | rfl | rfl | rfl | rfl | rfl | rfl | rfl | rfl
    all_goals (first
      | (cases y with
         | nil => rfl
         | cons b y => simp at h60 h62; simp [wordT, signT, twoB, firstB, kindB, isBla, isLet, isDig, isSig, h60, h62])
      | rfl)
end Go.Proofs.YtkcnbmgaeompjaaGreatDoor
