/- What is shown is read again, plain. -/
import Derived.Test.YtkcnbmgaeompjaaGreatDoorGF
import Derived.Lib.ParseIntBTie
import Derived.Lib.ParseIntBCases
import Derived.Lib.ItoaMem
namespace Go.Proofs.YtkcnbmgaeompjaaGreatDoor
set_option linter.unusedVariables false

/-! ### numbers -/
theorem digs_eq (n : Nat) : digs n = if n < 10 then [UInt8.ofNat (48 + n)] else digs (n / 10) ++ [UInt8.ofNat (48 + n % 10)] := by
  unfold digs; rw [Lib.decDigits]; split <;> rfl
theorem digs_dig : ∀ (n : Nat), ∀ b ∈ digs n, isDig b = true := by
  intro n
  induction n using Nat.strongRecOn with
  | ind n ih =>
    intro b hb
    have hd : ∀ k, k < 10 → isDig (UInt8.ofNat (48 + k)) = true := by decide
    rw [digs_eq] at hb
    split at hb
    · rename_i h10
      obtain rfl := List.mem_singleton.1 hb
      exact hd n h10
    · rcases List.mem_append.1 hb with hb | hb
      · exact ih (n / 10) (by omega) b hb
      · obtain rfl := List.mem_singleton.1 hb
        exact hd _ (by omega)
theorem digs_ne (n : Nat) : digs n ≠ [] := by
  rw [digs_eq]; split <;> simp
theorem digs_len (n : Nat) : (digs n).length = Lib.nDigits n := Lib.decDigits_length n
theorem digs_len19 (n : Nat) (h : n ≤ 9223372036854775808) : (digs n).length ≤ 19 := by
  rw [digs_len]
  rcases Nat.lt_or_ge n 10 with h1 | h1
  · rw [Lib.nDigits_small h1]; omega
  · have : ∀ k n, n < 10 ^ (k + 1) → Lib.nDigits n ≤ k + 1 := by
      intro k
      induction k with
      | zero => intro n hn; rw [Lib.nDigits_small (by simpa using hn)]; omega
      | succ k ih =>
        intro n hn
        by_cases h10 : n < 10
        · rw [Lib.nDigits_small h10]; omega
        · rw [Lib.nDigits_big h10]
          have := ih (n / 10) (by rw [Nat.div_lt_iff_lt_mul (by omega)]; rw [Nat.pow_succ] at hn; exact hn)
          omega
    exact this 18 n (by omega)
theorem digs_head : ∀ n : Nat, ¬ (1 < (digs n).length ∧ (digs n).head? = some 48) := by
  intro n
  induction n using Nat.strongRecOn with
  | ind n ih =>
    rw [digs_eq]
    split
    · rintro ⟨h, _⟩; simp at h
    · rename_i h10
      have hne := digs_ne (n / 10)
      rintro ⟨_, h⟩
      rw [List.head?_append] at h
      by_cases hs : n / 10 < 10
      · have h3 : ∀ k, k < 10 → 1 ≤ k → UInt8.ofNat (48 + k) ≠ 48 := by decide
        have h4 : (digs (n / 10)).head? = some (UInt8.ofNat (48 + n / 10)) := by rw [digs_eq, if_pos hs]; rfl
        rw [h4] at h
        exact h3 (n / 10) hs (by omega) (Option.some.inj h)
      · apply ih (n / 10) (by omega)
        refine ⟨?_, ?_⟩
        · rw [digs_eq, if_neg hs, List.length_append]
          have := List.length_pos_iff.2 (digs_ne (n / 10 / 10))
          simp; omega
        · cases hc : digs (n / 10) with
          | nil => exact absurd hc hne
          | cons b l => rw [hc] at h; simpa using h
theorem digs_valid (n : Nat) (h : n ≤ 9223372036854775808) : Valid 3 (digs n) := .inr (.inr (.inl ⟨rfl, digs_ne n, digs_dig n, digs_head n, digs_len19 n h⟩))
theorem uint_digs : ∀ (n : Nat), n ≤ 9223372036854775808 → ∀ l, Lib.parseUint10 0 (digs n ++ l) = Lib.parseUint10 n l := by
  intro n
  induction n using Nat.strongRecOn with
  | ind n ih =>
    intro h l
    rw [digs_eq]
    split
    · rename_i h10
      have h3 : ∀ k, k < 10 → (UInt8.ofNat (48 + k)).toNat = 48 + k := by decide
      simp only [List.cons_append, List.nil_append, Lib.parseUint10]
      rw [h3 n h10, if_pos (by omega), if_neg (by omega), if_neg (by omega)]
      congr 1; omega
    · rename_i h10
      have h3 : ∀ k, k < 10 → (UInt8.ofNat (48 + k)).toNat = 48 + k := by decide
      rw [List.append_assoc, ih (n / 10) (by omega) (by omega)]
      simp only [List.cons_append, List.nil_append, Lib.parseUint10]
      rw [h3 (n % 10) (by omega), if_pos (by omega), if_neg (by omega), if_neg (by omega)]
      congr 1; omega
theorem uint_all (n : Nat) (h : n ≤ 9223372036854775808) : Lib.parseUintB 64 (digs n) = .ok n := by
  rw [Lib.parseUintB_64]
  unfold Lib.parseMag
  rw [if_neg (digs_ne n)]
  have := uint_digs n h []
  rw [List.append_nil] at this
  rw [this]; rfl
theorem numW_neg (n : Nat) (h : n ≤ 9223372036854775808) : numW ([45] ++ digs n) = some (-(n : Int)) := by
  unfold numW
  rw [List.cons_append, List.nil_append, Lib.parseIntB_minus, uint_all n h]
  have : ¬ 9223372036854775808 < n := by omega
  simp [Lib.signedC, this]
theorem numW_pos (n : Nat) (h : n ≤ 9223372036854775807) : numW ([] ++ digs n) = some (n : Int) := by
  unfold numW
  have hd := digs_dig n
  have hu := uint_all n (by omega)
  rw [List.nil_append]
  cases hc : digs n with
  | nil => exact absurd hc (digs_ne n)
  | cons b l =>
    rw [hc] at hd hu
    have hb := hd b (by simp)
    have hbb : ∀ b : UInt8, isDig b = true → b.toNat ≠ 43 ∧ b.toNat ≠ 45 := all_bytes (p := fun b => isDig b = true → b.toNat ≠ 43 ∧ b.toNat ≠ 45) (by decide +kernel)
    rw [Lib.parseIntB_plain 64 b l (hbb b hb).1 (hbb b hb).2, hu]
    have : ¬ 9223372036854775808 ≤ n := by omega
    simp [Lib.signlessC, this]

/-! ### words and what they are of -/
def kt (x : Wd) : Nat × Tx := (x.kind, x.text)
def Is (r : List Wd) (l : List Pc) : Prop := r.map kt = l.map fun c => (c.kind, c.text)
theorem Is.cons {r : List Wd} {c : Pc} {l : List Pc} (h : Is r (c :: l)) : ∃ p r', r = ⟨c.kind, c.text, p⟩ :: r' ∧ Is r' l := by
  cases r with
  | nil => cases h
  | cons x r =>
    obtain ⟨k, t, p⟩ := x
    have h1 := List.cons.inj h
    obtain ⟨h2, h3⟩ := Prod.mk.inj h1.1
    obtain rfl : k = c.kind := h2
    obtain rfl : t = c.text := h3
    exact ⟨p, r, rfl, h1.2⟩
theorem Is.nil {r : List Wd} (h : Is r []) : r = [] := List.map_eq_nil_iff.1 h
theorem Is.app {r : List Wd} {a b : List Pc} (h : Is r (a ++ b)) : ∃ r1 r2, r = r1 ++ r2 ∧ Is r1 a ∧ Is r2 b := by
  unfold Is at h
  rw [List.map_append] at h
  obtain ⟨r1, r2, h1, h2, h3⟩ := List.map_eq_append_iff.1 h
  exact ⟨r1, r2, h1, h2, h3⟩
theorem Is.len {r : List Wd} {l : List Pc} (h : Is r l) : r.length = l.length := by
  have := congrArg List.length h
  simpa using this
theorem is_mkW : ∀ (p : Nat) (l : List Pc), Is (mkW p l) l
  | _, [] => rfl
  | p, c :: l => by
    have := is_mkW (p + c.gap.length + c.x.length) l
    unfold Is at *
    simp only [mkW, List.map_cons, this]; rfl

theorem name_is {g t : Tx} {r z : List Wd} {b : Bool} (h : Is r (nameP g t)) : nameW (r ++ z) b = .ok t z b := by
  obtain ⟨p, r', rfl, q1⟩ := h.cons
  obtain rfl := q1.nil
  rfl
set_option maxRecDepth 2000 in
theorem val_is {g : Tx} {v : Vl} {r z : List Wd} {b : Bool} (hv : rightV v = true) (hf : v.Fits) (h : Is r (valP g v)) : valW (r ++ z) b = .ok v z b := by
  obtain ⟨it, t, n⟩ := v
  unfold valP at h
  unfold rightV at hv
  cases it with
  | true =>
    simp only [if_true] at h hv
    obtain ⟨p, r', rfl, q1⟩ := h.cons
    obtain rfl := q1.nil
    simp only [Bool.and_eq_true, beq_iff_eq] at hv
    obtain rfl : n = 0 := hv.2
    rfl
  | false =>
    simp only [Bool.false_eq_true, if_false] at h hv
    obtain rfl : t = [] := by simpa using hv
    obtain ⟨f1, f2⟩ := hf
    simp only at f1 f2
    split at h
    · rename_i hn
      obtain ⟨p, r', rfl, q2⟩ := h.cons
      obtain ⟨p', r'', rfl, q3⟩ := q2.cons
      obtain rfl := q3.nil
      have e := numW_neg n.natAbs (by omega)
      have e2 : (-(n.natAbs : Int)) = n := by omega
      rw [e2] at e
      show (match numW ([45] ++ digs n.natAbs) with | some n => PR.ok (Vl.mk false [] n) z b | none => .bad 45 p') = _
      rw [e]
    · rename_i hn
      obtain ⟨p, r', rfl, q4⟩ := h.cons
      obtain rfl := q4.nil
      have e := numW_pos n.natAbs (by omega)
      have e2 : ((n.natAbs : Int)) = n := by omega
      rw [e2] at e
      show (match numW ([] ++ digs n.natAbs) with | some n => PR.ok (Vl.mk false [] n) z b | none => .bad 45 p) = _
      rw [e]
section
variable {α : Type} {one : Pa α} {oneP : Tx → α → List Pc}
theorem more_is : ∀ {l : List α}, (∀ a ∈ l, ∀ g r z b, Is r (oneP g a) → one (r ++ z) b = .ok a z b) → ∀ (pre : List α) (r z : List Wd) (b : Bool) (f : Nat), Is r (restP oneP l) → seesW (saysW [44]) z = false → l.length < f → moreW one f pre (r ++ z) b = .ok (pre ++ l) z b
  | [], _, pre, r, z, b, 0, _, _, hf => absurd hf (by simp)
  | [], _, pre, r, z, b, f + 1, h, hz, _ => by
    obtain rfl := h.nil
    unfold moreW
    rw [List.nil_append, hz, List.append_nil]; rfl
  | a :: l, h1, pre, r, z, b, 0, _, _, hf => absurd hf (by simp)
  | a :: l, h1, pre, r, z, b, f + 1, h, hz, hf => by
    obtain ⟨p, r', rfl, q1⟩ := Is.cons h
    obtain ⟨r1, r2, rfl, h2, h3⟩ := q1.app
    unfold moreW
    have e : seesW (saysW [44]) (⟨5, [44], p⟩ :: (r1 ++ r2) ++ z) = true := rfl
    have ih := more_is (l := l) (fun x hx => h1 x (by simp [hx])) (pre ++ [a]) r2 z b f h3 hz (by simp at hf; omega)
    show (if seesW (saysW [44]) (⟨5, [44], p⟩ :: (r1 ++ r2) ++ z) = true then _ else _) = _
    rw [if_pos e]
    show (one (r1 ++ r2 ++ z) b).then _ = _
    rw [List.append_assoc, h1 a (by simp) [32] r1 (r2 ++ z) b h2]
    show moreW one f (pre ++ [a]) (r2 ++ z) b = _
    rw [ih, List.append_assoc]; rfl
theorem restP_len : ∀ l : List α, l.length ≤ (restP oneP l).length
  | [] => Nat.le_refl _
  | a :: l => by
    have := restP_len l
    simp only [restP, List.length_cons, List.length_append]; omega
theorem list_is {g : Tx} {l : List α} {most : Nat} {r z : List Wd} {b : Bool} (hne : l ≠ []) (hm : l.length ≤ most) (h1 : ∀ a ∈ l, ∀ g r z b, Is r (oneP g a) → one (r ++ z) b = .ok a z b) (h : Is r (sepP oneP g l)) (hz : seesW (saysW [44]) z = false) : listW most one (r ++ z) b = .ok l z b := by
  cases l with
  | nil => exact absurd rfl hne
  | cons a l =>
    obtain ⟨r1, r2, rfl, h2, h3⟩ := Is.app h
    unfold listW
    rw [List.append_assoc, h1 a (by simp) g r1 (r2 ++ z) b h2]
    have hl := restP_len (oneP := oneP) l
    have hl2 := h3.len
    have := more_is (fun x hx => h1 x (by simp [hx])) [a] r2 z b ((r2 ++ z).length + 1) h3 hz (by rw [List.length_append]; omega)
    simp only [PR.then, this, List.cons_append, List.nil_append]
    rw [decide_eq_false (by omega), Bool.or_false]
end
theorem rightL_iff {α : Type} {l : List α} {least most : Nat} {one : α → Bool} : rightL l least most one = true ↔ least ≤ l.length ∧ l.length ≤ most ∧ ∀ a ∈ l, one a = true := by
  unfold rightL
  simp only [Bool.and_eq_true, decide_eq_true_eq, List.all_eq_true, and_assoc]
theorem ne_of_len {α : Type} {l : List α} (h : 1 ≤ l.length) : l ≠ [] := by rintro rfl; simp at h

theorem item_is {g : Tx} {i : It} {r z : List Wd} {b : Bool} (hi : rightI i = true) (h : Is r (itemP g i)) : itemW (r ++ z) b = .ok i z b := by
  obtain ⟨k, t⟩ := i
  unfold rightI at hi
  unfold itemP at h
  simp only at hi h
  by_cases h1 : k = 1
  · subst h1
    rw [if_pos rfl] at h
    obtain ⟨p, r', rfl, q1⟩ := h.cons
    obtain rfl := q1.nil
    rfl
  · rw [if_neg h1] at h
    by_cases h2 : k = 2
    · subst h2
      rw [if_pos rfl] at h
      obtain ⟨p, r', rfl, q2⟩ := h.cons
      obtain ⟨p', r'', rfl, q3⟩ := q2.cons
      obtain ⟨p'', r3, rfl, q4⟩ := q3.cons
      obtain ⟨p3, r4, rfl, q5⟩ := q4.cons
      obtain rfl := q5.nil
      rw [if_pos rfl] at hi
      obtain rfl : t = [] := by simpa using hi
      rfl
    · rw [if_neg h2] at h hi
      simp only [Bool.and_eq_true, decide_eq_true_eq] at hi
      have hk : k = 3 ∨ k = 4 ∨ k = 5 ∨ k = 6 := by omega
      obtain ⟨p, r', rfl, q6⟩ := h.cons
      obtain ⟨p', r'', rfl, q7⟩ := q6.cons
      obtain ⟨p'', r3, rfl, q8⟩ := q7.cons
      obtain ⟨p3, r4, rfl, q9⟩ := q8.cons
      obtain rfl := q9.nil
      rcases hk with rfl | rfl | rfl | rfl <;> rfl
theorem names_is {l : List Tx} {r z : List Wd} {b : Bool} (h1 : 1 ≤ l.length) (h16 : l.length ≤ 16) (h : Is r (sepP nameP [] l ++ [sig [] 41])) : namesW (r ++ z) b = .ok l z b := by
  obtain ⟨r1, r2, rfl, h2, h3⟩ := h.app
  obtain ⟨p, r', rfl, q1⟩ := h3.cons
  obtain rfl := q1.nil
  unfold namesW
  rw [List.append_assoc, list_is (one := nameW) (oneP := nameP) (ne_of_len h1) h16 (fun a _ g r z b hh => name_is hh) h2 rfl]
  rfl
theorem lst_is {g : Tx} {l : List Tx} {r z : List Wd} {b : Bool} (h1 : 1 ≤ l.length) (h16 : l.length ≤ 16) (h : Is r (lstP g l)) : lstW (r ++ z) b = .ok l z b := by
  obtain ⟨p, r', rfl, q1⟩ := Is.cons h
  show namesW (r' ++ z) b = _
  exact names_is h1 h16 q1
theorem set_is {g : Tx} {l : List Tx} {r z : List Wd} {b : Bool} (h16 : l.length ≤ 16) (h : Is r (lstP g l)) : setW (r ++ z) b = .ok l z b := by
  obtain ⟨p, r', rfl, q1⟩ := Is.cons h
  cases l with
  | nil =>
    obtain ⟨p', r'', rfl, q2⟩ := Is.cons q1
    obtain rfl := Is.nil q2
    rfl
  | cons t l =>
    have hn := names_is (z := z) (b := b) (by simp) h16 q1
    obtain ⟨p', r'', rfl, q3⟩ := Is.cons q1
    exact hn
theorem grp_is {g : Tx} {e : Gp} {r z : List Wd} {b : Bool} (he : rightG e = true) (h : Is r (grpP g e)) : eltW (r ++ z) b = .ok e z b := by
  obtain ⟨k, cols, sets⟩ := e
  unfold rightG at he
  unfold grpP at h
  simp only at he h
  by_cases h1 : k = 1
  · subst h1
    rw [if_pos rfl] at h he
    simp only [Bool.and_eq_true, List.isEmpty_iff, rightL_iff] at he
    obtain ⟨rfl, h2, h3, _⟩ := he
    obtain ⟨c, rfl⟩ := List.length_eq_one_iff.1 (show cols.length = 1 by omega)
    obtain ⟨p, r', rfl, q1⟩ := h.cons
    obtain rfl := q1.nil
    rfl
  · rw [if_neg h1] at h he
    by_cases h2 : k = 2
    · subst h2
      rw [if_pos rfl] at h
      rw [if_pos (.inl rfl)] at he
      simp only [Bool.and_eq_true, List.isEmpty_iff, rightL_iff] at he
      obtain ⟨rfl, h3, h4, _⟩ := he
      obtain ⟨p, r', rfl, q2⟩ := h.cons
      show (lstW (r' ++ z) b).map _ = _
      rw [lst_is h3 h4 q2]; rfl
    · rw [if_neg h2] at h
      by_cases h3 : k = 3
      · subst h3
        rw [if_pos rfl] at h
        rw [if_pos (.inr rfl)] at he
        simp only [Bool.and_eq_true, List.isEmpty_iff, rightL_iff] at he
        obtain ⟨rfl, h3, h4, _⟩ := he
        obtain ⟨p, r', rfl, q3⟩ := h.cons
        show (lstW (r' ++ z) b).map _ = _
        rw [lst_is h3 h4 q3]; rfl
      · rw [if_neg h3] at h
        rw [if_neg (by omega)] at he
        split at he
        · rename_i h4
          subst h4
          simp only [Bool.and_eq_true, List.isEmpty_iff, rightL_iff] at he
          obtain ⟨rfl, h3, h4, h5⟩ := he
          obtain ⟨p, r', rfl, q4⟩ := h.cons
          obtain ⟨p', r'', rfl, q5⟩ := q4.cons
          obtain ⟨p'', r3, rfl, q6⟩ := Is.cons q5
          obtain ⟨r1, r2, rfl, i2, i3⟩ := q6.app
          obtain ⟨p3, r4, rfl, q7⟩ := i3.cons
          obtain rfl := q7.nil
          show ((listW 64 setW (r1 ++ [_] ++ z) b).then fun ss r2 b2 => (allW [[41]] r2 b2).map fun _ => (⟨4, [], ss⟩ : Gp)) = _
          rw [List.append_assoc, list_is (one := setW) (oneP := lstP) (ne_of_len h3) h4 (fun a ha g r z b hh => set_is (h5 a ha).2.1 hh) i2 rfl]
          rfl
        · cases he

/-! ### conditions -/
/-- What is left says nothing of these. -/
def Quiet (z : List Wd) : Prop := seesW (saysW [65, 78, 68]) z = false ∧ seesW (saysW [79, 82]) z = false ∧ seesW (saysW [44]) z = false
theorem test_is {k : Int} {col : Tx} {op : Int} {vals : List Vl} {g : Tx} {r z : List Wd} {b : Bool} (ht : testR k col op vals = true) (hf : ∀ v ∈ vals, v.Fits) (h : Is r (testP k col op vals g)) : testW (r ++ z) b = .ok (.node k .none .none col op vals) z b := by
  unfold testR at ht
  unfold testP at h
  by_cases h4 : k = 4
  · subst h4
    rw [if_pos rfl] at ht
    rw [if_neg (by omega)] at h
    simp only [Bool.and_eq_true, decide_eq_true_eq, rightL_iff] at ht
    obtain ⟨⟨⟨h1, h2⟩, h3⟩, h4, h5, h6⟩ := ht
    obtain ⟨v, rfl⟩ := List.length_eq_one_iff.1 (show vals.length = 1 by omega)
    obtain ⟨p, r', rfl, q1⟩ := h.cons
    obtain ⟨p', r'', rfl, q2⟩ := q1.cons
    have hv := val_is (z := z) (b := b) (h6 v (by simp)) (hf v (by simp)) q2
    have hop : op = 1 ∨ op = 2 ∨ op = 3 ∨ op = 4 ∨ op = 5 ∨ op = 6 := by omega
    rcases hop with rfl | rfl | rfl | rfl | rfl | rfl
    all_goals
      show (valW (r'' ++ z) b).map _ = _
      rw [hv]; rfl
  · rw [if_neg h4] at ht
    split at ht
    · rename_i h5
      subst h5
      rw [if_pos rfl] at h
      simp only [Bool.and_eq_true, beq_iff_eq, rightL_iff] at ht
      obtain ⟨⟨h1, rfl⟩, h3, h4, h6⟩ := ht
      obtain ⟨p, r', rfl, q3⟩ := h.cons
      obtain ⟨p', r'', rfl, q4⟩ := q3.cons
      obtain ⟨p'', r3, rfl, q5⟩ := Is.cons q4
      obtain ⟨r1, r2, rfl, i2, i3⟩ := q5.app
      obtain ⟨p3, r4, rfl, q6⟩ := i3.cons
      obtain rfl := q6.nil
      show ((listW 64 valW (r1 ++ [_] ++ z) b).then fun vs r3 b3 => (allW [[41]] r3 b3).map fun _ => (Cd.node 5 .none .none col 0 vs)) = _
      rw [List.append_assoc, list_is (one := valW) (oneP := valP) (ne_of_len h3) h4 (fun a ha g r z b hh => val_is (h6 a ha) (hf a ha) hh) i2 rfl]
      rfl
    · cases ht
/-- A condition that may be, of whatever size and depth. -/
def Cd.Right : Cd → Prop
  | .none => False
  | .node k l r col op vals =>
    ((k = 1 ∨ k = 2) ∧ col = [] ∧ op = 0 ∧ vals = [] ∧ l.Right ∧ r.Right) ∨ (k = 3 ∧ col = [] ∧ op = 0 ∧ vals = [] ∧ l.Right ∧ r = .none) ∨ (l = .none ∧ r = .none ∧ testR k col op vals = true)
theorem rightC_right : ∀ (c : Cd) (deep n m : Nat), rightC c deep n = some m → c.Right ∧ depthW c ≤ deep ∧ 1 ≤ depthW c
  | .none, _, _, _, h => by cases h
  | .node k l r col op vals, deep, n, m, h => by
    unfold rightC at h
    split at h
    · cases h
    · rename_i hd
      split at h
      · rename_i hk
        split at h
        · rename_i hb
          obtain ⟨m1, h1, h2⟩ := Option.bind_eq_some_iff.1 h
          obtain ⟨i1, i2, _⟩ := rightC_right l _ _ _ h1
          obtain ⟨j1, j2, _⟩ := rightC_right r _ _ _ h2
          unfold bareC at hb
          simp only [Bool.and_eq_true, List.isEmpty_iff, beq_iff_eq] at hb
          exact ⟨.inl ⟨hk, hb.1.1, hb.1.2, hb.2, i1, j1⟩, by simp only [depthW]; omega, by simp only [depthW]; omega⟩
        · cases h
      · split at h
        · rename_i hk
          split at h
          · rename_i hb
            obtain ⟨hb, rfl⟩ := hb
            obtain ⟨i1, i2, _⟩ := rightC_right l _ _ _ h
            unfold bareC at hb
            simp only [Bool.and_eq_true, List.isEmpty_iff, beq_iff_eq] at hb
            exact ⟨.inr (.inl ⟨hk, hb.1.1, hb.1.2, hb.2, i1, rfl⟩), by simp only [depthW]; omega, by simp only [depthW]; omega⟩
          · cases h
        · split at h
          · rename_i hh
            obtain ⟨rfl, rfl, ht⟩ := hh
            exact ⟨.inr (.inr ⟨rfl, rfl, ht⟩), by simp only [depthW]; omega, by simp only [depthW]; omega⟩
          · cases h
theorem testR_kind {k : Int} {col : Tx} {op : Int} {vals : List Vl} (h : testR k col op vals = true) : k = 4 ∨ k = 5 := by
  unfold testR at h
  split at h
  · exact .inl (by assumption)
  · split at h
    · exact .inr (by assumption)
    · cases h
theorem linkW_end {k : Int} {kw : Tx} {one : Pa Cd} {f : Nat} {c : Cd} {z : List Wd} {b : Bool} (hf : 1 ≤ f) (hz : seesW (saysW kw) z = false) : linkW k kw one f c z b = .ok c z b := by
  cases f with
  | zero => omega
  | succ f => unfold linkW; rw [hz]; rfl
theorem linkW_step {k : Int} {kw : Tx} {one : Pa Cd} {f : Nat} {c d : Cd} {r z : List Wd} {b : Bool} (p : Nat) (hkw : kw ∈ kws) (h : one (r ++ z) b = .ok d z b) : linkW k kw one (f + 1) c (⟨2, kw, p⟩ :: (r ++ z)) b = linkW k kw one f (.node k c d [] 0 []) z b := by
  conv => lhs; unfold linkW
  have e : seesW (saysW kw) (⟨2, kw, p⟩ :: (r ++ z)) = true := by simp [seesW, saysW, fixW]
  rw [if_pos e]
  show (one (r ++ z) b).then _ = _
  rw [h]; rfl
theorem nodeP_pos {c : Cd} (h : c.Right) (g : Tx) : 0 < (nodeP c g).length := by
  cases c with
  | none => exact h.elim
  | node k l r col op vals =>
    unfold nodeP
    split
    · rw [List.length_append, List.length_cons]; omega
    · split
      · rw [List.length_append, List.length_cons]; omega
      · split
        · simp
        · unfold testP; split <;> simp
theorem brP_pos {c : Cd} (h : c.Right) (k : Int) (least : Nat) (g : Tx) : 0 < (brP k least (nodeP c) g).length := by
  unfold brP
  split
  · exact nodeP_pos h g
  · simp [brk]
/-- Where a condition stands as one that holds together as a NOT does, in brackets if it must be. -/
def NotIs (c : Cd) : Prop := ∀ (f : Nat) (g : Tx) (r z : List Wd) (b : Bool), r.length ≤ f → Is r (brP c.kind 2 (nodeP c) g) → notW f (r ++ z) b = .ok c z b
def AndIs (c : Cd) : Prop := ∀ (f : Nat) (g : Tx) (r z : List Wd) (b : Bool), r.length ≤ f → Is r (brP c.kind 1 (nodeP c) g) → ∃ F, z.length < F ∧ andW (notW f) (r ++ z) b = linkW 1 [65, 78, 68] (notW f) F c z b
def OrIs (c : Cd) : Prop := ∀ (f : Nat) (g : Tx) (r z : List Wd) (b : Bool), r.length ≤ f → seesW (saysW [65, 78, 68]) z = false → Is r (brP c.kind 0 (nodeP c) g) → ∃ F, z.length < F ∧ orW (notW f) (r ++ z) b = linkW 2 [79, 82] (andW (notW f)) F c z b
theorem AndIs.done {c : Cd} (h : AndIs c) {f : Nat} {g : Tx} {r z : List Wd} {b : Bool} (hf : r.length ≤ f) (hr : Is r (brP c.kind 1 (nodeP c) g)) (hz : seesW (saysW [65, 78, 68]) z = false) : andW (notW f) (r ++ z) b = .ok c z b := by
  obtain ⟨F, h1, h2⟩ := h f g r z b hf hr
  rw [h2, linkW_end (by omega) hz]
theorem OrIs.done {c : Cd} (h : OrIs c) {f : Nat} {g : Tx} {r z : List Wd} {b : Bool} (hf : r.length ≤ f) (hr : Is r (brP c.kind 0 (nodeP c) g)) (hz : Quiet z) : orW (notW f) (r ++ z) b = .ok c z b := by
  obtain ⟨F, h1, h2⟩ := h f g r z b hf hz.1 hr
  rw [h2, linkW_end (by omega) hz.2.1]
theorem chain_one {k : Int} {kw : Tx} {one : Pa Cd} {c : Cd} {r z : List Wd} {b : Bool} (h : one (r ++ z) b = .ok c z b) : chainW k kw one (r ++ z) b = linkW k kw one (z.length + 1) c z b := by
  unfold chainW; rw [h]; rfl
/-- From NOT's place to AND's, where the words are the same. -/
theorem AndIs.of_not {c : Cd} (h : NotIs c) (hk : strK c.kind ≠ 1) : AndIs c := by
  intro f g r z b hf hr
  refine ⟨z.length + 1, by omega, chain_one (h f g r z b hf ?_)⟩
  unfold brP at hr ⊢
  by_cases h2 : 2 ≤ strK c.kind
  · rwa [if_pos h2, ← if_pos (c := 1 ≤ strK c.kind) (t := nodeP c g) (e := brk g (nodeP c [])) (by omega)]
  · rwa [if_neg h2, ← if_neg (c := 1 ≤ strK c.kind) (t := nodeP c g) (e := brk g (nodeP c [])) (by omega)]
theorem OrIs.of_and {c : Cd} (h : AndIs c) (hk : strK c.kind ≠ 0) : OrIs c := by
  intro f g r z b hf hz hr
  refine ⟨z.length + 1, by omega, chain_one (h.done hf (g := g) ?_ hz)⟩
  unfold brP at hr ⊢
  rwa [if_pos (by omega), ← if_pos (c := 0 ≤ strK c.kind) (t := nodeP c g) (e := brk g (nodeP c [])) (by omega)]
/-- In brackets. -/
theorem not_brk {c : Cd} (h : OrIs c) {f : Nat} {g : Tx} {r z : List Wd} {b : Bool} (hf : r.length ≤ f) (hr : Is r (brk g (nodeP c []))) : notW f (r ++ z) b = .ok c z b := by
  obtain ⟨p, r', rfl, q1⟩ := Is.cons hr
  obtain ⟨r1, r2, rfl, h2, h3⟩ := q1.app
  obtain ⟨p', r3, rfl, q2⟩ := h3.cons
  obtain rfl := q2.nil
  cases f with
  | zero => simp at hf
  | succ f =>
    have e : orW (notW f) (r1 ++ ([⟨5, [41], p'⟩] ++ z)) b = .ok c ([⟨5, [41], p'⟩] ++ z) b := h.done (g := []) (by simp at hf; omega) (by unfold brP; rwa [if_pos (Nat.zero_le _)]) ⟨rfl, rfl, rfl⟩
    show (orW (notW f) (r1 ++ [_] ++ z) b).then _ = _
    rw [List.append_assoc]
    erw [e]; rfl
theorem cond_is : ∀ (c : Cd), c.Right → c.Fits → NotIs c ∧ AndIs c ∧ OrIs c
  | .none, h, _ => h.elim
  | .node k l r col op vals, h, hf => by
    obtain ⟨f1, f2, f3⟩ := hf
    rcases h with ⟨hk, rfl, rfl, rfl, hl, hr⟩ | ⟨rfl, rfl, rfl, rfl, hl, rfl⟩ | ⟨rfl, rfl, ht⟩
    · obtain ⟨l1, l2, l3⟩ := cond_is l hl f1
      obtain ⟨r1, r2, r3⟩ := cond_is r hr f2
      rcases hk with rfl | rfl
      · -- AND
        have hA : AndIs (.node 1 l r [] 0 []) := by
          intro f g w z b hw hI
          have hI : Is w (brP l.kind 1 (nodeP l) g ++ sw [32] 2 [65, 78, 68] :: brP r.kind 2 (nodeP r) [32]) := hI
          obtain ⟨w1, w2, rfl, i1, i2⟩ := hI.app
          obtain ⟨p, w3, rfl, i3⟩ := i2.cons
          simp only [List.length_append, List.length_cons] at hw
          obtain ⟨F, g1, g2⟩ := l2 f g w1 (⟨2, [65, 78, 68], p⟩ :: (w3 ++ z)) b (by omega) i1
          simp only [List.length_cons, List.length_append] at g1
          refine ⟨F - 1, by omega, ?_⟩
          have e : w1 ++ Wd.mk (sw [32] 2 [65, 78, 68]).kind (sw [32] 2 [65, 78, 68]).text p :: w3 ++ z = w1 ++ ⟨2, [65, 78, 68], p⟩ :: (w3 ++ z) := by simp [sw]
          rw [e, g2, show F = F - 1 + 1 by omega, linkW_step p (by decide) (r1 f [32] w3 z b (by omega) i3), Nat.add_sub_cancel]
        have hO : OrIs (.node 1 l r [] 0 []) := OrIs.of_and hA (by simp [strK, Cd.kind])
        exact ⟨fun f g w z b hw hI => not_brk hO hw hI, hA, hO⟩
      · -- OR
        have hO : OrIs (.node 2 l r [] 0 []) := by
          intro f g w z b hw hz hI
          have hI : Is w (brP l.kind 0 (nodeP l) g ++ sw [32] 2 [79, 82] :: brP r.kind 1 (nodeP r) [32]) := hI
          obtain ⟨w1, w2, rfl, i1, i2⟩ := hI.app
          obtain ⟨p, w3, rfl, i3⟩ := i2.cons
          simp only [List.length_append, List.length_cons] at hw
          obtain ⟨F, g1, g2⟩ := l3 f g w1 (⟨2, [79, 82], p⟩ :: (w3 ++ z)) b (by omega) rfl i1
          simp only [List.length_cons, List.length_append] at g1
          refine ⟨F - 1, by omega, ?_⟩
          have e : w1 ++ Wd.mk (sw [32] 2 [79, 82]).kind (sw [32] 2 [79, 82]).text p :: w3 ++ z = w1 ++ ⟨2, [79, 82], p⟩ :: (w3 ++ z) := by simp [sw]
          rw [e, g2, show F = F - 1 + 1 by omega, linkW_step p (by decide) (r2.done (by omega) i3 hz), Nat.add_sub_cancel]
        have hN : NotIs (.node 2 l r [] 0 []) := fun f g w z b hw hI => not_brk hO hw hI
        exact ⟨hN, AndIs.of_not hN (by simp [strK, Cd.kind]), hO⟩
    · obtain ⟨l1, l2, l3⟩ := cond_is l hl f1
      have hN : NotIs (.node 3 l .none [] 0 []) := by
        intro f g w z b hw hI
        have hI : Is w (sw g 2 [78, 79, 84] :: brP l.kind 2 (nodeP l) [32]) := hI
        obtain ⟨p, w2, rfl, i2⟩ := hI.cons
        cases f with
        | zero => simp at hw
        | succ f =>
          have := l1 f [32] w2 z b (by simp at hw; omega) i2
          show (notW f (w2 ++ z) b).map _ = _
          rw [this]; rfl
      have hA := AndIs.of_not hN (by simp [strK, Cd.kind])
      exact ⟨hN, hA, OrIs.of_and hA (by simp [strK, Cd.kind])⟩
    · have hs : strK k = 3 := by
        unfold strK
        rcases testR_kind ht with rfl | rfl <;> rfl
      have hnp : ∀ g, nodeP (.node k .none .none col op vals) g = testP k col op vals g := by
        intro g
        unfold nodeP
        rcases testR_kind ht with rfl | rfl <;> rfl
      have hN : NotIs (.node k .none .none col op vals) := by
        intro f g w z b hw hI
        have hI : Is w (testP k col op vals g) := by
          unfold brP at hI
          rwa [if_pos (by show 2 ≤ strK k; omega), hnp] at hI
        have := test_is (z := z) (b := b) ht f3 hI
        cases f with
        | zero =>
          have h0 := hI.len
          unfold testP at h0
          split at h0 <;> (simp at h0; omega)
        | succ f =>
          have hnn : seesW (saysW [78, 79, 84]) (w ++ z) = false ∧ seesW (saysW [40]) (w ++ z) = false := by
            unfold testP at hI
            split at hI
            · obtain ⟨p, w2, rfl, i2⟩ := hI.cons; exact ⟨rfl, rfl⟩
            · obtain ⟨p, w2, rfl, i2⟩ := hI.cons; exact ⟨rfl, rfl⟩
          unfold notW
          rw [if_neg (by rw [hnn.1]; decide), if_neg (by rw [hnn.2]; decide)]
          exact this
      have hA := AndIs.of_not hN (by show strK k ≠ 1; omega)
      exact ⟨hN, hA, OrIs.of_and hA (by show strK k ≠ 0; omega)⟩
end Go.Proofs.YtkcnbmgaeompjaaGreatDoor
