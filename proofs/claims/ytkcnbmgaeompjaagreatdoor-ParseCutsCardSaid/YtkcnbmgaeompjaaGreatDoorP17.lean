/- What a beginning of a query's words is read as, plain. -/
import Derived.Test.YtkcnbmgaeompjaaGreatDoorP15
namespace Go.Proofs.YtkcnbmgaeompjaaGreatDoor
set_option linter.unusedVariables false

/-- Of a beginning of the words: a fault at its end, or something smaller up to its end, or the same. -/
def Cutp {α : Type} (N : Nat) (R : α → α → Prop) (p p' : Pa α) : Prop :=
  ∀ (u v : List Wd) (e : Wd) (b : Bool) (x : α) (r2 : List Wd), u.length ≤ N → e.kind = 6 → p (u ++ v) b = .ok x r2 false →
    b = false ∧ (p' (u ++ [e]) false = .bad 41 e.pos ∨ (∃ x', p' (u ++ [e]) false = .ok x' [e] false ∧ R x' x) ∨
      ∃ u2, u2.length ≤ u.length ∧ r2 = u2 ++ v ∧ p' (u ++ [e]) false = .ok x (u2 ++ [e]) false)
/-- What it comes to where nothing is left but the end. -/
def AtEnd {α : Type} (p : Pa α) (e : Wd) (P : α → Prop) : Prop := p [e] false = .bad 41 e.pos ∨ ∃ x', p [e] false = .ok x' [e] false ∧ P x'
section
variable {α β : Type} {N : Nat}
theorem Cutp.mono {R S : α → α → Prop} {p p' : Pa α} (h : Cutp N R p p') (hs : ∀ x' x, R x' x → S x' x) : Cutp N S p p' := fun u v e b x r2 hu he hp => by
  obtain ⟨h1, h2⟩ := h u v e b x r2 hu he hp
  refine ⟨h1, h2.imp id (Or.imp ?_ id)⟩
  rintro ⟨x', h3, h4⟩
  exact ⟨x', h3, hs _ _ h4⟩
theorem Cutp.lower {M : Nat} {R : α → α → Prop} {p p' : Pa α} (h : Cutp N R p p') (hm : M ≤ N) : Cutp M R p p' := fun u v e b x r2 hu he hp => h u v e b x r2 (by omega) he hp
theorem Cutp.flag {R : α → α → Prop} {p p' : Pa α} (h : Cutp N R p p') {r r2 : List Wd} {b : Bool} {x : α} (hp : p r b = .ok x r2 false) : b = false :=
  (h [] r ⟨6, [], 0⟩ b x r2 (Nat.zero_le _) rfl hp).1
theorem Cutp.atEnd {R : α → α → Prop} {p p' : Pa α} (h : Cutp N R p p') {r r2 : List Wd} {b : Bool} {x : α} (hp : p r b = .ok x r2 false) (hr : ∀ x, R x x) (e : Wd) (he : e.kind = 6) : AtEnd p' e fun x' => R x' x := by
  rcases (h [] r e b x r2 (Nat.zero_le _) he hp).2 with h1 | ⟨x', h1, h2⟩ | ⟨u2, h1, h2, h3⟩
  · exact .inl h1
  · exact .inr ⟨x', h1, h2⟩
  · obtain rfl : u2 = [] := List.length_eq_zero_iff.1 (Nat.le_zero.1 h1)
    exact .inr ⟨x, h3, hr x⟩
theorem cutp_ok (R : α → α → Prop) (a : α) : Cutp N R (fun r b => PR.ok a r b) (fun r b => PR.ok a r b) := fun u v e b x r2 hu he hp => by
  cases hp
  exact ⟨rfl, .inr (.inr ⟨u, Nat.le_refl _, rfl, rfl⟩)⟩
theorem Cutp.then {R : α → α → Prop} {S : β → β → Prop} {p p' : Pa α} {f f' : α → Pa β} (hp : Cutp N R p p') (hf : ∀ x, Cutp N S (f x) (f' x))
    (hg : ∀ x x', R x' x → ∀ (r r3 : List Wd) (e : Wd) (z : β), e.kind = 6 → f x r false = .ok z r3 false → AtEnd (f' x') e fun z' => S z' z) :
    Cutp N S (fun r b => (p r b).then f) (fun r b => (p' r b).then f') := fun u v e b z r3 hu he h => by
  simp only [PR.then] at h
  split at h
  · rename_i x r1 b1 h1
    obtain rfl := (hf x).flag h
    obtain ⟨i1, i2⟩ := hp _ _ _ _ _ _ hu he h1
    refine ⟨i1, ?_⟩
    simp only [PR.then]
    rcases i2 with i2 | ⟨x', i2, i3⟩ | ⟨u2, i2, i3, i4⟩
    · rw [i2]; exact .inl rfl
    · rw [i2]
      rcases hg x x' i3 _ _ e z he h with j | ⟨z', j1, j2⟩
      · exact .inl j
      · exact .inr (.inl ⟨z', j1, j2⟩)
    · subst i3
      rw [i4]
      obtain ⟨_, j⟩ := hf x _ _ _ _ _ _ (Nat.le_trans i2 hu) he h
      rcases j with j | j | ⟨u3, j1, j2, j3⟩
      · exact .inl j
      · exact .inr (.inl j)
      · exact .inr (.inr ⟨u3, by omega, j2, j3⟩)
  · cases h
theorem Cutp.map {R : α → α → Prop} {S : β → β → Prop} {p p' : Pa α} {f : α → β} (hp : Cutp N R p p') (hs : ∀ x' x, R x' x → S (f x') (f x)) : Cutp N S (fun r b => (p r b).map f) (fun r b => (p' r b).map f) :=
  hp.then (fun a => cutp_ok S (f a)) fun x x' hr r r3 e z he h => by cases h; exact .inr ⟨f x', rfl, hs _ _ hr⟩
theorem not_end {m : Wd → Bool} (hm : Inner m) {e : Wd} (he : e.kind = 6) : m e = false := by
  cases h : m e with
  | false => rfl
  | true => exact absurd he (hm e h)
theorem need_end {m : Wd → Bool} (hm : Inner m) {e : Wd} (he : e.kind = 6) (b : Bool) : needW m [e] b = .bad 41 e.pos := by
  show (if m e then PR.ok e [] b else .bad 41 e.pos) = _
  rw [not_end hm he]; rfl
theorem cutp_need {m : Wd → Bool} (hm : Inner m) : Cutp N (fun _ _ => False) (needW m) (needW m) := fun u v e b x r2 hu he h => by
  cases u with
  | nil =>
    refine ⟨?_, .inl (need_end hm he _)⟩
    cases v with
    | nil => cases h
    | cons y v =>
      have h : (if m y then PR.ok y v b else .bad 41 y.pos) = .ok x r2 false := h
      split at h
      · cases h; rfl
      · cases h
  | cons y u =>
    have h : (if m y then PR.ok y (u ++ v) b else .bad 41 y.pos) = .ok x r2 false := h
    split at h
    · rename_i hy
      cases h
      refine ⟨rfl, .inr (.inr ⟨u, by simp, rfl, ?_⟩)⟩
      show (if m x then PR.ok x (u ++ [e]) false else .bad 41 x.pos) = _
      rw [if_pos hy]
    · cases h
theorem Cutp.ite {R : α → α → Prop} {p p' q q' : Pa α} {m : Wd → Bool} (hm : Inner m) (hp : Cutp (N - 1) R p p') (hq : Cutp N R q q')
    (hx : ∀ (r r2 : List Wd) (e : Wd) (x : α), e.kind = 6 → p r false = .ok x r2 false → AtEnd q' e fun x' => R x' x) :
    Cutp N R (fun r b => if seesW m r then p r.tail b else q r b) (fun r b => if seesW m r then p' r.tail b else q' r b) := fun u v e b x r2 hu he h => by
  cases u with
  | nil =>
    have e1 : seesW m ([] ++ [e]) = false := not_end hm he
    simp only [e1, Bool.false_eq_true, if_false]
    simp only at h
    split at h
    · obtain rfl := hp.flag h
      refine ⟨rfl, ?_⟩
      rcases hx _ _ e x he h with j | j
      · exact .inl j
      · exact .inr (.inl j)
    · exact hq [] v e b x r2 hu he h
  | cons y u =>
    simp only at h
    have e1 : seesW m (y :: u ++ v) = m y := rfl
    have e2 : seesW m (y :: u ++ [e]) = m y := rfl
    rw [e1] at h
    simp only [e2]
    cases hy : m y with
    | true =>
      rw [hy, if_pos rfl] at h
      simp only [if_true]
      obtain ⟨j1, j2⟩ := hp u v e b x r2 (by simp at hu; omega) he h
      refine ⟨j1, j2.imp id (Or.imp id ?_)⟩
      rintro ⟨u2, k1, k2, k3⟩
      exact ⟨u2, by simp; omega, k2, k3⟩
    | false =>
      rw [hy] at h
      simp only [Bool.false_eq_true, if_false] at h ⊢
      exact hq (y :: u) v e b x r2 hu he h
theorem Cutp.ite0 {R : α → α → Prop} {p p' q q' : Pa α} {m : Wd → Bool} (hm : Inner m) (hp : Cutp N R p p') (hq : Cutp N R q q')
    (hx : ∀ (r r2 : List Wd) (e : Wd) (x : α), e.kind = 6 → p r false = .ok x r2 false → AtEnd q' e fun x' => R x' x) :
    Cutp N R (fun r b => if seesW m r then p r b else q r b) (fun r b => if seesW m r then p' r b else q' r b) := fun u v e b x r2 hu he h => by
  cases u with
  | nil =>
    have e1 : seesW m ([] ++ [e]) = false := not_end hm he
    simp only [e1, Bool.false_eq_true, if_false]
    simp only at h
    split at h
    · obtain rfl := hp.flag h
      refine ⟨rfl, ?_⟩
      rcases hx _ _ e x he h with j | j
      · exact .inl j
      · exact .inr (.inl j)
    · exact hq [] v e b x r2 hu he h
  | cons y u =>
    simp only at h
    have e1 : seesW m (y :: u ++ v) = m y := rfl
    have e2 : seesW m (y :: u ++ [e]) = m y := rfl
    rw [e1] at h
    simp only [e2]
    cases hy : m y with
    | true =>
      rw [hy, if_pos rfl] at h
      simp only [if_true]
      exact hp (y :: u) v e b x r2 hu he h
    | false =>
      rw [hy] at h
      simp only [Bool.false_eq_true, if_false] at h ⊢
      exact hq (y :: u) v e b x r2 hu he h
theorem cutp_name : Cutp N (fun _ _ => False) nameW nameW := (cutp_need (inner_of (by decide))).map fun _ _ h => h
theorem name_end {e : Wd} (he : e.kind = 6) : nameW [e] false = .bad 41 e.pos := by unfold nameW PR.map; rw [need_end (inner_of (by decide)) he]; rfl
theorem cutp_all : ∀ ts : List Tx, Cutp N (fun _ _ => False) (allW ts) (allW ts)
  | [] => cutp_ok _ ()
  | t :: ts => (cutp_need (inner_says t)).then (fun _ => cutp_all ts) fun _ _ h => h.elim
theorem all_end (t : Tx) (ts : List Tx) {e : Wd} (he : e.kind = 6) : allW (t :: ts) [e] false = .bad 41 e.pos := by
  show (needW (saysW t) [e] false).then _ = _
  rw [need_end (inner_says t) he]; rfl
theorem all_map_end (t : Tx) (ts : List Tx) {γ : Type} (f : Unit → γ) {e : Wd} (he : e.kind = 6) : (allW (t :: ts) [e] false).map f = .bad 41 e.pos := by unfold PR.map; rw [all_end _ _ he]; rfl
theorem all_then_end (t : Tx) (ts : List Tx) {γ : Type} (f : Unit → Pa γ) {e : Wd} (he : e.kind = 6) : (allW (t :: ts) [e] false).then f = .bad 41 e.pos := by rw [all_end _ _ he]; rfl
theorem more_len {one : Pa α} : ∀ (f : Nat) (l : List α) (r r2 : List Wd) (b b2 : Bool) (x : List α), moreW one f l r b = .ok x r2 b2 → l.length ≤ x.length
  | 0, l, r, r2, b, b2, x, h => by cases h
  | f + 1, l, r, r2, b, b2, x, h => by
    have h : (if seesW (saysW [44]) r then (one r.tail b).then fun a => moreW one f (l ++ [a]) else .ok l r b) = .ok x r2 b2 := h
    split at h
    · simp only [PR.then] at h
      split at h
      · have := more_len f _ _ _ _ _ _ h
        simp at this; omega
      · cases h
    · cases h; exact Nat.le_refl _
def LenLe (l' l : List α) : Prop := l'.length ≤ l.length
theorem cutp_more {R : α → α → Prop} {one one' : Pa α} : ∀ (f f' N : Nat) (l : List α), N < f' → Cutp N R one one' → Cutp N LenLe (moreW one f l) (moreW one' f' l)
  | 0, f', N, l, hf, ho => fun u v e b x r2 hu he h => by cases h
  | f + 1, 0, N, l, hf, ho => by omega
  | f + 1, f' + 1, N, l, hf, ho => by
    have key : ∀ (e : Wd) (l : List α), e.kind = 6 → ∀ f', moreW one' (f' + 1) l [e] false = .ok l [e] false := fun e l he f' => by
      show (if seesW (saysW [44]) [e] then _ else PR.ok l [e] false) = _
      rw [show seesW (saysW [44]) [e] = false from not_end (inner_says _) he]; rfl
    cases N with
    | zero =>
      intro u v e b x r2 hu he h
      obtain rfl : u = [] := List.length_eq_zero_iff.1 (Nat.le_zero.1 hu)
      have hb : b = false := by
        have h : (if seesW (saysW [44]) v then (one v.tail b).then fun a => moreW one f (l ++ [a]) else .ok l v b) = .ok x r2 false := h
        split at h
        · simp only [PR.then] at h
          split at h
          · rename_i a r1 b1 h1
            obtain rfl := (cutp_more f 1 0 (l ++ [a]) (by omega) ho).flag h
            exact ho.flag h1
          · cases h
        · cases h; rfl
      exact ⟨hb, .inr (.inl ⟨l, key e l he f', more_len _ _ _ _ _ _ _ h⟩)⟩
    | succ N =>
      refine Cutp.ite (N := N + 1) (m := saysW [44]) (p := fun r b => (one r b).then fun a => moreW one f (l ++ [a])) (p' := fun r b => (one' r b).then fun a => moreW one' f' (l ++ [a])) (q := fun r b => .ok l r b) (q' := fun r b => .ok l r b) (inner_says _) ?_ (cutp_ok _ l) ?_
      · refine (ho.lower (by omega)).then (fun a => cutp_more f f' N (l ++ [a]) (by omega) (ho.lower (by omega))) ?_
        intro a a' hr r r3 e z he h
        obtain ⟨f2, rfl⟩ : ∃ f2, f' = f2 + 1 := ⟨f' - 1, by omega⟩
        refine .inr ⟨l ++ [a'], key e _ he f2, ?_⟩
        have := more_len _ _ _ _ _ _ _ h
        simp at this
        show (l ++ [a']).length ≤ _
        simp; omega
      · intro r r2 e x he h
        refine .inr ⟨l, rfl, ?_⟩
        simp only [PR.then] at h
        split at h
        · have := more_len _ _ _ _ _ _ _ h
          simp at this
          show l.length ≤ _
          omega
        · cases h
theorem cutp_list {R : α → α → Prop} {one one' : Pa α} (most : Nat) (ho : Cutp N R one one') : Cutp N LenLe (listW most one) (listW most one') := by
  intro u v e b x r2 hu he h
  unfold listW at h ⊢
  simp only [PR.then] at h ⊢
  cases h1 : one (u ++ v) b with
  | bad c p => rw [h1] at h; cases h
  | ok a r1 b1 =>
    rw [h1] at h
    simp only at h
    cases h2 : moreW one (r1.length + 1) [a] r1 b1 with
    | bad c p => rw [h2] at h; cases h
    | ok l r3 b3 =>
      rw [h2] at h
      simp only [PR.ok.injEq, Bool.or_eq_false_iff, decide_eq_false_iff_not] at h
      obtain ⟨rfl, rfl, rfl, hm⟩ := h
      have key : ∀ (l : List α) f', moreW one' (f' + 1) l [e] false = .ok l [e] false := fun l f' => by
        show (if seesW (saysW [44]) [e] then _ else PR.ok l [e] false) = _
        rw [show seesW (saysW [44]) [e] = false from not_end (inner_says _) he]; rfl
      have hb1 : b1 = false := (cutp_more (r1.length + 1) 1 0 [a] (by omega) (ho.lower (Nat.zero_le _))).flag h2
      subst hb1
      obtain ⟨j1, j2⟩ := ho u v e b a r1 hu he h1
      refine ⟨j1, ?_⟩
      have h3 := more_len _ _ _ _ _ _ _ h2
      simp at h3
      rcases j2 with j2 | ⟨a', j2, j3⟩ | ⟨u2, j2, j3, j4⟩
      · rw [j2]; exact .inl rfl
      · rw [j2]
        simp only
        rw [key [a'] _]
        refine .inr (.inl ⟨[a'], ?_, h3⟩)
        simp; omega
      · rw [j4]
        simp only
        subst j3
        obtain ⟨_, k⟩ := cutp_more ((u2 ++ v).length + 1) ((u2 ++ [e]).length + 1) u2.length [a] (by simp only [List.length_append, List.length_cons, List.length_nil]; omega) (ho.lower (by omega)) u2 v e false l r3 (Nat.le_refl _) he h2
        rcases k with k | ⟨l', k1, k2⟩ | ⟨u3, k1, k2, k3⟩
        · rw [k]; exact .inl rfl
        · rw [k1]
          have k2 : l'.length ≤ l.length := k2
          refine .inr (.inl ⟨l', ?_, k2⟩)
          simp; omega
        · rw [k3]
          refine .inr (.inr ⟨u3, by omega, k2, ?_⟩)
          simp; omega
end
theorem list_end {α : Type} {one : Pa α} (most : Nat) {e : Wd} (h : one [e] false = .bad 41 e.pos) : listW most one [e] false = .bad 41 e.pos := by
  unfold listW; rw [h]; rfl
def DepLe (c' c : Cd) : Prop := depthW c' ≤ depthW c
variable {N : Nat}
theorem cutp_item : Cutp N (fun _ _ => False) itemW itemW := by
  refine Cutp.ite0 (m := ofW 1) (p := fun r b => (nameW r b).map fun t => It.mk 1 t) (p' := fun r b => (nameW r b).map fun t => It.mk 1 t) (inner_of (by decide)) (cutp_name.map fun _ _ h => h) ?_ ?_
  · refine Cutp.then (p := needW (amongW callsT)) (p' := needW (amongW callsT)) (cutp_need (inner_among _)) (fun x => ?_) fun _ _ h => h.elim
    refine Cutp.then (p := allW [[40]]) (p' := allW [[40]]) (cutp_all _) (fun _ => ?_) fun _ _ h => h.elim
    intro u v e b y r2 hu he h
    simp only at h ⊢
    split at h
    · rename_i hk
      rw [if_pos hk]
      exact (Cutp.map (S := fun _ _ => False) (f := fun _ => It.mk 2 []) (cutp_all [[42], [41]]) (fun _ _ h => h)) u v e b y r2 hu he h
    · rename_i hk
      rw [if_neg hk]
      exact (Cutp.then (S := fun _ _ => False) cutp_name (fun t => (cutp_all [[41]]).map (f := fun _ => It.mk (placeW callsT x.text) t) fun _ _ h => h) fun _ _ h => h.elim) u v e b y r2 hu he h
  · intro r r2 e x he h
    exact .inl (by show (needW (amongW callsT) [e] false).then _ = _; rw [need_end (inner_among _) he]; rfl)
theorem val_end {e : Wd} (he : e.kind = 6) : valW [e] false = .bad 41 e.pos := by
  unfold valW
  rw [if_neg (by rw [show seesW (ofW 4) [e] = false from not_end (inner_of (by decide)) he]; decide)]
  rw [show seesW (saysW [45]) [e] = false from not_end (inner_says _) he]
  show (needW (ofW 3) [e] false).then _ = _
  rw [need_end (inner_of (by decide)) he]; rfl
theorem cutp_val : Cutp N (fun _ _ => False) valW valW := by
  have key : ∀ (s : Tx) (M : Nat), Cutp M (fun _ _ => False) (fun r b => (needW (ofW 3) r b).then fun x r1 b1 => match numW (s ++ x.text) with | some n => PR.ok (Vl.mk false [] n) r1 b1 | none => .bad 45 x.pos) (fun r b => (needW (ofW 3) r b).then fun x r1 b1 => match numW (s ++ x.text) with | some n => PR.ok (Vl.mk false [] n) r1 b1 | none => .bad 45 x.pos) := fun s M => by
    refine (cutp_need (inner_of (by decide))).then (fun x => ?_) fun _ _ h => h.elim
    intro u v e b y r2 hu he h
    cases hn : numW (s ++ x.text) with
    | some n =>
      rw [hn] at h
      cases h
      exact ⟨rfl, .inr (.inr ⟨u, Nat.le_refl _, rfl, rfl⟩)⟩
    | none => rw [hn] at h; cases h
  refine Cutp.ite0 (m := ofW 4) (p := fun r b => (needW (ofW 4) r b).map fun x => Vl.mk true x.text 0) (p' := fun r b => (needW (ofW 4) r b).map fun x => Vl.mk true x.text 0) (inner_of (by decide)) ((cutp_need (inner_of (by decide))).map fun _ _ h => h) ?_ ?_
  · have h1 : Cutp N (fun _ _ => False) (fun r b => if seesW (saysW [45]) r then (needW (ofW 3) r.tail b).then fun x r1 b1 => match numW ([45] ++ x.text) with | some n => PR.ok (Vl.mk false [] n) r1 b1 | none => .bad 45 x.pos else (needW (ofW 3) r b).then fun x r1 b1 => match numW ([] ++ x.text) with | some n => PR.ok (Vl.mk false [] n) r1 b1 | none => .bad 45 x.pos) (fun r b => if seesW (saysW [45]) r then (needW (ofW 3) r.tail b).then fun x r1 b1 => match numW ([45] ++ x.text) with | some n => PR.ok (Vl.mk false [] n) r1 b1 | none => .bad 45 x.pos else (needW (ofW 3) r b).then fun x r1 b1 => match numW ([] ++ x.text) with | some n => PR.ok (Vl.mk false [] n) r1 b1 | none => .bad 45 x.pos) := by
      refine Cutp.ite (m := saysW [45]) (p := fun r b => (needW (ofW 3) r b).then fun x r1 b1 => match numW ([45] ++ x.text) with | some n => PR.ok (Vl.mk false [] n) r1 b1 | none => .bad 45 x.pos) (p' := fun r b => (needW (ofW 3) r b).then fun x r1 b1 => match numW ([45] ++ x.text) with | some n => PR.ok (Vl.mk false [] n) r1 b1 | none => .bad 45 x.pos) (inner_says _) (key [45] _) (key [] _) ?_
      intro r r2 e x he h
      exact .inl (by show (needW (ofW 3) [e] false).then _ = _; rw [need_end (inner_of (by decide)) he]; rfl)
    intro u v e b y r2 hu he h
    have e1 : ∀ r b, (let neg := seesW (saysW [45]) r; (needW (ofW 3) (if neg then r.tail else r) b).then fun x r1 b1 => match numW ((if neg then [45] else []) ++ x.text) with | some n => PR.ok (Vl.mk false [] n) r1 b1 | none => .bad 45 x.pos) = (if seesW (saysW [45]) r then (needW (ofW 3) r.tail b).then fun x r1 b1 => match numW ([45] ++ x.text) with | some n => PR.ok (Vl.mk false [] n) r1 b1 | none => .bad 45 x.pos else (needW (ofW 3) r b).then fun x r1 b1 => match numW ([] ++ x.text) with | some n => PR.ok (Vl.mk false [] n) r1 b1 | none => .bad 45 x.pos) := fun r b => by
      cases hs : seesW (saysW [45]) r <;> rfl
    have h := (e1 (u ++ v) b).symm.trans h
    obtain ⟨i1, i2⟩ := h1 u v e b y r2 hu he h
    refine ⟨i1, ?_⟩
    have e2 := e1 (u ++ [e]) false
    exact i2.imp (fun h => e2.trans h) (Or.imp (fun ⟨x', h3, h4⟩ => ⟨x', e2.trans h3, h4⟩) (fun ⟨u2, a1, a2, a3⟩ => ⟨u2, a1, a2, e2.trans a3⟩))
  · intro r r2 e x he h
    have := val_end he
    unfold valW at this
    rw [if_neg (by rw [show seesW (ofW 4) [e] = false from not_end (inner_of (by decide)) he]; decide)] at this
    exact .inl this
theorem cutp_test : Cutp N (fun _ _ => False) testW testW := by
  refine Cutp.then (p := nameW) (p' := nameW) cutp_name (fun t => ?_) fun _ _ h => h.elim
  refine Cutp.ite (m := saysW [73, 78]) (p := fun r b => (allW [[40]] r b).then fun _ r2 b2 => (listW 64 valW r2 b2).then fun vs r3 b3 => (allW [[41]] r3 b3).map fun _ => Cd.node 5 .none .none t 0 vs) (p' := fun r b => (allW [[40]] r b).then fun _ r2 b2 => (listW 64 valW r2 b2).then fun vs r3 b3 => (allW [[41]] r3 b3).map fun _ => Cd.node 5 .none .none t 0 vs) (inner_says _) ?_ ?_ ?_
  · refine Cutp.then (cutp_all _) (fun _ => ?_) fun _ _ h => h.elim
    refine Cutp.then (cutp_list 64 cutp_val) (fun vs => (cutp_all _).map fun _ _ h => h) ?_
    intro x x' _ r r3 e z he h
    exact .inl (all_map_end _ _ _ he)
  · exact Cutp.then (cutp_need (inner_among _)) (fun x => cutp_val.map fun _ _ h => h) fun _ _ h => h.elim
  · intro r r2 e x he h
    exact .inl (by show (needW (amongW signsT) [e] false).then _ = _; rw [need_end (inner_among _) he]; rfl)
theorem test_end {e : Wd} (he : e.kind = 6) : testW [e] false = .bad 41 e.pos := by unfold testW; rw [name_end he]; rfl
theorem dep_node {k : Int} {l r l' r' : Cd} {t : Tx} {o : Int} {vs : List Vl} (h1 : depthW l' ≤ depthW l) (h2 : depthW r' ≤ depthW r) : depthW (.node k l' r' t o vs) ≤ depthW (.node k l r t o vs) := by
  show 1 + max (depthW l') (depthW r') ≤ 1 + max (depthW l) (depthW r)
  omega
theorem link_dep {k : Int} {kw : Tx} {one : Pa Cd} : ∀ (f : Nat) (c : Cd) (r r2 : List Wd) (b b2 : Bool) (x : Cd), linkW k kw one f c r b = .ok x r2 b2 → depthW c ≤ depthW x
  | 0, c, r, r2, b, b2, x, h => by cases h
  | f + 1, c, r, r2, b, b2, x, h => by
    have h : (if seesW (saysW kw) r then (one r.tail b).then fun d => linkW k kw one f (.node k c d [] 0 []) else .ok c r b) = .ok x r2 b2 := h
    split at h
    · simp only [PR.then] at h
      split at h
      · rename_i d _ _ _
        have := link_dep f _ _ _ _ _ _ h
        have h2 : depthW (.node k c d [] 0 []) = 1 + max (depthW c) (depthW d) := rfl
        omega
      · cases h
    · cases h; exact Nat.le_refl _
theorem link_end {k : Int} {kw : Tx} {one : Pa Cd} (f : Nat) (c : Cd) {e : Wd} (he : e.kind = 6) : linkW k kw one (f + 1) c [e] false = .ok c [e] false := by
  show (if seesW (saysW kw) [e] then _ else PR.ok c [e] false) = _
  rw [show seesW (saysW kw) [e] = false from not_end (inner_says _) he]; rfl
theorem cutp_link {k : Int} {kw : Tx} {one one' : Pa Cd} : ∀ (f f' N : Nat) (c : Cd), N < f' → Cutp N DepLe one one' → Cutp N DepLe (linkW k kw one f c) (linkW k kw one' f' c)
  | 0, f', N, c, hf, ho => fun u v e b x r2 hu he h => by cases h
  | f + 1, 0, N, c, hf, ho => by omega
  | f + 1, f' + 1, N, c, hf, ho => by
    cases N with
    | zero =>
      intro u v e b x r2 hu he h
      obtain rfl : u = [] := List.length_eq_zero_iff.1 (Nat.le_zero.1 hu)
      have hb : b = false := by
        have h : (if seesW (saysW kw) v then (one v.tail b).then fun d => linkW k kw one f (.node k c d [] 0 []) else .ok c v b) = .ok x r2 false := h
        split at h
        · simp only [PR.then] at h
          split at h
          · rename_i a r1 b1 h1
            obtain rfl := (cutp_link f 1 0 (.node k c a [] 0 []) (by omega) ho).flag h
            exact ho.flag h1
          · cases h
        · cases h; rfl
      exact ⟨hb, .inr (.inl ⟨c, link_end f' c he, link_dep _ _ _ _ _ _ _ h⟩)⟩
    | succ N =>
      refine Cutp.ite (N := N + 1) (m := saysW kw) (p := fun r b => (one r b).then fun d => linkW k kw one f (.node k c d [] 0 [])) (p' := fun r b => (one' r b).then fun d => linkW k kw one' f' (.node k c d [] 0 [])) (q := fun r b => .ok c r b) (q' := fun r b => .ok c r b) (inner_says _) ?_ (cutp_ok _ c) ?_
      · refine (ho.lower (by omega)).then (fun a => cutp_link f f' N _ (by omega) (ho.lower (by omega))) ?_
        intro a a' hr r r3 e z he h
        obtain ⟨f2, rfl⟩ : ∃ f2, f' = f2 + 1 := ⟨f' - 1, by omega⟩
        exact .inr ⟨_, link_end f2 _ he, Nat.le_trans (dep_node (Nat.le_refl _) hr) (link_dep _ _ _ _ _ _ _ h)⟩
      · intro r r2 e x he h
        refine .inr ⟨c, rfl, ?_⟩
        simp only [PR.then] at h
        split at h
        · rename_i d _ _ _
          have := link_dep _ _ _ _ _ _ _ h
          have h2 : depthW (.node k c d [] 0 []) = 1 + max (depthW c) (depthW d) := rfl
          show depthW c ≤ _
          omega
        · cases h
theorem cutp_chain {k : Int} {kw : Tx} {one one' : Pa Cd} (ho : Cutp N DepLe one one') : Cutp N DepLe (chainW k kw one) (chainW k kw one') := by
  intro u v e b x r2 hu he h
  unfold chainW at h ⊢
  simp only [PR.then] at h ⊢
  cases h1 : one (u ++ v) b with
  | bad c p => rw [h1] at h; cases h
  | ok a r1 b1 =>
    rw [h1] at h
    simp only at h
    have hb1 : b1 = false := (cutp_link (r1.length + 1) 1 0 a (by omega) (ho.lower (Nat.zero_le _))).flag h
    subst hb1
    obtain ⟨j1, j2⟩ := ho u v e b a r1 hu he h1
    refine ⟨j1, ?_⟩
    rcases j2 with j2 | ⟨a', j2, j3⟩ | ⟨u2, j2, j3, j4⟩
    · rw [j2]; exact .inl rfl
    · rw [j2]
      simp only
      rw [link_end _ a' he]
      exact .inr (.inl ⟨a', rfl, Nat.le_trans j3 (link_dep _ _ _ _ _ _ _ h)⟩)
    · rw [j4]
      simp only
      subst j3
      obtain ⟨_, q⟩ := cutp_link ((u2 ++ v).length + 1) ((u2 ++ [e]).length + 1) u2.length a (by simp only [List.length_append, List.length_cons, List.length_nil]; omega) (ho.lower (by omega)) u2 v e false x r2 (Nat.le_refl _) he h
      rcases q with q | q | ⟨u3, q1, q2, q3⟩
      · exact .inl q
      · exact .inr (.inl q)
      · exact .inr (.inr ⟨u3, by omega, q2, q3⟩)
theorem chain_end {k : Int} {kw : Tx} {one : Pa Cd} {e : Wd} (h : one [e] false = .bad 41 e.pos) : chainW k kw one [e] false = .bad 41 e.pos := by unfold chainW; rw [h]; rfl
theorem not_endW (f : Nat) {e : Wd} (he : e.kind = 6) : notW (f + 1) [e] false = .bad 41 e.pos := by
  show (if seesW (saysW [78, 79, 84]) [e] then _ else if seesW (saysW [40]) [e] then _ else testW [e] false) = _
  rw [show seesW (saysW [78, 79, 84]) [e] = false from not_end (inner_says _) he, show seesW (saysW [40]) [e] = false from not_end (inner_says _) he]
  exact test_end he
theorem cutp_not : ∀ (f f' N : Nat), N < f' → Cutp N DepLe (notW f) (notW f')
  | 0, f', N, hf => fun u v e b x r2 hu he h => by cases h
  | f + 1, 0, N, hf => by omega
  | f + 1, f' + 1, N, hf => by
    have hT : Cutp N DepLe testW testW := cutp_test.mono fun _ _ h => h.elim
    -- where nothing is left but the end
    have hflag : ∀ (g : Nat) (r r2 : List Wd) (b : Bool) (x : Cd), notW g r b = .ok x r2 false → b = false := fun g => by
      induction g with
      | zero => intro r r2 b x h; cases h
      | succ g ih =>
        intro r r2 b x h
        have hc : Cutp 0 DepLe (notW g) (fun _ _ => .bad 41 0) → True := fun _ => trivial
        have h : (if seesW (saysW [78, 79, 84]) r then (notW g r.tail b).map fun c => Cd.node 3 c .none [] 0 [] else if seesW (saysW [40]) r then (orW (notW g) r.tail b).then fun c r1 b1 => (allW [[41]] r1 b1).map fun _ => c else testW r b) = .ok x r2 false := h
        split at h
        · simp only [PR.map, PR.then] at h
          split at h
          · rename_i a r1 b1 h1
            cases h
            exact ih _ _ _ _ h1
          · cases h
        · split at h
          · simp only [PR.map, PR.then] at h
            split at h
            · rename_i a r1 b1 h1
              split at h
              · rename_i h2
                cases h
                obtain rfl := (cutp_all (N := 0) [[41]]).flag h2
                have fl : ∀ (k : Int) (kw : Tx) (one : Pa Cd), (∀ r r2 b x, one r b = .ok x r2 false → b = false) → ∀ (f : Nat) (c : Cd) r r2 b x, linkW k kw one f c r b = .ok x r2 false → b = false := fun k kw one ho f => by
                  induction f with
                  | zero => intro c r r2 b x h; cases h
                  | succ f ih2 =>
                    intro c r r2 b x h
                    have h : (if seesW (saysW kw) r then (one r.tail b).then fun d => linkW k kw one f (.node k c d [] 0 []) else .ok c r b) = .ok x r2 false := h
                    split at h
                    · simp only [PR.then] at h
                      split at h
                      · rename_i d r3 b3 h3
                        obtain rfl := ih2 _ _ _ _ _ h
                        exact ho _ _ _ _ h3
                      · cases h
                    · cases h; rfl
                have fc : ∀ (k : Int) (kw : Tx) (one : Pa Cd), (∀ r r2 b x, one r b = .ok x r2 false → b = false) → ∀ r r2 b x, chainW k kw one r b = .ok x r2 false → b = false := fun k kw one ho r r2 b x h => by
                  unfold chainW at h
                  simp only [PR.then] at h
                  split at h
                  · rename_i d r3 b3 h3
                    obtain rfl := fl k kw one ho _ _ _ _ _ _ h
                    exact ho _ _ _ _ h3
                  · cases h
                exact fc 2 _ _ (fc 1 _ _ ih) _ _ _ _ h1
              · cases h
            · cases h
          · exact (cutp_test (N := 0)).flag h
    cases N with
    | zero =>
      intro u v e b x r2 hu he h
      obtain rfl : u = [] := List.length_eq_zero_iff.1 (Nat.le_zero.1 hu)
      exact ⟨hflag _ _ _ _ _ h, .inl (not_endW f' he)⟩
    | succ N =>
      have ih : Cutp N DepLe (notW f) (notW f') := cutp_not f f' N (by omega)
      refine Cutp.ite (N := N + 1) (m := saysW [78, 79, 84]) (p := fun r b => (notW f r b).map fun c => Cd.node 3 c .none [] 0 []) (p' := fun r b => (notW f' r b).map fun c => Cd.node 3 c .none [] 0 []) (inner_says _) (ih.map fun x' x h => dep_node h (Nat.le_refl _)) ?_ ?_
      · refine Cutp.ite (N := N + 1) (m := saysW [40]) (p := fun r b => (orW (notW f) r b).then fun c r1 b1 => (allW [[41]] r1 b1).map fun _ => c) (p' := fun r b => (orW (notW f') r b).then fun c r1 b1 => (allW [[41]] r1 b1).map fun _ => c) (inner_says _) ?_ hT ?_
        · refine Cutp.then (cutp_chain (cutp_chain ih)) (fun c => (cutp_all _).map fun _ _ h => h.elim) ?_
          intro x x' _ r r3 e z he h
          exact .inl (all_map_end _ _ _ he)
        · intro r r2 e x he h
          exact .inl (test_end he)
      · intro r r2 e x he h
        refine .inl ?_
        show (if seesW _ [e] = true then _ else _) = _
        rw [if_neg (by rw [show seesW (saysW [40]) [e] = false from not_end (inner_says _) he]; decide)]
        exact test_end he
theorem cutp_or {f f' : Nat} (h : N < f') : Cutp N DepLe (orW (notW f)) (orW (notW f')) := cutp_chain (cutp_chain (cutp_not f f' N h))
theorem or_end (f : Nat) {e : Wd} (he : e.kind = 6) : orW (notW (f + 1)) [e] false = .bad 41 e.pos := chain_end (chain_end (not_endW f he))
theorem cutp_names : Cutp N (fun _ _ => False) namesW namesW := by
  refine Cutp.then (cutp_list 16 cutp_name) (fun l => (cutp_all _).map fun _ _ h => h) ?_
  intro x x' _ r r3 e z he h
  exact .inl (all_map_end _ _ _ he)
theorem names_end {e : Wd} (he : e.kind = 6) : namesW [e] false = .bad 41 e.pos := by unfold namesW; rw [list_end _ (name_end he)]; rfl
theorem cutp_lst : Cutp N (fun _ _ => False) lstW lstW := Cutp.then (cutp_all _) (fun _ => cutp_names) fun _ _ h => h.elim
theorem cutp_set : Cutp N (fun _ _ => False) setW setW := by
  refine Cutp.ite0 (m := ofW 1) (p := fun r b => (nameW r b).map fun t => [t]) (p' := fun r b => (nameW r b).map fun t => [t]) (inner_of (by decide)) (cutp_name.map fun _ _ h => h) ?_ ?_
  · refine Cutp.then (cutp_all _) (fun _ => ?_) fun _ _ h => h.elim
    refine Cutp.ite (m := saysW [41]) (p := fun r b => .ok [] r b) (p' := fun r b => .ok [] r b) (inner_says _) (cutp_ok _ _) cutp_names ?_
    intro r r2 e x he h
    exact .inl (names_end he)
  · intro r r2 e x he h
    exact .inl (all_then_end _ _ _ he)
theorem cutp_elt : Cutp N (fun _ _ => False) eltW eltW := by
  have e3 : ∀ {e : Wd}, e.kind = 6 → ((allW [[71, 82, 79, 85, 80, 73, 78, 71], [83, 69, 84, 83], [40]] [e] false).then fun _ r1 b1 => (listW 64 setW r1 b1).then fun ss r2 b2 => (allW [[41]] r2 b2).map fun _ => Gp.mk 4 [] ss) = .bad 41 e.pos := fun he => by rw [all_end _ _ he]; rfl
  have no : ∀ {e : Wd} (m : Wd → Bool), Inner m → e.kind = 6 → ¬ seesW m [e] = true := fun m hm he => by rw [show seesW m [_] = false from not_end hm he]; decide
  refine Cutp.ite0 (m := ofW 1) (p := fun r b => (nameW r b).map fun t => Gp.mk 1 [t] []) (p' := fun r b => (nameW r b).map fun t => Gp.mk 1 [t] []) (inner_of (by decide)) (cutp_name.map fun _ _ h => h) ?_ ?_
  · refine Cutp.ite (m := saysW [82, 79, 76, 76, 85, 80]) (p := fun r b => (lstW r b).map fun l => Gp.mk 2 l []) (p' := fun r b => (lstW r b).map fun l => Gp.mk 2 l []) (inner_says _) (cutp_lst.map fun _ _ h => h) ?_ ?_
    · refine Cutp.ite (m := saysW [67, 85, 66, 69]) (p := fun r b => (lstW r b).map fun l => Gp.mk 3 l []) (p' := fun r b => (lstW r b).map fun l => Gp.mk 3 l []) (inner_says _) (cutp_lst.map fun _ _ h => h) ?_ ?_
      · refine Cutp.then (cutp_all _) (fun _ => ?_) fun _ _ h => h.elim
        refine Cutp.then (cutp_list 64 cutp_set) (fun ss => (cutp_all _).map fun _ _ h => h) ?_
        intro x x' _ r r3 e z he h
        exact .inl (all_map_end _ _ _ he)
      · intro r r2 e x he h
        exact .inl (e3 he)
    · intro r r2 e x he h
      refine .inl ?_
      show (if seesW _ [e] = true then _ else _) = _
      rw [if_neg (no _ (inner_says _) he)]
      exact e3 he
  · intro r r2 e x he h
    refine .inl ?_
    show (if seesW _ [e] = true then _ else _) = _
    rw [if_neg (no _ (inner_says _) he)]
    show (if seesW _ [e] = true then _ else _) = _
    rw [if_neg (no _ (inner_says _) he)]
    exact e3 he
def QyLe (q' q : Qy) : Prop := q'.table = q.table ∧ depthW q'.cond ≤ depthW q.cond
def whereW (f : Nat) : Pa Cd := fun r b => if seesW (saysW [87, 72, 69, 82, 69]) r then orW (notW f) r.tail b else .ok .none r b
def groupsW : Pa (Bool × List Gp) := fun r b => if seesW (saysW [71, 82, 79, 85, 80]) r then (allW [[66, 89]] r.tail b).then fun _ r6 b6 => (listW 16 eltW r6 b6).map fun g => (true, g) else .ok (false, []) r b
def bodyW (f : Nat) : Pa Qy := fun r b =>
  (allW [[83, 69, 76, 69, 67, 84]] r b).then fun _ r1 b1 => (listW 16 itemW r1 b1).then fun is r2 b2 =>
  (allW [[70, 82, 79, 77]] r2 b2).then fun _ r3 b3 => (nameW r3 b3).then fun t r4 b4 =>
  (whereW f r4 b4).then fun c r5 b5 => (groupsW r5 b5).map fun g => ⟨is, t, c, g.1, g.2⟩
theorem then_then {α β γ : Type} (x : PR α) (f : α → Pa β) (g : β → Pa γ) : (x.then f).then g = x.then fun a r b => (f a r b).then g := by
  cases x <;> rfl
theorem query_body (f : Nat) (r : List Wd) (b : Bool) : queryW f r b = (bodyW f r b).then fun q r7 b7 => (needW (ofW 6) r7 b7).map fun _ => q := by
  unfold bodyW PR.map
  simp only [then_then]
  rfl
theorem cutp_where {f f' : Nat} (h : N < f') : Cutp N DepLe (whereW f) (whereW f') := by
  refine Cutp.ite (m := saysW [87, 72, 69, 82, 69]) (p := orW (notW f)) (p' := orW (notW f')) (q := fun r b => .ok .none r b) (q' := fun r b => .ok .none r b) (inner_says _) (cutp_or (by omega)) (cutp_ok _ _) ?_
  intro r r2 e x he h
  exact .inr ⟨.none, rfl, Nat.zero_le _⟩
theorem where_end (f : Nat) {e : Wd} (he : e.kind = 6) : whereW f [e] false = .ok .none [e] false := by
  unfold whereW
  rw [if_neg (by rw [show seesW (saysW [87, 72, 69, 82, 69]) [e] = false from not_end (inner_says _) he]; decide)]
theorem cutp_groups : Cutp N (fun _ _ => True) groupsW groupsW := by
  refine Cutp.ite (m := saysW [71, 82, 79, 85, 80]) (p := fun r b => (allW [[66, 89]] r b).then fun _ r6 b6 => (listW 16 eltW r6 b6).map fun g => (true, g)) (p' := fun r b => (allW [[66, 89]] r b).then fun _ r6 b6 => (listW 16 eltW r6 b6).map fun g => (true, g)) (q := fun r b => .ok (false, []) r b) (q' := fun r b => .ok (false, []) r b) (inner_says _) ?_ (cutp_ok _ _) ?_
  · exact Cutp.then (cutp_all _) (fun _ => (cutp_list 16 cutp_elt).map fun _ _ _ => trivial) fun _ _ h => h.elim
  · intro r r2 e x he h
    exact .inr ⟨_, rfl, trivial⟩
theorem groups_end {e : Wd} (he : e.kind = 6) : groupsW [e] false = .ok (false, []) [e] false := by
  unfold groupsW
  rw [if_neg (by rw [show seesW (saysW [71, 82, 79, 85, 80]) [e] = false from not_end (inner_says _) he]; decide)]
theorem cutp_body {f f' : Nat} (h : N < f') : Cutp N QyLe (bodyW f) (bodyW f') := by
  refine Cutp.then (p := allW [[83, 69, 76, 69, 67, 84]]) (p' := allW [[83, 69, 76, 69, 67, 84]]) (cutp_all _) (fun _ => ?_) fun _ _ h => h.elim
  refine Cutp.then (cutp_list 16 cutp_item) (fun is => ?_) ?_
  · refine Cutp.then (p := allW [[70, 82, 79, 77]]) (p' := allW [[70, 82, 79, 77]]) (cutp_all _) (fun _ => ?_) fun _ _ h => h.elim
    refine Cutp.then (p := nameW) (p' := nameW) cutp_name (fun t => ?_) fun _ _ h => h.elim
    refine Cutp.then (p := whereW f) (p' := whereW f') (cutp_where h) (fun c => cutp_groups.map fun _ _ _ => ⟨rfl, Nat.le_refl _⟩) ?_
    intro x x' hr r r3 e z he hz
    refine .inr ⟨⟨is, t, x', false, []⟩, by show (groupsW [e] false).map _ = _; rw [groups_end he]; rfl, ?_⟩
    simp only [PR.map, PR.then] at hz
    split at hz
    · cases hz
      exact ⟨rfl, hr⟩
    · cases hz
  · intro x x' _ r r3 e z he hz
    exact .inl (all_then_end _ _ _ he)
/-- Of a beginning of the words of a query that is read: a fault at its end, or a query of that table, no deeper. -/
theorem cut_query {f f' : Nat} {u v r2 : List Wd} {e : Wd} {q : Qy} (hf : u.length < f') (he : e.kind = 6) (h : queryW f (u ++ v) false = .ok q r2 false) : queryW f' (u ++ [e]) false = .bad 41 e.pos ∨ ∃ q' r', queryW f' (u ++ [e]) false = .ok q' r' false ∧ q'.table = q.table ∧ depthW q'.cond ≤ depthW q.cond := by
  rw [query_body] at h
  simp only [PR.then] at h
  split at h
  · rename_i x r1 b1 h1
    have hb : b1 = false ∧ x = q ∧ ∃ y, r1 = y :: r2 ∧ ofW 6 y = true := by
      cases r1 with
      | nil => cases h
      | cons y l =>
        have h : (if ofW 6 y then PR.ok y l b1 else .bad 41 y.pos).map (fun _ => x) = .ok q r2 false := h
        split at h
        · rename_i hy
          cases h
          exact ⟨rfl, rfl, y, rfl, hy⟩
        · cases h
    obtain ⟨rfl, rfl, y, rfl, hy⟩ := hb
    rw [query_body]
    rcases (cutp_body hf u v e false x _ (Nat.le_refl _) he h1).2 with j | ⟨q', j1, j2, j3⟩ | ⟨u2, j1, j2, j3⟩
    · rw [j]; exact .inl rfl
    · rw [j1]
      refine .inr ⟨q', [], ?_, j2, j3⟩
      show (if ofW 6 e then PR.ok e [] false else .bad 41 e.pos).map (fun _ => q') = _
      rw [if_pos (by unfold ofW; rw [he]; rfl)]; rfl
    · rw [j3]
      cases u2 with
      | nil =>
        refine .inr ⟨x, [], ?_, rfl, Nat.le_refl _⟩
        show (if ofW 6 e then PR.ok e [] false else .bad 41 e.pos).map (fun _ => x) = _
        rw [if_pos (by unfold ofW; rw [he]; rfl)]; rfl
      | cons y2 u2 =>
        cases j2
        refine .inr ⟨x, u2 ++ [e], ?_, rfl, Nat.le_refl _⟩
        show (if ofW 6 y then PR.ok y (u2 ++ [e]) false else .bad 41 y.pos).map (fun _ => x) = _
        rw [if_pos hy]; rfl
  · cases h
/-! ### texts -/
theorem Made.take {z : Tx} : ∀ {l : List Pc}, Made z l → ∀ (k : Nat) (c : Pc), l[k]? = some c → Made c.gap (l.take k)
  | [], h, k, c, hk => by cases hk
  | d :: l, h, 0, c, hk => by
    cases hk
    exact h.1
  | d :: l, h, k + 1, c, hk => by
    obtain ⟨h1, h2, h3, h4, h5, h6⟩ := h
    refine ⟨h1, h2, h3, h4, ?_, h6.take k c hk⟩
    intro b hb
    refine h5 b ?_
    cases k with
    | zero =>
      cases l with
      | nil => cases hk
      | cons x l =>
        obtain rfl : x = c := Option.some.inj hk
        have hb : x.gap.head? = some b := hb
        show (x.gap ++ (x.x ++ txt z l)).head? = some b
        rw [List.head?_append, hb]; rfl
    | succ k =>
      cases l with
      | nil => cases hk
      | cons x l =>
        have hne : x.gap ++ x.x ≠ [] := by
          have := h6.2.2.2.1
          simp [this]
        have hb : (x.gap ++ (x.x ++ txt c.gap (l.take k))).head? = some b := hb
        show (x.gap ++ (x.x ++ txt z l)).head? = some b
        obtain ⟨b0, l0, e0⟩ : ∃ b0 l0, x.gap ++ x.x = b0 :: l0 := by
          cases hh : x.gap ++ x.x with
          | nil => exact absurd hh hne
          | cons b0 l0 => exact ⟨b0, l0, rfl⟩
        rw [← List.append_assoc, e0] at hb ⊢
        exact hb
theorem take_text (z : Tx) : ∀ (l : List Pc) (k p : Nat) (c : Pc), l[k]? = some c → ∃ a, (mkW p l)[k]? = some ⟨c.kind, c.text, p + a⟩ ∧ a = (txt c.gap (l.take k)).length ∧ (txt z l).take a = txt c.gap (l.take k) ∧ mkW p (l.take k) = (mkW p l).take k
  | [], k, p, c, hk => by cases hk
  | d :: l, 0, p, c, hk => by
    cases hk
    refine ⟨d.gap.length, rfl, rfl, ?_, rfl⟩
    show (d.gap ++ (d.x ++ txt z l)).take d.gap.length = d.gap
    simp
  | d :: l, k + 1, p, c, hk => by
    obtain ⟨a, h1, h2, h3, h4⟩ := take_text z l k (p + d.gap.length + d.x.length) c hk
    refine ⟨d.gap.length + d.x.length + a, ?_, ?_, ?_, ?_⟩
    · show (mkW (p + d.gap.length + d.x.length) l)[k]? = _
      rw [h1]; congr 2; omega
    · show _ = (d.gap ++ (d.x ++ txt c.gap (l.take k))).length
      simp; omega
    · show (d.gap ++ (d.x ++ txt z l)).take _ = d.gap ++ (d.x ++ txt c.gap (l.take k))
      rw [← h3, ← List.append_assoc, ← List.append_assoc, ← List.length_append, List.take_length_add_append]
    · show d.wd p :: mkW _ (l.take k) = d.wd p :: _
      rw [h4]
theorem mk_len : ∀ (p : Nat) (l : List Pc), (mkW p l).length = l.length
  | _, [] => rfl
  | p, c :: l => by show (mkW _ l).length + 1 = _; rw [mk_len]; rfl
/-- What a shown query's text that is cut ahead of its word k is read as. -/
theorem cut_parse {q : Qy} (h : rightQ q = true) (hf : q.cond.Fits) (hl : ¬ 4096 < (showT q).length) (k : Nat) (hk : k + 1 < (wordsB (showT q)).1.length) : ∃ wd : Wd, (wordsB (showT q)).1[k]? = some wd ∧ wd.pos ≤ (showT q).length ∧
    (parseW ((showT q).take wd.pos) = (Qy0, 41, wd.pos) ∨ ∃ q', parseW ((showT q).take wd.pos) = (q', 0, 0) ∧ rightQ q' = true ∧ q'.table = q.table) := by
  have hR := rq_of h
  have hw := words_show hR hf (by omega)
  rw [hw] at hk ⊢
  simp only [List.length_append, mk_len, List.length_cons, List.length_nil] at hk
  obtain ⟨c, hc⟩ : ∃ c, (queryP q)[k]? = some c := ⟨_, List.getElem?_eq_getElem (by omega)⟩
  obtain ⟨a, h1, h2, h3, h4⟩ := take_text [] (queryP q) k 0 c hc
  have hM := (run_query hR hf).made
  refine ⟨⟨c.kind, c.text, 0 + a⟩, ?_, ?_, ?_⟩
  · show (mkW 0 (queryP q) ++ [_])[k]? = _
    rw [List.getElem?_append_left (by rw [mk_len]; omega)]
    exact h1
  · show 0 + a ≤ (txt [] (queryP q)).length
    have := congrArg List.length h3
    rw [← h2, List.length_take] at this
    omega
  · show parseW ((showT q).take (0 + a)) = (Qy0, 41, 0 + a) ∨ _
    rw [Nat.zero_add]
    have h3 : (showT q).take a = txt c.gap ((queryP q).take k) := h3
    obtain ⟨T, hT⟩ : ∃ T, (showT q).take a = T := ⟨_, rfl⟩
    have hTl : T.length ≤ 4096 := by rw [← hT, List.length_take]; omega
    have hTa : T.length = a := by rw [← hT, h3]; exact h2.symm
    have hwT : wordsB T = ((mkW 0 (queryP q)).take k ++ [⟨6, [], a⟩], 0, 0) := by
      rw [wordsB_scan _ hTl]
      have := scan_made ((queryP q).take k) c.gap 0 (hM.take k c hc)
      rw [← h3, hT, Nat.zero_add, hTa, h4] at this
      exact this
    show parseW ((showT q).take a) = (Qy0, 41, a) ∨ ∃ q', parseW ((showT q).take a) = (q', 0, 0) ∧ rightQ q' = true ∧ q'.table = q.table
    rw [hT]
    have hq := query_is hR hf (f := (mkW 0 (queryP q)).length) (r := mkW 0 (queryP q)) (e := ⟨6, [], (showT q).length⟩) rfl (is_mkW 0 _) (Nat.le_refl _)
    have hsplit : mkW 0 (queryP q) ++ [(⟨6, [], (showT q).length⟩ : Wd)] = (mkW 0 (queryP q)).take k ++ ((mkW 0 (queryP q)).drop k ++ [⟨6, [], (showT q).length⟩]) := by rw [← List.append_assoc, List.take_append_drop]
    rw [hsplit] at hq
    have hpr := parse_right T
    have hP : parseW T = endW (queryW ((mkW 0 (queryP q)).take k ++ [(⟨6, [], a⟩ : Wd)]).length ((mkW 0 (queryP q)).take k ++ [⟨6, [], a⟩]) false) := by
      unfold parseW
      rw [hwT]
      simp only [ne_eq, not_true_eq_false, if_false]
    rcases cut_query (f' := ((mkW 0 (queryP q)).take k ++ [(⟨6, [], a⟩ : Wd)]).length) (e := ⟨6, [], a⟩) (by simp) rfl hq with j | ⟨q', r', j1, j2, j3⟩
    · refine .inl ?_
      rw [hP, j]; rfl
    · refine .inr ⟨q', ?_⟩
      have e : parseW T = (q', 0, 0) := by
        rw [hP, j1]
        unfold endW
        have hd : ¬ 32 < depthW q'.cond := by
          have : depthW q.cond ≤ 32 := by
            rcases hR.cond with e | ⟨_, e⟩
            · rw [e]; decide
            · exact e
          omega
        simp only [Bool.false_eq_true, if_false, if_neg hd]
      rw [e] at hpr
      exact ⟨e, (hpr.2.1 rfl).1, j2⟩
end Go.Proofs.YtkcnbmgaeompjaaGreatDoor
