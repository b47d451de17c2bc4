/- What is read may be; where a fault stands: plain. -/
import Derived.Test.YtkcnbmgaeompjaaGreatDoorP12
import Derived.Test.YtkcnbmgaeompjaaGreatDoorP6
import Derived.Lib.ParseIntBTie
namespace Go.Proofs.YtkcnbmgaeompjaaGreatDoor
set_option linter.unusedVariables false

/-- Words that are right, and stand no further than N. -/
def Good (N : Nat) (r : List Wd) : Prop := ∀ x ∈ r, (x.kind = 6 ∨ Valid x.kind x.text) ∧ x.pos ≤ N
theorem Good.suf {N : Nat} {r r' : List Wd} (h : Good N r) (s : r' <:+ r) : Good N r' := fun x hx => h x (s.mem hx)
/-- What a reader of at most M words comes to. -/
def Rx (N M : Nat) {α : Type} (p : Pa α) (P : α → Prop) : Prop :=
  ∀ r b, r.length ≤ M → Ended r → Good N r → match p r b with
    | .ok a r' b' => Ended r' ∧ r' <:+ r ∧ (b' = false → b = false ∧ P a)
    | .bad c q => c ≠ 0 ∧ q ≤ N
section
variable {N M : Nat} {α β : Type}
theorem rx_zero {p : Pa α} {P : α → Prop} : Rx N 0 p P := fun r b hl he _ => by
  obtain ⟨x, l, rfl⟩ := he.cons
  simp at hl
theorem Rx.lower {M' : Nat} {p : Pa α} {P : α → Prop} (h : Rx N M p P) (hm : M' ≤ M) : Rx N M' p P := fun r b hl he hg => h r b (by omega) he hg
theorem Rx.mono {p : Pa α} {P Q : α → Prop} (h : Rx N M p P) (hq : ∀ a, P a → Q a) : Rx N M p Q := fun r b hl he hg => by
  have := h r b hl he hg
  cases hp : p r b with
  | ok a r1 b1 =>
    rw [hp] at this
    exact ⟨this.1, this.2.1, fun hb => ⟨(this.2.2 hb).1, hq a (this.2.2 hb).2⟩⟩
  | bad c q => rw [hp] at this; exact this
theorem rx_ok (a : α) {P : α → Prop} (h : P a) : Rx N M (fun r b => PR.ok a r b) P := fun r b hl he hg => ⟨he, List.suffix_refl _, fun hb => ⟨hb, h⟩⟩
theorem Rx.then {p : Pa α} {f : α → Pa β} {P : α → Prop} {Q : β → Prop} (hp : Rx N M p P) (hf : ∀ a, Rx N M (f a) fun c => P a → Q c) : Rx N M (fun r b => (p r b).then f) Q := fun r b hl he hg => by
  have h1 := hp r b hl he hg
  simp only [PR.then]
  cases hpr : p r b with
  | bad c q => rw [hpr] at h1; exact h1
  | ok a r1 b1 =>
    rw [hpr] at h1
    obtain ⟨e1, s1, k1⟩ := h1
    have h2 := hf a r1 b1 (Nat.le_trans s1.length_le hl) e1 (hg.suf s1)
    simp only
    cases hfr : f a r1 b1 with
    | bad c q => rw [hfr] at h2; exact h2
    | ok c r2 b2 =>
      rw [hfr] at h2
      obtain ⟨e2, s2, k2⟩ := h2
      refine ⟨e2, s2.trans s1, fun hb => ?_⟩
      obtain ⟨hb1, hq⟩ := k2 hb
      obtain ⟨hb0, hpa⟩ := k1 hb1
      exact ⟨hb0, hq hpa⟩
theorem Rx.map {p : Pa α} {f : α → β} {P : α → Prop} {Q : β → Prop} (hp : Rx N M p P) (h : ∀ a, P a → Q (f a)) : Rx N M (fun r b => (p r b).map f) Q :=
  Rx.then (f := fun a r m => .ok (f a) r m) hp fun a => rx_ok (f a) fun ha => h a ha
theorem rx_need {m : Wd → Bool} (hm : Inner m) : Rx N M (needW m) fun x => m x = true ∧ Valid x.kind x.text := fun r b hl he hg => by
  obtain ⟨x, l, rfl⟩ := he.cons
  have e : needW m (x :: l) b = if m x then PR.ok x l b else .bad 41 x.pos := rfl
  obtain ⟨g1, g2⟩ := hg x (by simp)
  rw [e]
  by_cases hx : m x = true
  · rw [if_pos hx]
    exact ⟨he.tail (hm _ hx), List.suffix_cons x l, fun hb => ⟨hb, hx, g1.resolve_left (hm _ hx)⟩⟩
  · rw [if_neg hx]
    exact ⟨by decide, g2⟩
theorem Rx.ite {p q : Pa α} {m : Wd → Bool} {P : α → Prop} (hm : Inner m) (hp : Rx N (M - 1) p P) (hq : Rx N M q P) : Rx N M (fun r b => if seesW m r then p r.tail b else q r b) P := fun r b hl he hg => by
  simp only
  by_cases hs : seesW m r = true
  · rw [if_pos hs]
    obtain ⟨i1, i2⟩ := he.sees hm hs
    have := hp r.tail b (by omega) i1 (hg.suf (List.tail_suffix r))
    cases hpr : p r.tail b with
    | ok a r1 b1 => rw [hpr] at this; exact ⟨this.1, this.2.1.trans (List.tail_suffix r), this.2.2⟩
    | bad c q => rw [hpr] at this; exact this
  · rw [if_neg hs]
    exact hq r b hl he hg
theorem Rx.ite0 {p q : Pa α} {m : Wd → Bool} {P : α → Prop} (hp : Rx N M p P) (hq : Rx N M q P) : Rx N M (fun r b => if seesW m r then p r b else q r b) P := fun r b hl he hg => by
  simp only
  by_cases hs : seesW m r = true
  · rw [if_pos hs]
    exact hp r b hl he hg
  · rw [if_neg hs]
    exact hq r b hl he hg
theorem rx_name : Rx N M nameW fun t => isNameB t = true := (rx_need (inner_of (by decide))).map fun x hx => by
  have hk : x.kind = 1 := by have := hx.1; unfold ofW at this; simpa using this
  have := hx.2
  rw [hk] at this
  exact isNameB_of this
theorem rx_all : ∀ ts : List Tx, Rx N M (allW ts) fun _ => True
  | [] => rx_ok () trivial
  | t :: ts => (rx_need (inner_says t)).then fun _ => (rx_all ts).mono fun _ _ _ => trivial
theorem rx_more {one : Pa α} {P : α → Prop} : ∀ (f M : Nat) (l : List α), M < f → Rx N M one P → Rx N M (moreW one f l) fun res => l.length ≤ res.length ∧ ((∀ a ∈ l, P a) → ∀ a ∈ res, P a)
  | 0, M, l, h, _ => absurd h (by omega)
  | f + 1, 0, l, _, _ => rx_zero
  | f + 1, M + 1, l, h, ho => Rx.ite (p := fun r b => (one r b).then fun a => moreW one f (l ++ [a])) (q := fun r b => .ok l r b) (inner_says _)
      ((ho.lower (by omega)).then fun a => (rx_more f M (l ++ [a]) (by omega) (ho.lower (by omega))).mono fun res hr hpa => ⟨by have := hr.1; rw [List.length_append] at this; omega, fun hl => hr.2 fun x hx => by
        rcases List.mem_append.1 hx with hx | hx
        · exact hl x hx
        · rw [List.mem_singleton.1 hx]; exact hpa⟩) (rx_ok l ⟨Nat.le_refl _, fun h => h⟩)
theorem rx_list {one : Pa α} {P : α → Prop} {most : Nat} (ho : Rx N M one P) : Rx N M (listW most one) fun l => 1 ≤ l.length ∧ l.length ≤ most ∧ ∀ a ∈ l, P a := fun r b hl he hg => by
  unfold listW
  simp only [PR.then]
  have h1 := ho r b hl he hg
  cases hpr : one r b with
  | bad c q => rw [hpr] at h1; exact h1
  | ok a r1 b1 =>
    rw [hpr] at h1
    obtain ⟨e1, s1, k1⟩ := h1
    have hl1 := Nat.le_trans s1.length_le hl
    have h2 := rx_more (N := N) (P := P) (one := one) (r1.length + 1) r1.length [a] (by omega) (ho.lower hl1) r1 b1 (Nat.le_refl _) e1 (hg.suf s1)
    simp only
    cases hfr : moreW one (r1.length + 1) [a] r1 b1 with
    | bad c q => rw [hfr] at h2; exact h2
    | ok l r2 b2 =>
      rw [hfr] at h2
      obtain ⟨e2, s2, k2⟩ := h2
      refine ⟨e2, s2.trans s1, fun hb => ?_⟩
      simp only [Bool.or_eq_false_iff, decide_eq_false_iff_not] at hb
      obtain ⟨hb1, q1, q2⟩ := k2 hb.1
      obtain ⟨hb0, hpa⟩ := k1 hb1
      exact ⟨hb0, by simpa using q1, by omega, q2 fun x hx => by rw [List.mem_singleton.1 hx]; exact hpa⟩
end
section
variable {N M : Nat}
theorem place_calls (t : Tx) : placeW callsT t ≤ 6 := by
  unfold placeW callsT
  simp only [idx]
  repeat' split
  all_goals omega
theorem place_signs (t : Tx) : placeW signsT t ≤ 6 := by
  unfold placeW signsT
  simp only [idx]
  repeat' split
  all_goals omega
theorem rx_item : Rx N M itemW fun i => rightI i = true := by
  refine Rx.ite0 (m := ofW 1) (p := fun r b => (nameW r b).map fun t => It.mk 1 t) (rx_name.map fun t ht => by simp [rightI, ht]) ?_
  refine Rx.then (p := needW (amongW callsT)) (rx_need (inner_among _)) fun x => ?_
  refine Rx.then (p := allW [[40]]) (rx_all _) fun _ => ?_
  by_cases h2 : placeW callsT x.text = 2
  · simp only [if_pos h2]
    exact (rx_all [[42], [41]]).map fun _ _ _ _ => rfl
  · simp only [if_neg h2]
    refine Rx.then rx_name fun t => (rx_all [[41]]).map fun _ _ ht _ hx => ?_
    have hp : 0 < placeW callsT x.text := by
      have := hx.1
      unfold amongW at this
      simp only [Bool.and_eq_true, decide_eq_true_eq] at this
      exact this.2
    have h6 := place_calls x.text
    unfold rightI
    simp only
    rw [if_neg (by omega)]
    simp only [Bool.and_eq_true, decide_eq_true_eq]
    exact ⟨⟨by omega, by omega⟩, ht⟩
theorem numW_fits {l : Tx} {n : Int} (h : numW l = some n) : -9223372036854775808 ≤ n ∧ n ≤ 9223372036854775807 := by
  unfold numW at h
  split at h
  · rename_i m hm
    cases h
    have := Lib.parseIntB_bounds hm
    simp at this
    omega
  · cases h
theorem rx_val : Rx N M valW fun v => rightV v = true ∧ v.Fits := by
  have key : ∀ (s : Tx) (M : Nat), Rx N M (fun r b => (needW (ofW 3) r b).then fun x r1 b1 => match numW (s ++ x.text) with | some n => PR.ok (Vl.mk false [] n) r1 b1 | none => .bad 45 x.pos) fun v => rightV v = true ∧ v.Fits := fun s M => by
    intro r b hl he hg
    obtain ⟨x, l, rfl⟩ := he.cons
    have e : needW (ofW 3) (x :: l) b = if ofW 3 x then PR.ok x l b else .bad 41 x.pos := rfl
    obtain ⟨g1, g2⟩ := hg x (by simp)
    simp only [PR.then, e]
    by_cases hx : ofW 3 x = true
    · simp only [if_pos hx]
      cases hn : numW (s ++ x.text) with
      | some n => exact ⟨he.tail (inner_of (by decide) _ hx), List.suffix_cons x l, fun hb => ⟨hb, rfl, numW_fits hn⟩⟩
      | none => exact ⟨by decide, g2⟩
    · simp only [if_neg hx]
      exact ⟨by decide, g2⟩
  refine Rx.ite0 (m := ofW 4) (p := fun r b => (needW (ofW 4) r b).map fun x => Vl.mk true x.text 0) ((rx_need (inner_of (by decide))).map fun x hx => ?_) ?_
  · have hk : x.kind = 4 := by have := hx.1; unfold ofW at this; simpa using this
    have hv := hx.2
    rw [hk] at hv
    rcases hv with h | h | h | h | h
    · omega
    · omega
    · omega
    · exact ⟨by simp [rightV, h.2], by unfold Vl.Fits; simp⟩
    · omega
  · intro r b hl he hg
    simp only
    cases hs : seesW (saysW [45]) r with
    | true =>
      obtain ⟨i1, i2⟩ := he.sees (inner_says _) hs
      have := key [45] M r.tail b (by omega) i1 (hg.suf (List.tail_suffix r))
      simp only at this
      simp only [if_true]
      generalize ((needW (ofW 3) r.tail b).then fun x r1 b1 => match numW ([45] ++ x.text) with | some n => PR.ok (Vl.mk false [] n) r1 b1 | none => .bad 45 x.pos) = z at *
      cases z with
      | ok a r1 b1 => exact ⟨this.1, this.2.1.trans (List.tail_suffix r), this.2.2⟩
      | bad c q => exact this
    | false => exact key [] M r b hl he hg
theorem rx_test : Rx N M testW fun c => c.Right ∧ c.Fits := by
  refine Rx.then (p := nameW) rx_name fun t => ?_
  refine Rx.ite (m := saysW [73, 78]) (p := fun r b => (allW [[40]] r b).then fun _ r2 b2 => (listW 64 valW r2 b2).then fun vs r3 b3 => (allW [[41]] r3 b3).map fun _ => Cd.node 5 .none .none t 0 vs) (inner_says _) ?_ ?_
  · refine Rx.then (rx_all _) fun _ => Rx.then (rx_list rx_val) fun vs => (rx_all _).map fun _ _ hvs _ ht => ?_
    obtain ⟨v1, v2, v3⟩ := hvs
    refine ⟨.inr (.inr ⟨rfl, rfl, ?_⟩), trivial, trivial, fun v hv => (v3 v hv).2⟩
    unfold testR
    rw [if_neg (by decide), if_pos rfl]
    simp only [Bool.and_eq_true, rightL_iff]
    exact ⟨⟨ht, rfl⟩, v1, v2, fun v hv => (v3 v hv).1⟩
  · refine Rx.then (rx_need (inner_among _)) fun x => rx_val.map fun v hv hx ht => ?_
    have hp : 0 < placeW signsT x.text := by
      have := hx.1
      unfold amongW at this
      simp only [Bool.and_eq_true, decide_eq_true_eq] at this
      exact this.2
    have h6 := place_signs x.text
    refine ⟨.inr (.inr ⟨rfl, rfl, ?_⟩), trivial, trivial, fun v' hv' => by rw [List.mem_singleton.1 hv']; exact hv.2⟩
    unfold testR
    rw [if_pos rfl]
    simp only [Bool.and_eq_true, rightL_iff, decide_eq_true_eq]
    exact ⟨⟨⟨ht, by omega⟩, by omega⟩, by simp, by simp, fun v' hv' => by rw [List.mem_singleton.1 hv']; exact hv.1⟩
abbrev RF (c : Cd) : Prop := c.Right ∧ c.Fits
theorem rx_link {k : Int} (hk : k = 1 ∨ k = 2) {kw : Tx} {one : Pa Cd} : ∀ (f M : Nat) (c : Cd), M < f → Rx N M one RF → Rx N M (linkW k kw one f c) fun d => RF c → RF d
  | 0, M, c, h, _ => absurd h (by omega)
  | f + 1, 0, c, _, _ => rx_zero
  | f + 1, M + 1, c, h, ho => Rx.ite (p := fun r b => (one r b).then fun d => linkW k kw one f (.node k c d [] 0 [])) (q := fun r b => .ok c r b) (inner_says _)
      ((ho.lower (by omega)).then fun d => (rx_link hk f M _ (by omega) (ho.lower (by omega))).mono fun e he hd hc => he ⟨.inl ⟨hk, rfl, rfl, rfl, hc.1, hd.1⟩, hc.2, hd.2, fun v hv => by cases hv⟩) (rx_ok c fun h => h)
theorem rx_chain {k : Int} (hk : k = 1 ∨ k = 2) {kw : Tx} {one : Pa Cd} (ho : Rx N M one RF) : Rx N M (chainW k kw one) RF := fun r b hl he hg => by
  unfold chainW
  simp only [PR.then]
  have h1 := ho r b hl he hg
  cases hpr : one r b with
  | bad c q => rw [hpr] at h1; exact h1
  | ok a r1 b1 =>
    rw [hpr] at h1
    obtain ⟨e1, s1, k1⟩ := h1
    have h2 := rx_link (N := N) hk (kw := kw) (one := one) (r1.length + 1) r1.length a (by omega) (ho.lower (Nat.le_trans s1.length_le hl)) r1 b1 (Nat.le_refl _) e1 (hg.suf s1)
    simp only
    cases hfr : linkW k kw one (r1.length + 1) a r1 b1 with
    | bad c q => rw [hfr] at h2; exact h2
    | ok d r2 b2 =>
      rw [hfr] at h2
      obtain ⟨e2, s2, k2⟩ := h2
      refine ⟨e2, s2.trans s1, fun hb => ?_⟩
      obtain ⟨hb1, hd⟩ := k2 hb
      obtain ⟨hb0, hc⟩ := k1 hb1
      exact ⟨hb0, hd hc⟩
theorem rx_not : ∀ (f M : Nat), M < f → Rx N M (notW f) RF
  | 0, M, h => absurd h (by omega)
  | f + 1, 0, _ => rx_zero
  | f + 1, M + 1, h => by
    have ih := rx_not f M (by omega)
    refine Rx.ite (m := saysW [78, 79, 84]) (p := fun r b => (notW f r b).map fun c => Cd.node 3 c .none [] 0 []) (inner_says _) ((ih.lower (by omega)).map fun c hc => ⟨.inr (.inl ⟨rfl, rfl, rfl, rfl, hc.1, rfl⟩), hc.2, trivial, fun v hv => by cases hv⟩) ?_
    refine Rx.ite (m := saysW [40]) (p := fun r b => (orW (notW f) r b).then fun c r1 b1 => (allW [[41]] r1 b1).map fun _ => c) (inner_says _) ?_ rx_test
    exact Rx.then (rx_chain (.inr rfl) (rx_chain (.inl rfl) (ih.lower (by omega)))) fun c => (rx_all _).map fun _ _ hc => hc
theorem rx_or {f : Nat} (h : M < f) : Rx N M (orW (notW f)) RF := rx_chain (.inr rfl) (rx_chain (.inl rfl) (rx_not f M h))
theorem rx_names : Rx N M namesW fun l => 1 ≤ l.length ∧ l.length ≤ 16 ∧ ∀ a ∈ l, isNameB a = true := Rx.then (rx_list rx_name) fun l => (rx_all _).map fun _ _ h => h
theorem rx_lst : Rx N M lstW fun l => 1 ≤ l.length ∧ l.length ≤ 16 ∧ ∀ a ∈ l, isNameB a = true := Rx.then (rx_all _) fun _ => rx_names.mono fun _ h _ => h
theorem rx_set : Rx N M setW fun l => l.length ≤ 16 ∧ ∀ a ∈ l, isNameB a = true := by
  refine Rx.ite0 (m := ofW 1) (p := fun r b => (nameW r b).map fun t => [t]) (rx_name.map fun t ht => ⟨by simp, fun a ha => by rw [List.mem_singleton.1 ha]; exact ht⟩) ?_
  exact Rx.then (rx_all _) fun _ => (Rx.ite (m := saysW [41]) (p := fun r b => .ok [] r b) (P := fun l => l.length ≤ 16 ∧ ∀ a ∈ l, isNameB a = true) (inner_says _) (rx_ok _ ⟨by simp, fun a ha => by cases ha⟩) (rx_names.mono fun _ h => ⟨h.2.1, h.2.2⟩)).mono fun _ h _ => h
theorem rx_elt : Rx N M eltW fun e => rightG e = true := by
  refine Rx.ite0 (m := ofW 1) (p := fun r b => (nameW r b).map fun t => Gp.mk 1 [t] []) (rx_name.map fun t ht => by simp [rightG, rightL, ht]) ?_
  refine Rx.ite (m := saysW [82, 79, 76, 76, 85, 80]) (p := fun r b => (lstW r b).map fun l => Gp.mk 2 l []) (inner_says _) (rx_lst.map fun l hl => ?_) ?_
  · unfold rightG
    simp only
    rw [if_neg (by decide), if_pos (.inl trivial)]
    simp only [Bool.and_eq_true, rightL_iff]
    exact ⟨rfl, hl⟩
  refine Rx.ite (m := saysW [67, 85, 66, 69]) (p := fun r b => (lstW r b).map fun l => Gp.mk 3 l []) (inner_says _) (rx_lst.map fun l hl => ?_) ?_
  · unfold rightG
    simp only
    rw [if_neg (by decide), if_pos (.inr trivial)]
    simp only [Bool.and_eq_true, rightL_iff]
    exact ⟨rfl, hl⟩
  exact Rx.then (rx_all _) fun _ => Rx.then (rx_list rx_set) fun ss => (rx_all _).map fun _ _ hs _ => by
    unfold rightG
    simp only
    rw [if_neg (by decide), if_neg (by decide), if_pos trivial]
    simp only [Bool.and_eq_true, rightL_iff]
    exact ⟨rfl, hs.1, hs.2.1, fun s h => ⟨Nat.zero_le _, hs.2.2 s h⟩⟩
/-- A reader that goes over the end as well. -/
def Rz (N M : Nat) {α : Type} (p : Pa α) (P : α → Prop) : Prop :=
  ∀ r b, r.length ≤ M → Ended r → Good N r → match p r b with
    | .ok a _ b' => b' = false → b = false ∧ P a
    | .bad c q => c ≠ 0 ∧ q ≤ N
theorem Rx.thenZ {α β : Type} {p : Pa α} {f : α → Pa β} {P : α → Prop} {Q : β → Prop} (hp : Rx N M p P) (hf : ∀ a, Rz N M (f a) fun c => P a → Q c) : Rz N M (fun r b => (p r b).then f) Q := fun r b hl he hg => by
  have h1 := hp r b hl he hg
  simp only [PR.then]
  cases hpr : p r b with
  | bad c q => rw [hpr] at h1; exact h1
  | ok a r1 b1 =>
    rw [hpr] at h1
    obtain ⟨e1, s1, k1⟩ := h1
    have h2 := hf a r1 b1 (Nat.le_trans s1.length_le hl) e1 (hg.suf s1)
    simp only
    cases hfr : f a r1 b1 with
    | bad c q => rw [hfr] at h2; exact h2
    | ok c r2 b2 =>
      rw [hfr] at h2
      intro hb
      obtain ⟨hb1, hq⟩ := h2 hb
      obtain ⟨hb0, hpa⟩ := k1 hb1
      exact ⟨hb0, hq hpa⟩
theorem rz_end {α : Type} (a : α) {P : α → Prop} (h : P a) : Rz N M (fun r b => (needW (ofW 6) r b).map fun _ => a) P := fun r b hl he hg => by
  obtain ⟨x, l, rfl⟩ := he.cons
  have e : needW (ofW 6) (x :: l) b = if ofW 6 x then PR.ok x l b else .bad 41 x.pos := rfl
  simp only [PR.map, PR.then, e]
  by_cases hx : ofW 6 x = true
  · rw [if_pos hx]
    exact fun hb => ⟨hb, h⟩
  · rw [if_neg hx]
    exact ⟨by decide, (hg x (by simp)).2⟩
/-- What is read, but for how deep and how great its condition is. -/
def QR (q : Qy) : Prop := rightL q.items 1 16 rightI = true ∧ isNameB q.table = true ∧ (q.cond = .none ∨ RF q.cond) ∧ rightGs q = true
theorem rz_query : ∀ f : Nat, 0 < f → Rz N f (queryW f) QR
  | 0, h => absurd h (by omega)
  | f + 1, _ => by
    have hc : Rx N (f + 1) (fun r b => if seesW (saysW [87, 72, 69, 82, 69]) r then orW (notW (f + 1)) r.tail b else .ok .none r b) fun c => c = .none ∨ RF c :=
      Rx.ite (m := saysW [87, 72, 69, 82, 69]) (p := fun r b => orW (notW (f + 1)) r b) (inner_says _) ((rx_or (by omega)).mono fun c h => .inr h) (rx_ok _ (.inl rfl))
    have hg : Rx N (f + 1) (fun r b => if seesW (saysW [71, 82, 79, 85, 80]) r then (allW [[66, 89]] r.tail b).then fun _ r6 b6 => (listW 16 eltW r6 b6).map fun g => (true, g) else .ok (false, []) r b) fun g : Bool × List Gp => if g.1 then rightL g.2 1 16 rightG = true else g.2 = [] :=
      Rx.ite (m := saysW [71, 82, 79, 85, 80]) (p := fun r b => (allW [[66, 89]] r b).then fun _ r6 b6 => (listW 16 eltW r6 b6).map fun g => (true, g)) (inner_says _) (Rx.then (rx_all _) fun _ => (rx_list rx_elt).map fun l hl _ => by
        simp only [if_true, rightL_iff]
        exact hl) (rx_ok _ rfl)
    refine Rx.thenZ (rx_all _) fun _ => Rx.thenZ (rx_list rx_item) fun is => Rx.thenZ (rx_all _) fun _ => Rx.thenZ rx_name fun t => Rx.thenZ hc fun c => Rx.thenZ hg fun g => rz_end _ ?_
    intro h1 h2 h3 _ h5 _
    refine ⟨by rw [rightL_iff]; exact h5, h3, h2, ?_⟩
    unfold rightGs
    simp only
    cases hg1 : g.1 with
    | true => rw [hg1] at h1; simpa using h1
    | false => rw [hg1] at h1; simp at h1; simp [h1]
end
theorem right_of : ∀ (c : Cd) (deep n : Nat), c.Right → depthW c ≤ deep → sizeW c ≤ n → rightC c deep n = some (n - sizeW c)
  | .none, _, _, h, _, _ => h.elim
  | .node k l r col op vals, deep, n, h, hd, hn => by
    unfold depthW at hd
    unfold sizeW at hn ⊢
    unfold rightC
    rw [if_neg (by omega)]
    rcases h with ⟨hk, rfl, rfl, rfl, hl, hr⟩ | ⟨hk, rfl, rfl, rfl, hl, rfl⟩ | ⟨rfl, rfl, ht⟩
    · have i1 := right_of l (deep - 1) (n - 1) hl (by omega) (by omega)
      have i2 := right_of r (deep - 1) (n - 1 - sizeW l) hr (by omega) (by omega)
      rw [if_pos hk, if_pos (by rfl), i1]
      show rightC r (deep - 1) (n - 1 - sizeW l) = _
      rw [i2]
      congr 1
      omega
    · have i1 := right_of l (deep - 1) (n - 1) hl (by omega) (by have : sizeW .none = 0 := rfl; omega)
      subst hk
      rw [if_neg (by decide), if_pos rfl, if_pos ⟨by rfl, rfl⟩, i1]
      congr 1
      have : sizeW .none = 0 := rfl
      omega
    · have hk := testR_kind ht
      rw [if_neg (by omega), if_neg (by omega), if_pos ⟨rfl, rfl, ht⟩]
      rfl
/-- What the words of a text weigh together. -/
theorem mk_wsum : ∀ (l : List Pc) (z : Tx) (p : Nat), Made z l → wsum (mkW p l) ≤ (txt z l).length ∧ Good (p + (txt z l).length) (mkW p l)
  | [], _, _, _ => ⟨by simp [mkW, wsum], fun x hx => by cases hx⟩
  | c :: l, z, p, ⟨h1, h2, h3, h4, h5, h6⟩ => by
    have e : (txt z (c :: l)).length = c.gap.length + c.x.length + (txt z l).length := by simp [txt]; omega
    obtain ⟨i1, i2⟩ := mk_wsum l z (p + c.gap.length + c.x.length) h6
    have hx1 : 1 ≤ c.x.length := by
      rcases hx : c.x with _ | ⟨b, x⟩
      · exact absurd hx h4
      · simp
    have hw : wgt (c.wd p) ≤ c.x.length := by
      show wgt ⟨c.kind, c.text, p + c.gap.length⟩ ≤ c.x.length
      unfold wgt
      split
      · omega
      · split
        · rename_i hh
          have h7 := h3.len
          have h8 := wrB_len c.kind c.text
          simp only [Bool.and_eq_true, Bool.or_eq_true, beq_iff_eq] at hh
          have : 2 ≤ c.text.length := by rcases hh.2 with (h | h) | h <;> rw [h] <;> decide
          omega
        · exact hx1
    refine ⟨?_, fun x hx => ?_⟩
    · show wsum (_ :: mkW _ l) ≤ _
      rw [wsum_cons]
      have : wsum (mkW (p + c.gap.length + c.x.length) l) ≤ (txt z l).length := i1
      have hw' := hw
      omega
    · rcases List.mem_cons.1 hx with rfl | hx
      · exact ⟨.inr h2, by show p + c.gap.length ≤ _; omega⟩
      · have := i2 x hx
        exact ⟨this.1, by omega⟩
theorem words_fault {r : Tx} (h : (wordsB r).2.1 ≠ 0) : ((wordsB r).2.1 = 40 ∨ (wordsB r).2.1 = 45) ∧ (wordsB r).2.2 ≤ r.length ∧ (wordsB r).1 = [] := by
  by_cases hl : 4096 < r.length
  · have e : wordsB r = ([], 45, 0) := by unfold wordsB; rw [if_pos hl]
    rw [e]
    exact ⟨.inr rfl, Nat.zero_le _, rfl⟩
  · rw [wordsB_scan r (by omega)] at h ⊢
    have := scan_fault r.length r 0 (Nat.le_refl _) h
    simpa using this
/-- What is read of a text may be; a fault stands within it. -/
theorem parse_right (t : Tx) : (parseW t).2.2 ≤ t.length ∧ ((parseW t).2.1 = 0 → rightQ (parseW t).1 = true ∧ (parseW t).1.cond.Fits ∧ (parseW t).2.2 = 0) ∧ ((parseW t).2.1 ≠ 0 → (parseW t).1 = Qy0) := by
  unfold parseW
  split
  · rename_i h
    exact ⟨(words_fault h).2.1, fun e => absurd e h, fun _ => rfl⟩
  · rename_i h
    have h0 : (wordsB t).2.1 = 0 := by simpa using h
    obtain ⟨ws, f, hw⟩ : ∃ ws f, wordsB t = (ws, 0, f) := ⟨(wordsB t).1, (wordsB t).2.2, by rw [← h0]⟩
    rw [hw]
    simp only
    have hen := (words_ended hw).1
    obtain ⟨h1, h2, l, z, h3, h4, h5⟩ := made_words hw
    obtain ⟨i1, i2⟩ := mk_wsum l z 0 h4
    rw [← h3] at i1 i2
    have hgood : Good t.length ws := fun x hx => by
      rw [h5] at hx
      rcases List.mem_append.1 hx with hx | hx
      · have := i2 x hx
        exact ⟨this.1, by omega⟩
      · rw [List.mem_singleton.1 hx]
        exact ⟨.inl rfl, Nat.le_refl _⟩
    have hsum : wsum ws ≤ 4096 := by
      rw [h5]
      unfold wsum at i1 ⊢
      rw [List.map_append, List.sum_append]
      have : (List.map wgt [⟨6, [], t.length⟩]).sum = 0 := rfl
      omega
    have hpos : 0 < ws.length := by rw [h5]; simp
    have hq := rz_query (N := t.length) ws.length hpos ws false (Nat.le_refl _) hen hgood
    cases hqr : queryW ws.length ws false with
    | bad c p =>
      rw [hqr] at hq
      exact ⟨hq.2, fun e => absurd e hq.1, fun _ => rfl⟩
    | ok q r' m =>
      rw [hqr] at hq
      have hsz := query_size2 hen hqr
      simp only [endW]
      cases m with
      | true => exact ⟨by simp, fun e => by simp at e, fun _ => by simp⟩
      | false =>
        simp only [Bool.false_eq_true, if_false]
        by_cases hd : 32 < depthW q.cond
        · rw [if_pos hd]
          exact ⟨Nat.zero_le _, fun e => absurd e (by decide), fun _ => rfl⟩
        · rw [if_neg hd]
          obtain ⟨k1, k2, k3, k4⟩ := (hq rfl).2
          refine ⟨Nat.zero_le _, fun _ => ⟨?_, ?_, rfl⟩, fun e => absurd rfl e⟩
          · unfold rightQ
            simp only [Bool.and_eq_true, Bool.or_eq_true, decide_eq_true_eq]
            refine ⟨⟨⟨k1, k2⟩, ?_⟩, k4⟩
            rcases k3 with k3 | k3
            · exact .inl k3
            · right
              rw [right_of q.cond 32 2048 k3.1 (by omega) (by omega)]
              rfl
          · rcases k3 with k3 | k3
            · rw [k3]; trivial
            · exact k3.2
end Go.Proofs.YtkcnbmgaeompjaaGreatDoor
