/- Words written one behind the other with other blanks, plain. -/
import Derived.Test.YtaaleodffghbdaaDoorD3
namespace Go.Proofs.YtaaleodffghbdaaDoor
set_option linter.unusedVariables false

def padN : Nat → Tx
  | 0 => [32]
  | 1 => [10]
  | 2 => [9, 32]
  | _ => [32, 13, 10, 32, 32]
theorem padN_blank (m : Nat) : Blank (padN m) := by
  intro b hb
  match m with
  | 0 => simp [padN] at hb; subst hb; rfl
  | 1 => simp [padN] at hb; subst hb; rfl
  | 2 => simp [padN] at hb; rcases hb with rfl | rfl <;> rfl
  | _ + 3 => simp [padN] at hb; rcases hb with rfl | rfl | rfl | rfl <;> rfl
theorem padN_len (m : Nat) : 1 ≤ (padN m).length ∧ (padN m).length ≤ 5 := by
  match m with
  | 0 => simp [padN]
  | 1 => simp [padN]
  | 2 => simp [padN]
  | _ + 3 => simp [padN]
theorem wrB_len (k : Nat) (t : Tx) (h : t.length ≤ 8192) : (wrB k t).length ≤ 19000 := by
  unfold wrB
  split
  · have := (quoteB_len t).2; omega
  · omega
theorem txt_snoc (c : Pc) : ∀ ps : List Pc, txt [] (ps ++ [c]) = txt [] ps ++ c.gap ++ c.x
  | [] => by simp [txt]
  | d :: ps => by
    show d.gap ++ (d.x ++ txt [] (ps ++ [c])) = d.gap ++ (d.x ++ txt [] ps) ++ c.gap ++ c.x
    rw [txt_snoc c ps]; simp
theorem mkW_snoc (c : Pc) : ∀ (ps : List Pc) (p : Nat), mkW p (ps ++ [c]) = mkW p ps ++ [c.wd (p + (txt [] ps).length)]
  | [], p => rfl
  | d :: ps, p => by
    show d.wd p :: mkW _ (ps ++ [c]) = _
    rw [mkW_snoc c ps]
    show _ = d.wd p :: (mkW (p + d.gap.length + d.x.length) ps ++ [c.wd (p + (d.gap ++ (d.x ++ txt [] ps)).length)])
    rw [List.length_append, List.length_append]
    rw [show p + d.gap.length + d.x.length + (txt [] ps).length = p + (d.gap.length + (d.x.length + (txt [] ps).length)) by omega]
theorem mkW_len : ∀ (ps : List Pc) (p : Nat), (mkW p ps).length = ps.length
  | [], _ => rfl
  | _ :: ps, p => congrArg Nat.succ (mkW_len ps _)
theorem mkW_at : ∀ (ps : List Pc) (p j : Nat) (c : Pc), ps[j]? = some c → ∃ q, (mkW p ps)[j]? = some ⟨c.kind, c.text, q⟩
  | [], _, j, c, h => by simp at h
  | d :: ps, p, 0, c, h => by
    have e : d = c := by simpa using h
    subst e
    exact ⟨_, rfl⟩
  | d :: ps, p, j + 1, c, h => by
    obtain ⟨q, hq⟩ := mkW_at ps _ j c (by simpa using h)
    exact ⟨q, hq⟩
theorem made_valid : ∀ (l : List Pc) (z : Tx) (p : Nat), Made z l → ∀ x ∈ mkW p l, Valid x.kind x.text
  | [], z, p, h, x, hx => by simp [mkW] at hx
  | c :: l, z, p, ⟨_, h2, _, _, _, h6⟩, x, hx => by
    rcases List.mem_cons.1 hx with rfl | hx
    · exact h2
    · exact made_valid l z _ h6 x hx
theorem words_split {r : Tx} {ws : List Wd} {f : Nat} (h : wordsB r = (ws, 0, f)) : r.length ≤ 4096 ∧ ∃ tl, ws = tl ++ [⟨6, [], r.length⟩] ∧ ∀ x ∈ tl, Valid x.kind x.text := by
  obtain ⟨h1, h2, l, z, h3, h4, h5⟩ := made_words h
  exact ⟨h1, _, h5, made_valid l z 0 h4⟩
theorem valid_ne {k : Nat} {t : Tx} (h : Valid k t) : wrB k t ≠ [] := by
  unfold wrB
  rcases h with ⟨rfl, h1, _⟩ | ⟨rfl, h1⟩ | ⟨rfl, h1, _⟩ | ⟨rfl, h1⟩ | ⟨rfl, h1⟩
  · rw [if_neg (by decide)]; rintro rfl; exact absurd (show 6 = 2 from h1) (by decide)
  · rw [if_neg (by decide)]; exact kws_ne h1
  · rw [if_neg (by decide)]; exact h1
  · rw [if_pos rfl]; simp [quoteB]
  · rw [if_neg (by decide)]; rintro rfl; exact absurd h1 (by decide)
theorem valid_stands {k : Nat} {t : Tx} (h : Valid k t) : Stands k t (wrB k t) := by
  refine ⟨fun _ => rfl, fun h2 => ?_⟩
  subst h2
  unfold wrB
  rw [if_neg (by decide)]
  rcases h with ⟨h, _⟩ | ⟨_, h1⟩ | ⟨h, _⟩ | ⟨h, _⟩ | ⟨h, _⟩
  · cases h
  · exact kws_cap t h1
  · cases h
  · cases h
  · cases h
theorem blank_stops {b : UInt8} (h : isBla b = true) : goB b = false ∧ b ≠ 39 ∧ b ≠ 62 ∧ b ≠ 61 :=
  all_bytes (p := fun b => isBla b = true → goB b = false ∧ b ≠ 39 ∧ b ≠ 62 ∧ b ≠ 61) (by decide +kernel) b h
theorem stops_blank {k : Nat} {t y : Tx} (h : ∀ b, y.head? = some b → isBla b = true) : Stops k t y := fun b hb => by
  obtain ⟨h1, h2, h3, h4⟩ := blank_stops (h b hb)
  exact ⟨fun _ => h1, fun _ => h2, fun _ _ => ⟨h3, h4⟩, fun _ _ => h4⟩
structure SpI (ws : List Wd) (i : Nat) (ps : List Pc) : Prop where
  len : ps.length = i
  at_ : ∀ (j : Nat) (c : Pc), ps[j]? = some c → ∃ x m, ws[j]? = some x ∧ c = ⟨padN m, x.kind, x.text, wrB x.kind x.text⟩
  sz : (txt [] ps).length ≤ i * 20000
theorem SpI.nil (ws : List Wd) : SpI ws 0 [] := ⟨rfl, fun j c h => by simp at h, Nat.le_refl _⟩
theorem SpI.next {ws : List Wd} {i : Nat} {ps : List Pc} (h : SpI ws i ps) {x : Wd} (hx : ws[i]? = some x) (ht : x.text.length ≤ 8192) (m : Nat) : SpI ws (i + 1) (ps ++ [⟨padN m, x.kind, x.text, wrB x.kind x.text⟩]) where
  len := by simp [h.len]
  at_ := fun j c hj => by
    rcases Nat.lt_or_ge j ps.length with hlt | hge
    · rw [List.getElem?_append_left hlt] at hj
      exact h.at_ j c hj
    · rw [List.getElem?_append_right hge] at hj
      have e : j - ps.length = 0 := by
        have := (List.getElem?_eq_some_iff.1 hj).1
        simp at this; omega
      rw [e] at hj
      have hc := Option.some.inj (show some _ = some c from hj)
      have hji : j = i := by have := h.len; omega
      subst hji
      exact ⟨x, m, hx, hc.symm⟩
  sz := by
    rw [txt_snoc, List.length_append, List.length_append]
    have h1 := (padN_len m).2
    have h2 := wrB_len x.kind x.text ht
    have h3 := h.sz
    show _ + (padN m).length + (wrB x.kind x.text).length ≤ _
    rw [Nat.succ_mul]
    omega
theorem made_of : ∀ ps : List Pc, (∀ c ∈ ps, Blank c.gap ∧ c.gap ≠ [] ∧ Valid c.kind c.text ∧ Stands c.kind c.text c.x ∧ c.x ≠ []) → Made [] ps
  | [], _ => fun b hb => by cases hb
  | c :: ps, h => by
    obtain ⟨h1, h2, h3, h4, h5⟩ := h c (by simp)
    refine ⟨h1, h3, h4, h5, stops_blank fun b hb => ?_, made_of ps fun d hd => h d (by simp [hd])⟩
    cases ps with
    | nil => cases hb
    | cons d ps =>
      obtain ⟨g1, g2, _⟩ := h d (by simp)
      cases hd : d.gap with
      | nil => exact absurd hd g2
      | cons a g =>
        have : (txt [] (d :: ps)).head? = some a := by show (d.gap ++ _).head? = _; rw [hd]; rfl
        rw [this] at hb
        cases hb
        exact g1 b (by rw [hd]; simp)
theorem SpI.made {ws tl : List Wd} {e : Wd} {ps : List Pc} (h : SpI ws tl.length ps) (hw : ws = tl ++ [e]) (hv : ∀ x ∈ tl, Valid x.kind x.text) : Made [] ps := by
  refine made_of ps fun c hc => ?_
  obtain ⟨j, hj, e1⟩ := List.mem_iff_getElem.1 hc
  obtain ⟨x, m, hx, rfl⟩ := h.at_ j c (by rw [List.getElem?_eq_getElem hj, e1])
  have hjl : j < tl.length := by have := h.len; omega
  rw [hw, List.getElem?_append_left hjl] at hx
  have hxv := hv x (List.mem_of_getElem? hx)
  refine ⟨padN_blank m, fun e => ?_, hxv, valid_stands hxv, valid_ne hxv⟩
  have h1 := (padN_len m).1
  have e : padN m = [] := e
  rw [e] at h1; cases h1
/-- The words of the text so made. -/
theorem SpI.words {ws tl : List Wd} {e : Wd} {ps : List Pc} (h : SpI ws tl.length ps) (hw : ws = tl ++ [e]) (hv : ∀ x ∈ tl, Valid x.kind x.text) :
    wordsB (txt [] ps) = if 4096 < (txt [] ps).length then ([], 45, 0) else (mkW 0 ps ++ [⟨6, [], (txt [] ps).length⟩], 0, 0) := by
  by_cases hl : 4096 < (txt [] ps).length
  · rw [if_pos hl]; unfold wordsB; rw [if_pos hl]
  · rw [if_neg hl, wordsB_scan _ (by omega), scan_made ps [] 0 (h.made hw hv), Nat.zero_add]
end Go.Proofs.YtaaleodffghbdaaDoor
