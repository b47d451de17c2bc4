/- Plain: what a thing does to a writer, by its bytes. -/
import Derived.Test.YtcncnponhhcjhaaK3
namespace Go.Proofs.Ytcncnponhhcjhaa
open Go.RowKit Go.Maps Go.Sort
set_option linter.unusedVariables false

/-- a writer that has X, and is told b more -/
def more (X b : List UInt8) : WS := if X.length + b.length > 65536 then ⟨[], 23⟩ else ⟨X ++ b, 0⟩
structure Puts (f : WS → WS) (b : List UInt8) : Prop where
  put : ∀ X : List UInt8, X.length ≤ 65536 → f ⟨X, 0⟩ = more X b
  stop : ∀ S : WS, S.fault ≠ 0 → f S = S
theorem Puts.then {f g : WS → WS} {a b : List UInt8} (hf : Puts f a) (hg : Puts g b) : Puts (fun S => g (f S)) (a ++ b) := by
  refine ⟨fun X hX => ?_, fun S h => by simp only [hf.stop S h, hg.stop S h]⟩
  simp only [hf.put X hX]
  unfold more
  rw [List.length_append]
  by_cases h : X.length + a.length > 65536
  · rw [if_pos h, if_pos (by omega)]; exact hg.stop _ (by decide)
  · rw [if_neg h, hg.put _ (by rw [List.length_append]; omega)]
    unfold more
    rw [List.length_append, List.append_assoc]
    have e : (X.length + a.length + b.length > 65536) = (X.length + (a.length + b.length) > 65536) := by rw [Nat.add_assoc]
    simp only [e]
theorem puts_lay (m : List UInt8) : Puts (fun S => S.lay m) m := ⟨fun X hX => by
  simp only [WS.lay, more, if_true]
  have e : (m.length + X.length > 65536) = (X.length + m.length > 65536) := by rw [Nat.add_comm]
  simp only [e], fun S h => WS.lay_stop h m⟩
theorem puts_count (n : Int) (h0 : 0 ≤ n) (h1 : n ≤ 4294967295) : Puts (fun S => S.count n) (low n.toNat 4) := ⟨fun X hX => by
  simp only [WS.count]
  rw [if_neg (by omega)]
  exact (puts_lay _).put X hX, fun S h => WS.count_stop h n⟩
theorem puts_text (s : List UInt8) (h : s.length ≤ 4294967295) : Puts (fun S => S.text s) (bText s) := by
  have := (puts_count (s.length : Int) (by omega) (by omega)).then (puts_lay s)
  exact this
theorem puts_fold {α : Type} {f : WS → α → WS} {b : α → List UInt8} : ∀ l : List α, (∀ x ∈ l, Puts (fun S => f S x) (b x)) → Puts (fun S => l.foldl f S) (l.flatMap b)
  | [], _ => ⟨fun X hX => by simp only [List.foldl, more, List.flatMap_nil, List.length_nil]; rw [if_neg (by omega)]; simp, fun S h => rfl⟩
  | x :: l, h => (h x (by simp)).then (puts_fold l fun y hy => h y (by simp [hy]))
theorem puts_row {α : Type} {f : WS → α → WS} {b : α → List UInt8} (l : List α) (hl : l.length ≤ 4294967295) (h : ∀ x ∈ l, Puts (fun S => f S x) (b x)) : Puts (fun S => S.row f l) (bRow b l) := by
  have := (puts_count (l.length : Int) (by omega) (by omega)).then (puts_fold l h)
  exact this
theorem puts_cell (c : CellP) (h : okCell c) : Puts (fun S => S.cell c) (bCell c) := by
  obtain ⟨hm, ht⟩ := h
  refine ⟨fun X hX => ?_, fun S h => WS.cell_stop h c⟩
  simp only [WS.cell, hm, if_true]
  unfold bCell
  by_cases h1 : c.kind = 1
  · rw [if_pos h1, if_pos h1]
    exact ((puts_lay (low 1 1)).then (puts_lay (enc8 c.int))).put X hX
  rw [if_neg h1, if_neg h1]
  by_cases h2 : c.kind = 2
  · rw [if_pos h2, if_pos h2]
    exact ((puts_lay (low 2 1)).then (puts_text c.text ht)).put X hX
  rw [if_neg h2, if_neg h2]
  exact (puts_lay (low 0 1)).put X hX
theorem puts_texts (l : List (List UInt8)) (h : okTexts l) : Puts (fun S => S.texts l) (bRow bText l) := puts_row l h.1 fun s hs => puts_text s (h.2 s hs)
theorem puts_fact (f : FactP) (h : okFact f) : Puts (fun S => S.fact f) (bFact f) :=
  (puts_texts f.dims h.1).then (puts_row f.meas h.2 fun n _ => puts_lay (enc8 n))
theorem puts_thing (t : ThingP) (h : okThing t) : Puts (fun S => S.thing t) (bThing t) := by
  unfold okThing at h
  unfold WS.thing bThing
  split at h
  · rename_i h0; simp only [h0, if_true]; exact puts_lay _
  rename_i h0; simp only [h0, if_false]
  split at h
  · rename_i h1; simp only [h1, if_true]; exact puts_lay _
  rename_i h1; simp only [h1, if_false]
  split at h
  · rename_i h2; simp only [h2, if_true]; exact puts_count _ h.1 h.2
  rename_i h2; simp only [h2, if_false]
  split at h
  · rename_i h3; simp only [h3, if_true]; exact puts_text _ h
  rename_i h3; simp only [h3, if_false]
  split at h
  · rename_i h4; simp only [h4, if_true]; exact puts_texts _ h
  rename_i h4; simp only [h4, if_false]
  split at h
  · rename_i h5; simp only [h5, if_true]; exact puts_cell _ h
  rename_i h5; simp only [h5, if_false]
  split at h
  · rename_i h6; simp only [h6, if_true]; exact puts_row _ h.1 fun c hc => puts_cell c (h.2 c hc)
  rename_i h6; simp only [h6, if_false]
  split at h
  · rename_i h7; simp only [h7, if_true]; exact puts_fact _ h
  rename_i h7; simp only [h7, if_false]
  split at h
  · rename_i h8; simp only [h8, if_true]; exact puts_row _ h.1 fun f hf => puts_fact f (h.2 f hf)
  rename_i h8; simp only [h8, if_false]
  exact (puts_texts _ h.1).then (puts_texts _ h.2)

/-! ### a thing that may not be -/
theorem fold_stop_ {cl : List CellP} {S : WS} (h : S.fault ≠ 0) : cl.foldl WS.cell S = S := fold_stop WS.cell (fun _ _ h => WS.cell_stop h _) h cl
theorem fold_spo : ∀ (cl : List CellP) (X : List UInt8), X.length ≤ 65536 → (∀ c ∈ cl, c.may = true → okCell c) → cl.all CellP.may = false → cl.foldl WS.cell ⟨X, 0⟩ = ⟨[], spo X.length cl⟩
  | [], X, _, _, h => by simp at h
  | c :: cl, X, hX, hok, h => by
    show cl.foldl WS.cell (WS.cell ⟨X, 0⟩ c) = _
    unfold spo
    rw [if_neg (by omega)]
    cases hm : c.may with
    | false =>
      have e : WS.cell ⟨X, 0⟩ c = ⟨[], 1⟩ := by simp [WS.cell, hm, WS.fail]
      rw [e, fold_stop_ (by decide)]
      simp
    | true =>
      have hrest : cl.all CellP.may = false := by simpa [hm] using h
      rw [show WS.cell ⟨X, 0⟩ c = more X (bCell c) from (puts_cell c (hok c (by simp) hm)).put X hX]
      simp only [if_true]
      unfold more
      by_cases hb : X.length + (bCell c).length > 65536
      · rw [if_pos hb, fold_stop_ (by decide)]
        cases cl with
        | nil => simp at hrest
        | cons d cl => unfold spo; rw [if_pos hb]
      · rw [if_neg hb, fold_spo cl _ (by rw [List.length_append]; omega) (fun d hd => hok d (by simp [hd])) hrest, List.length_append]
theorem spo_ne : ∀ (cl : List CellP) (m : Nat), spo m cl ≠ 0
  | [], m => by unfold spo; decide
  | c :: cl, m => by
    unfold spo
    split
    · decide
    · split
      · exact spo_ne cl _
      · decide
theorem spoilt_ne (m : Nat) (t : ThingP) : spoilt m t ≠ 0 := by
  unfold spoilt; split
  · exact spo_ne _ _
  · decide
/-- What is not too great for a Count. -/
structure Fits (t : ThingP) : Prop where
  s : okText t.s
  l : okTexts t.l
  c : t.cells.length ≤ 4294967295 ∧ ∀ c ∈ t.cells, c.may = true → okCell c
  f : t.facts.length ≤ 4294967295 ∧ ∀ f ∈ t.facts, okFact f
  m : okTexts t.meas
theorem Fits.one {t : ThingP} (h : Fits t) (hm : (one t.cells).may = true) : okCell (one t.cells) := by
  cases e : t.cells with
  | nil => exact ⟨by decide, by simp [okText, Go.Proofs.Ytcncnponhhcjhaa.one, CellP.zero]⟩
  | cons c cl => rw [e] at hm; exact h.c.2 c (by rw [e]; simp) hm
theorem Fits.any {t : ThingP} (h : Fits t) : okFact (any t.facts) := by
  cases e : t.facts with
  | nil => exact ⟨⟨by simp [Go.Proofs.Ytcncnponhhcjhaa.any, FactP.zero], by simp [Go.Proofs.Ytcncnponhhcjhaa.any, FactP.zero]⟩, by simp [Go.Proofs.Ytcncnponhhcjhaa.any, FactP.zero]⟩
  | cons c cl => exact h.f.2 c (by rw [e]; simp)
theorem Fits.ok {t : ThingP} (h : Fits t) (hb : okB t = true) : okThing t := by
  unfold okB at hb
  unfold okThing
  by_cases h0 : t.kind = 0
  · rw [if_pos h0]; trivial
  rw [if_neg h0]
  by_cases h1 : t.kind = 1
  · rw [if_pos h1]; trivial
  rw [if_neg h1]
  by_cases h2 : t.kind = 2
  · rw [if_pos h2] at hb ⊢; exact of_decide_eq_true hb
  rw [if_neg h2] at hb ⊢
  by_cases h3 : t.kind = 3
  · rw [if_pos h3]; exact h.s
  rw [if_neg h3]
  by_cases h4 : t.kind = 4
  · rw [if_pos h4]; exact h.l
  rw [if_neg h4]
  by_cases h5 : t.kind = 5
  · rw [if_pos h5] at hb ⊢; exact h.one hb
  rw [if_neg h5] at hb ⊢
  by_cases h6 : t.kind = 6
  · rw [if_pos h6] at hb ⊢; exact ⟨h.c.1, fun c hc => h.c.2 c hc (List.all_eq_true.1 hb c hc)⟩
  rw [if_neg h6]
  by_cases h7 : t.kind = 7
  · rw [if_pos h7]; exact h.any
  rw [if_neg h7]
  by_cases h8 : t.kind = 8
  · rw [if_pos h8]; exact h.f
  rw [if_neg h8]
  exact ⟨h.l, h.m⟩
theorem thing_spoilt {t : ThingP} (h : Fits t) (hb : okB t = false) (X : List UInt8) (hX : X.length ≤ 65536) : WS.thing ⟨X, 0⟩ t = ⟨[], spoilt X.length t⟩ := by
  unfold okB at hb
  unfold spoilt
  by_cases h2 : t.kind = 2
  · rw [if_pos h2] at hb
    have hn := of_decide_eq_false hb
    have e : WS.thing ⟨X, 0⟩ t = WS.count ⟨X, 0⟩ t.n := by unfold WS.thing; rw [if_neg (by omega), if_neg (by omega), if_pos h2]
    rw [e, if_neg (by omega)]
    unfold WS.count WS.fail
    rw [if_pos (by omega)]
    rfl
  rw [if_neg h2] at hb
  by_cases h5 : t.kind = 5
  · rw [if_pos h5] at hb
    have e : WS.thing ⟨X, 0⟩ t = WS.cell ⟨X, 0⟩ (one t.cells) := by unfold WS.thing; rw [if_neg (by omega), if_neg (by omega), if_neg (by omega), if_neg (by omega), if_neg (by omega), if_pos h5]
    rw [e, if_neg (by omega)]
    simp [WS.cell, hb, WS.fail]
  rw [if_neg h5] at hb
  by_cases h6 : t.kind = 6
  · rw [if_pos h6] at hb
    have e : WS.thing ⟨X, 0⟩ t = WS.cells ⟨X, 0⟩ t.cells := by unfold WS.thing; rw [if_neg (by omega), if_neg (by omega), if_neg (by omega), if_neg (by omega), if_neg (by omega), if_neg (by omega), if_pos h6]
    rw [e, if_pos h6]
    show t.cells.foldl WS.cell (WS.count ⟨X, 0⟩ (t.cells.length : Int)) = _
    have hc := h.c
    rw [show WS.count ⟨X, 0⟩ (t.cells.length : Int) = more X _ from (puts_count (t.cells.length : Int) (by omega) (by omega)).put X hX]
    unfold more
    rw [low_len]
    by_cases hg : X.length + 4 > 65536
    · rw [if_pos hg, fold_stop_ (by decide)]
      cases e : t.cells with
      | nil => rw [e] at hb; simp at hb
      | cons d cl => unfold spo; rw [if_pos hg]
    · rw [if_neg hg, fold_spo _ _ (by rw [List.length_append, low_len]; omega) hc.2 hb, List.length_append, low_len]
  rw [if_neg h6] at hb
  simp at hb

/-! ### what the law keeps -/
/-- A writer beside the bytes that are wanted, and the error. -/
def Sim (S : WS) (X : List UInt8) (E : Int) : Prop := (E = 0 ∧ S = ⟨X, 0⟩ ∧ X.length ≤ 65536) ∨ (E ≠ 0 ∧ S = ⟨[], E⟩)
theorem Sim.stop {S : WS} {X : List UInt8} {E : Int} (h : Sim S X E) (hE : E ≠ 0) (t : ThingP) : Sim (S.thing t) X E := by
  rcases h with ⟨e, _⟩ | ⟨_, rfl⟩
  · exact absurd e hE
  · exact .inr ⟨hE, WS.thing_stop hE t⟩
theorem Sim.spoil {S : WS} {X : List UInt8} (h : Sim S X 0) {t : ThingP} (hf : Fits t) (hb : okB t = false) : Sim (S.thing t) X (spoilt X.length t) := by
  rcases h with ⟨_, rfl, hX⟩ | ⟨e, _⟩
  · exact .inr ⟨spoilt_ne _ _, thing_spoilt hf hb X hX⟩
  · exact absurd rfl e
theorem Sim.len {S : WS} {X : List UInt8} (h : Sim S X 0) : X.length ≤ 65536 := by
  rcases h with ⟨_, rfl, hX⟩ | ⟨e, _⟩
  · exact hX
  · exact absurd rfl e
theorem Sim.big {S : WS} {X : List UInt8} (h : Sim S X 0) {t : ThingP} (hf : Fits t) (hb : okB t = true) (hg : (X ++ bThing t).length > 65536) : Sim (S.thing t) (X ++ bThing t) 23 := by
  rcases h with ⟨_, rfl, hX⟩ | ⟨e, _⟩
  · refine .inr ⟨by decide, ?_⟩
    rw [(puts_thing t (hf.ok hb)).put X hX]
    unfold more
    rw [List.length_append] at hg
    rw [if_pos hg]
  · exact absurd rfl e
theorem Sim.fine {S : WS} {X : List UInt8} (h : Sim S X 0) {t : ThingP} (hf : Fits t) (hb : okB t = true) (hg : ¬ (X ++ bThing t).length > 65536) : Sim (S.thing t) (X ++ bThing t) 0 := by
  rcases h with ⟨_, rfl, hX⟩ | ⟨e, _⟩
  · refine .inl ⟨rfl, ?_, by omega⟩
    rw [(puts_thing t (hf.ok hb)).put X hX]
    unfold more
    rw [List.length_append] at hg
    rw [if_neg hg]
  · exact absurd rfl e
end Go.Proofs.Ytcncnponhhcjhaa
