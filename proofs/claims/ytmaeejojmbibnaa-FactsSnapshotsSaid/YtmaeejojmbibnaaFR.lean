/- Rows of things that came in, or that were told: texts, numbers, facts. -/
import Derived.Test.YtmaeejojmbibnaaF4
namespace Go.Proofs.Ytmaeejojmbibnaa
open Go.RowKit Go.Maps
set_option linter.unusedVariables false

theorem cell_of_heap {w w' : World} {g o : Nat} (h : w'.heap[g]? = w.heap[g]?) : w'.cell? ⟨g, o, none⟩ = w.cell? ⟨g, o, none⟩ := by
  simp [World.cell?, h]
/-- v reads as l: elements of so many cells, in blocks of which K speaks. -/
def RowE {α : Type} (K : Nat → Prop) (w : World) (size : Nat) (E : α → List Value → Prop) (v : Value) (l : List α) : Prop :=
  ∃ A c, v = .slice A l.length c ∧ l.length ≤ maxLen ∧ (0 < l.length → ∃ g off, A = some ⟨g, off, none⟩ ∧ K g ∧ g < w.heap.size ∧ ∀ j (h : j < l.length), ∃ cs : List Value, cs.length = size ∧ (∀ i, i < size → w.cell? ⟨g, off + j * size + i, none⟩ = cs[i]?) ∧ E l[j] cs)
theorem RowE.of {α : Type} {K K' : Nat → Prop} {w w' : World} {size : Nat} {E E' : α → List Value → Prop} {v : Value} {l : List α} (h : RowE K w size E v l) (hs : w.heap.size ≤ w'.heap.size) (hk : ∀ k, K k → k < w.heap.size → K' k ∧ w'.heap[k]? = w.heap[k]?) (hE : ∀ x ∈ l, ∀ cs, E x cs → E' x cs) : RowE K' w' size E' v l := by
  obtain ⟨A, c, e, hm, h⟩ := h
  refine ⟨A, c, e, hm, fun hl => ?_⟩
  obtain ⟨g, off, e1, hg, hlt, h⟩ := h hl
  refine ⟨g, off, e1, (hk g hg hlt).1, Nat.lt_of_lt_of_le hlt hs, fun j hj => ?_⟩
  obtain ⟨cs, h1, h2, h3⟩ := h j hj
  exact ⟨cs, h1, fun i hi => by rw [cell_of_heap (hk g hg hlt).2]; exact h2 i hi, hE _ (List.getElem_mem _) _ h3⟩
theorem RowE.nil {α : Type} (K : Nat → Prop) (w : World) (size : Nat) (E : α → List Value → Prop) (c : Nat) : RowE K w size E (.slice none 0 c) [] := ⟨none, c, rfl, by simp, fun h => absurd h (by simp)⟩
theorem RowE.slice {α : Type} {K : Nat → Prop} {w : World} {size : Nat} {E : α → List Value → Prop} {v : Value} {l : List α} (h : RowE K w size E v l) : ∃ A c, v = .slice A l.length c := by
  obtain ⟨A, c, e, _⟩ := h
  exact ⟨A, c, e⟩
/-- An element's cells. -/
theorem RowE.at_ {α : Type} {K : Nat → Prop} {w : World} {size : Nat} {E : α → List Value → Prop} {v : Value} {l : List α} (h : RowE K w size E v l) (hl : 0 < l.length) :
    ∃ g off c, v = .slice (some ⟨g, off, none⟩) l.length c ∧ K g ∧ g < w.heap.size ∧ ∀ j (h : j < l.length), ∃ cs : List Value, cs.length = size ∧ (∀ i, i < size → w.cell? ⟨g, off + j * size + i, none⟩ = cs[i]?) ∧ E l[j] cs := by
  obtain ⟨A, c, e, hm, h⟩ := h
  obtain ⟨g, off, rfl, hg, hlt, h⟩ := h hl
  exact ⟨g, off, c, e, hg, hlt, h⟩

def strE (s : Tx) (cs : List Value) : Prop := cs = [encT s] ∧ s.length ≤ maxLen
def intE (n : Int) (cs : List Value) : Prop := cs = [.int .i64 n] ∧ i64 n
def factE (K : Nat → Prop) (w : World) (f : FactP) (cs : List Value) : Prop := ∃ dv mv, cs = [dv, mv] ∧ RowE K w 1 strE dv f.dims ∧ RowE K w 1 intE mv f.meas
theorem factE.of {K K' : Nat → Prop} {w w' : World} {f : FactP} {cs : List Value} (h : factE K w f cs) (hs : w.heap.size ≤ w'.heap.size) (hk : ∀ k, K k → k < w.heap.size → K' k ∧ w'.heap[k]? = w.heap[k]?) : factE K' w' f cs := by
  obtain ⟨dv, mv, e, h1, h2⟩ := h
  exact ⟨dv, mv, e, h1.of hs hk fun _ _ _ h => h, h2.of hs hk fun _ _ _ h => h⟩
/-- A row of facts. -/
abbrev Facts (K : Nat → Prop) (w : World) (v : Value) (l : List FactP) : Prop := RowE K w 2 (factE K w) v l
theorem Facts.of {K K' : Nat → Prop} {w w' : World} {v : Value} {l : List FactP} (h : Facts K w v l) (hs : w.heap.size ≤ w'.heap.size) (hk : ∀ k, K k → k < w.heap.size → K' k ∧ w'.heap[k]? = w.heap[k]?) : Facts K' w' v l :=
  RowE.of h hs hk fun _ _ _ h => h.of hs hk
theorem Facts.fr {K : Nat → Prop} {w w' : World} {v : Value} {l : List FactP} (h : Facts K w v l) {F : Nat → Prop} (hf : Fr F w w') (hF : ∀ k, F k → ¬ K k) : Facts K w' v l :=
  h.of hf.size fun k hk hlt => ⟨hk, hf.block k hlt fun hx => hF k hx hk⟩
theorem Facts.keep {K : Nat → Prop} {w w' : World} {v : Value} {l : List FactP} (h : Facts K w v l) (hf : Fr No w w') : Facts K w' v l := h.fr hf fun _ hk => hk.elim
theorem Facts.ok {K : Nat → Prop} {w : World} {v : Value} {l : List FactP} (h : Facts K w v l) : ∀ f ∈ l, f.Ok := by
  intro f hf
  obtain ⟨j, hj, rfl⟩ := List.getElem_of_mem hf
  obtain ⟨g, off, c, e, hg, hlt, h⟩ := RowE.at_ h (by omega)
  obtain ⟨cs, h1, h2, dv, mv, e, hd, hm⟩ := h j hj
  intro x hx
  obtain ⟨i, hi, rfl⟩ := List.getElem_of_mem hx
  obtain ⟨g', off', c', e', hg', hlt', h'⟩ := RowE.at_ hm (by omega)
  obtain ⟨cs', h1', h2', h3'⟩ := h' i hi
  exact h3'.2
theorem Facts.texts {K : Nat → Prop} {w : World} {v : Value} {l : List FactP} (h : Facts K w v l) : ∀ f ∈ l, ∀ t ∈ f.dims, t.length ≤ maxLen := by
  intro f hf
  obtain ⟨j, hj, rfl⟩ := List.getElem_of_mem hf
  obtain ⟨g, off, c, e, hg, hlt, h⟩ := RowE.at_ h (by omega)
  obtain ⟨cs, h1, h2, dv, mv, e, hd, hm⟩ := h j hj
  intro x hx
  obtain ⟨i, hi, rfl⟩ := List.getElem_of_mem hx
  obtain ⟨g', off', c', e', hg', hlt', h'⟩ := RowE.at_ hd (by omega)
  obtain ⟨cs', h1', h2', h3'⟩ := h' i hi
  exact h3'.2
theorem Facts.at_ {K : Nat → Prop} {w : World} {v : Value} {l : List FactP} (h : Facts K w v l) (hl : 0 < l.length) :
    ∃ g off c, v = .slice (some ⟨g, off, none⟩) l.length c ∧ K g ∧ g < w.heap.size ∧ ∀ j (h : j < l.length), ∃ dv mv, w.cell? ⟨g, off + j * 2, none⟩ = some dv ∧ w.cell? ⟨g, off + j * 2 + 1, none⟩ = some mv ∧ RowE K w 1 strE dv l[j].dims ∧ RowE K w 1 intE mv l[j].meas := by
  obtain ⟨g, off, c, e, hg, hlt, h⟩ := RowE.at_ h hl
  refine ⟨g, off, c, e, hg, hlt, fun j hj => ?_⟩
  obtain ⟨cs, h1, h2, dv, mv, rfl, hd, hm⟩ := h j hj
  exact ⟨dv, mv, h2 0 (by omega), h2 1 (by omega), hd, hm⟩
theorem texts_at {K : Nat → Prop} {w : World} {v : Value} {l : List Tx} (h : RowE K w 1 strE v l) (hl : 0 < l.length) :
    ∃ g off c, v = .slice (some ⟨g, off, none⟩) l.length c ∧ K g ∧ g < w.heap.size ∧ ∀ j (h : j < l.length), w.cell? ⟨g, off + j, none⟩ = some (encT l[j]) := by
  obtain ⟨g, off, c, e, hg, hlt, h⟩ := RowE.at_ h hl
  refine ⟨g, off, c, e, hg, hlt, fun j hj => ?_⟩
  obtain ⟨cs, h1, h2, rfl, _⟩ := h j hj
  simpa using h2 0 (by omega)
theorem ints_at {K : Nat → Prop} {w : World} {v : Value} {l : List Int} (h : RowE K w 1 intE v l) (hl : 0 < l.length) :
    ∃ g off c, v = .slice (some ⟨g, off, none⟩) l.length c ∧ K g ∧ g < w.heap.size ∧ ∀ j (h : j < l.length), w.cell? ⟨g, off + j, none⟩ = some (.int .i64 l[j]) := by
  obtain ⟨g, off, c, e, hg, hlt, h⟩ := RowE.at_ h hl
  refine ⟨g, off, c, e, hg, hlt, fun j hj => ?_⟩
  obtain ⟨cs, h1, h2, rfl, _⟩ := h j hj
  simpa using h2 0 (by omega)
end Go.Proofs.Ytmaeejojmbibnaa
