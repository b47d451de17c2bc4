/- What is kept of numbers, in whatever order: plain; an accumulator in a variable. -/
import Derived.Test.YtgjpdagbbljmpaaB9
import Derived.Test.YtgjpdagbbljmpaaB8
namespace Go.Proofs.Ytgjpdagbbljmpaa
open Go.RowKit Go.Maps Go.Sort
set_option linter.unusedVariables false

def foldP (l : List Int) : Pt := l.foldl withP Pt.zero
theorem addS_comm (s : Sm) (x y : Int) : addS (addS s x) y = addS (addS s y) x := by
  unfold addS
  rw [plusS_assoc, plusS_comm (ofS x), ← plusS_assoc]
theorem withP_comm (p : Pt) (x y : Int) : withP (withP p x) y = withP (withP p y) x := by
  unfold withP
  cases p.any
  · simp only [addS_comm p.s x y]; simp [Int.min_comm x y, Int.max_comm x y]
  · simp only [addS_comm p.s x y]; simp [Int.min_assoc, Int.max_assoc, Int.min_comm x y, Int.max_comm x y]
theorem foldP_perm {l m : List Int} (h : l.Perm m) : ∀ p, l.foldl withP p = m.foldl withP p := by
  induction h with
  | nil => intro p; rfl
  | cons x _ ih => intro p; exact ih _
  | swap x y l => intro p; simp only [List.foldl_cons]; rw [withP_comm]
  | trans _ _ ih1 ih2 => intro p; rw [ih1, ih2]
theorem foldP_append (l : List Int) (x : Int) : foldP (l ++ [x]) = withP (foldP l) x := by unfold foldP; rw [List.foldl_append]; rfl
theorem fold_ok : ∀ (l : List Int) (p : Pt), p.ok → (∀ x ∈ l, i64 x) → (l.foldl withP p).ok
  | [], p, hp, _ => hp
  | x :: l, p, hp, h => fold_ok l _ (withP_ok hp (h x (by simp))) fun y hy => h y (by simp [hy])
theorem foldP_ok {l : List Int} (h : ∀ x ∈ l, i64 x) : (foldP l).ok := fold_ok l _ zero_ok h
theorem fold_bound : ∀ (l : List Int) (p : Pt), p.any = true → (l.foldl withP p).any = true ∧ (l.foldl withP p).mn ≤ p.mn ∧ p.mx ≤ (l.foldl withP p).mx
  | [], p, h => ⟨h, Int.le_refl _, Int.le_refl _⟩
  | x :: l, p, h => by
    obtain ⟨h1, h2, h3⟩ := fold_bound l (withP p x) rfl
    refine ⟨h1, Int.le_trans h2 ?_, Int.le_trans ?_ h3⟩
    · unfold withP; simp only [h, if_true]; omega
    · unfold withP; simp only [h, if_true]; omega
theorem foldP_first (x : Int) (l : List Int) : (foldP (x :: l)).mn ≤ x ∧ x ≤ (foldP (x :: l)).mx := by
  unfold foldP
  rw [List.foldl_cons]
  obtain ⟨-, h2, h3⟩ := fold_bound l (withP Pt.zero x) rfl
  exact ⟨h2, h3⟩
theorem take_snoc {α : Type} {l : List α} {j : Nat} (h : j < l.length) : l.take (j + 1) = l.take j ++ [l[j]] := by
  rw [List.take_add_one, List.getElem?_eq_getElem h]; rfl
/-- Turned by so many places. -/
def rotL {α : Type} (l : List α) (r : Nat) : List α := l.drop r ++ l.take r
theorem rotL_len {α : Type} (l : List α) (r : Nat) (h : r ≤ l.length) : (rotL l r).length = l.length := by
  unfold rotL; rw [List.length_append, List.length_drop, List.length_take]; omega
theorem rotL_perm {α : Type} (l : List α) (r : Nat) : (rotL l r).Perm l := by
  unfold rotL
  exact List.perm_append_comm.trans (by rw [List.take_append_drop])
theorem rotL_at {α : Type} (l : List α) (r i : Nat) (hr : r < l.length) (hi : i < l.length) : (rotL l r)[i]? = l[(i + r) % l.length]? := by
  unfold rotL
  by_cases h : i < l.length - r
  · rw [List.getElem?_append_left (by rw [List.length_drop]; exact h), List.getElem?_drop, Nat.mod_eq_of_lt (by omega), Nat.add_comm]
  · rw [List.getElem?_append_right (by rw [List.length_drop]; omega), List.length_drop, List.getElem?_take, if_pos (by omega)]
    congr 1
    rw [Nat.mod_eq_sub_mod (by omega), Nat.mod_eq_of_lt (by omega)]
    omega
/-- An accumulator in a variable. -/
def Bx (w : World) (y : Nat) (c : Int) (l : List Pt) : Prop := ∃ v, Blk w y 39 #[.int .i64 c, v] ∧ PO 0 w v l
theorem Bx.no {w w' : World} {y : Nat} {c : Int} {l : List Pt} (h : Bx w y c l) (f : Fr No w w') : Bx w' y c l := by
  obtain ⟨v, h1, h2⟩ := h
  exact ⟨v, h1.no f, h2.no f⟩
theorem PO.set_box {b z o : Nat} {w : World} {v : Value} {l : List Pt} {t : TypeId} {cs : Array Value} (h : PO b w v l) (hz : Blk w z t cs) (ht : t ≠ 46) (u : Value) : PO b (w.setCell ⟨z, o, none⟩ u) v l := by
  rcases h with h | ⟨g, c, cs', h1, h2, h3, h4, h5, h6⟩
  · exact .inl h
  · exact .inr ⟨g, c, cs', h1, h2, h3, h4, h5.set_other (Blk.ne_ h5 hz fun e => ht e.symm) _, h6⟩
theorem Bx.other {w : World} {y z o : Nat} {c : Int} {l : List Pt} {cs : Array Value} (h : Bx w y c l) (hz : Blk w z 39 cs) (hne : y ≠ z) (u : Value) : Bx (w.setCell ⟨z, o, none⟩ u) y c l := by
  obtain ⟨v, h1, h2⟩ := h
  exact ⟨v, h1.set_other hne _, h2.set_box hz (by decide) _⟩
/-- What is stored into it. -/
theorem Bx.store {w : World} {y : Nat} {a : Value} {v v' : Value} {c : Int} {l : List Pt} {b : Nat} (h : Blk w y 39 #[a, v]) (hp : PO b w v' l) : Bx ((w.setCell ⟨y, 0, none⟩ (.int .i64 c)).setCell ⟨y, 1, none⟩ v') y c l := by
  have h1 := h.set_ 0 (.int .i64 c)
  refine ⟨v', h1.set_ 1 v', ?_⟩
  exact ((hp.low (Nat.zero_le _)).set_box h (by decide) _).set_box h1 (by decide) _
theorem Bx.other2 {w : World} {y z : Nat} {c : Int} {l : List Pt} {cs : Array Value} (h : Bx w y c l) (hz : Blk w z 39 cs) (hne : y ≠ z) (u u' : Value) : Bx ((w.setCell ⟨z, 0, none⟩ u).setCell ⟨z, 1, none⟩ u') y c l :=
  (h.other hz hne u).other (hz.set_ 0 u) hne u'
theorem Bx.lt {w : World} {y : Nat} {c : Int} {l : List Pt} (h : Bx w y c l) : y < w.heap.size := by
  obtain ⟨v, h1, _⟩ := h
  exact h1.lt
end Go.Proofs.Ytgjpdagbbljmpaa
