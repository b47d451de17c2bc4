/- An accumulator of two columns: what each call comes to. -/
import Derived.Test.YtgjpdagbbljmpaaE1
import Derived.Test.YtgjpdagbbljmpaaRP
import Derived.Test.YtgjpdagbbljmpaaC4
namespace Go.Proofs.Ytgjpdagbbljmpaa
open Go.RowKit Go.Maps Go.Sort
set_option linter.unusedVariables false

def AO (w : World) (n : Int) (v : Value) (P : List (Int × Int)) : Prop := n = (P.length : Int) ∧ PO 0 w v (chunk P) ∧ Pok P
theorem AO.no {w w' : World} {n : Int} {v : Value} {P : List (Int × Int)} (h : AO w n v P) (f : Fr No w w') : AO w' n v P := ⟨h.1, h.2.1.no f, h.2.2⟩
theorem AO.set {w : World} {n : Int} {v : Value} {P : List (Int × Int)} {z o : Nat} {t : TypeId} {cs : Array Value} (h : AO w n v P) (hz : Blk w z t cs) (ht : t ≠ 46) (u : Value) : AO (w.setCell ⟨z, o, none⟩ u) n v P := ⟨h.1, h.2.1.set_box hz ht u, h.2.2⟩
theorem AO.form {w : World} {n : Int} {v : Value} {P : List (Int × Int)} (h : AO w n v P) : ∃ A c, v = .slice A 2 c := by
  obtain ⟨A, c, e, -⟩ := h.2.1.pr.form
  exact ⟨A, c, e⟩
def GivesA (w : World) (P : List (Int × Int)) (e : Ending) (w' : World) : Prop := ∃ n A c, e = .returned (.agg #[.int .i64 n, .slice A 2 c]) ∧ AO w' n (.slice A 2 c) P ∧ Fr No w w'
theorem gives {w w' : World} {a : Ac} {P : List (Int × Int)} (ha : a = ⟨(P.length : Int), chunk P⟩) (hP : Pok P) {e : Ending} (h : TellsA a w e w') : GivesA w P e w' := by
  subst ha
  obtain ⟨v, rfl, h1, h2⟩ := h
  obtain ⟨A, c, rfl, -⟩ := h1.pr.form
  exact ⟨_, A, c, rfl, ⟨rfl, h1.low (Nat.zero_le _), hP⟩, h2⟩
theorem Pok.app {P Q : List (Int × Int)} (h : Pok P) (k : Pok Q) : Pok (P ++ Q) := fun x hx => (List.mem_append.1 hx).elim (h x) (k x)
theorem merge_ao {w : World} {n m : Int} {v u : Value} {P Q : List (Int × Int)} (h : AO w n v P) (k : AO w m u Q) (hl : P.length + Q.length ≤ 1000) : Calls Try.prog 23 #[.agg #[.int .i64 n, v], .agg #[.int .i64 m, u]] w (GivesA w (P ++ Q)) := by
  obtain ⟨rfl, h2, h3⟩ := h
  obtain ⟨rfl, k2, k3⟩ := k
  exact (merge_any _ _ _ _ _ _ w h2.pr (chunk_ok h3) k2.pr (chunk_ok k3)).mono fun e w' h => gives (chunk_sum h3 k3 hl) (h3.app k3) h
theorem same_ao {w : World} {n m : Int} {v u : Value} {P Q : List (Int × Int)} (h : AO w n v P) (k : AO w m u Q) (hp : P.Perm Q) : Calls Try.prog 24 #[.agg #[.int .i64 n, v], .agg #[.int .i64 m, u]] w (TellsB true w) := by
  obtain ⟨rfl, h2, h3⟩ := h
  obtain ⟨rfl, k2, k3⟩ := k
  have := rsame_any (P.length : Int) (Q.length : Int) (chunk P) (chunk Q) v u w h2.pr k2.pr
  rw [show sameA ⟨(P.length : Int), chunk P⟩ ⟨(Q.length : Int), chunk Q⟩ = true from sameA_iff.2 (by rw [chunk_perm hp, hp.length_eq])] at this
  exact this
theorem valid_ao {w : World} {n : Int} {v : Value} {P : List (Int × Int)} (h : AO w n v P) : Calls Try.prog 30 #[.agg #[.int .i64 n, v], .int .i64 2] w (TellsB true w) := by
  obtain ⟨rfl, h2, h3⟩ := h
  have := valid_any (P.length : Int) (chunk P) 2 v w h2.pr
  rw [chunk_valid] at this
  exact this
theorem new_ao (w : World) : Calls Try.prog 27 #[.int .i64 2] w (GivesA w []) := (new_any 2 w).mono fun e w' h => gives (by decide +kernel) (fun x hx => by cases hx) h
theorem row_two (w : World) (x y : Int) (hx : i64 x) (hy : i64 y) {g : Nat} (hg : Blk w g 2 #[.int .i64 x, .int .i64 y]) : RowE (fun _ => True) w 1 (intG (fun _ => True) w) (.slice (some ⟨g, 0, none⟩) 2 2) [x, y] := by
  refine ⟨_, 2, rfl, Nat.le_refl _, by decide, fun _ => ⟨g, 0, rfl, trivial, hg.lt, fun j hj => ?_⟩⟩
  have : j = 0 ∨ j = 1 := by simp at hj; omega
  rcases this with rfl | rfl
  · refine ⟨[.int .i64 x], rfl, fun i hi => ?_, rfl, hx⟩
    obtain rfl : i = 0 := by omega
    exact hg.cell 0
  · refine ⟨[.int .i64 y], rfl, fun i hi => ?_, rfl, hy⟩
    obtain rfl : i = 0 := by omega
    exact hg.cell 1
theorem take_ao {w : World} {n : Int} {v : Value} {P : List (Int × Int)} {x y : Int} {g : Nat} (h : AO w n v P) (hl : P.length ≤ 1000) (hx : i64 x) (hy : i64 y) (hg : Blk w g 2 #[.int .i64 x, .int .i64 y]) :
    Calls Try.prog 22 #[.agg #[.int .i64 n, v], .slice (some ⟨g, 0, none⟩) 2 2] w (GivesA w (P ++ [(x, y)])) := by
  obtain ⟨rfl, h2, h3⟩ := h
  refine (take_any (P.length : Int) (chunk P) [x, y] v _ w h2.pr (chunk_ok h3) (row_two w x y hx hy hg)).mono fun e w' h => gives ?_ (h3.app fun z hz => by rw [List.mem_singleton.1 hz]; exact ⟨hx, hy⟩) h
  have e : w64 ((P.length : Int) + 1) = ((P.length + 1 : Nat) : Int) := by unfold w64; omega
  rw [chunk_take, List.length_append, List.length_singleton, e]
theorem blk8 {w : World} {z : Nat} {t : TypeId} {a b c d e f p q : Value} (h : Blk w z t #[a, b, c, d, e, f, p, q]) :
    (w.cell? ⟨z, 0, none⟩ = some a ∧ w.cell? ⟨z, 1, none⟩ = some b ∧ w.cell? ⟨z, 2, none⟩ = some c ∧ w.cell? ⟨z, 3, none⟩ = some d ∧ w.cell? ⟨z, 4, none⟩ = some e ∧ w.cell? ⟨z, 5, none⟩ = some f ∧ w.cell? ⟨z, 6, none⟩ = some p ∧ w.cell? ⟨z, 7, none⟩ = some q) ∧
    w.frozen? ⟨z, 0, none⟩ = false ∧ w.frozen? ⟨z, 1, none⟩ = false ∧ w.frozen? ⟨z, 2, none⟩ = false ∧ w.frozen? ⟨z, 3, none⟩ = false ∧ w.frozen? ⟨z, 4, none⟩ = false ∧ w.frozen? ⟨z, 5, none⟩ = false ∧ w.frozen? ⟨z, 6, none⟩ = false ∧ w.frozen? ⟨z, 7, none⟩ = false :=
  ⟨⟨h.cell 0, h.cell 1, h.cell 2, h.cell 3, h.cell 4, h.cell 5, h.cell 6, h.cell 7⟩, h.frozen 0, h.frozen 1, h.frozen 2, h.frozen 3, h.frozen 4, h.frozen 5, h.frozen 6, h.frozen 7⟩
abbrev quad (n0 n1 n2 n3 : Int) (v0 v1 v2 v3 : Value) : Array Value := #[.int .i64 n0, v0, .int .i64 n1, v1, .int .i64 n2, v2, .int .i64 n3, v3]
end Go.Proofs.Ytgjpdagbbljmpaa
