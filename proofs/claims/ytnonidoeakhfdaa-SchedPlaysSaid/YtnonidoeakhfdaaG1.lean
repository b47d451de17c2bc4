/- The document's own scheduler: as the document has it, and how it lies in memory; what is kept when a part of it turns. -/
import Derived.Test.YtnonidoeakhfdaaE3
namespace Go.Proofs.Ytnonidoeakhfdaa
open Go.RowKit Go.Maps Go.Sort
set_option linter.unusedVariables false

structure ZT where
  n : Int
  kind : Int
  num : Int
  picks : Int
structure ZS where
  last : Int
  tasks : List ZT
  held : List (Int × Int)
  queue : List (Int × Int)
  opens : List Int

def ZT.cells (T : ZT) : List Value := [.int .i64 T.n, .int .i64 T.kind, .int .i64 T.num, .int .i64 T.picks]
def pc (p : Int × Int) : List Value := [.int .i64 p.1, .int .i64 p.2]
def oc (n : Int) : List Value := [.int .i64 n]
def ZS.rows (Z : ZS) : Nat → List (List Value)
  | 0 => Z.tasks.map ZT.cells
  | 1 => Z.held.map pc
  | 2 => Z.queue.map pc
  | _ => Z.opens.map oc
def zty : Nat → Nat
  | 0 => 62
  | 1 => 68
  | 2 => 68
  | _ => 3
def zsz : Nat → Nat
  | 0 => 4
  | 1 => 2
  | 2 => 2
  | _ => 1
theorem zty_ne (i : Nat) : zty i ≠ 31 := by unfold zty; split <;> decide
theorem zsz_pos (i : Nat) : 0 < zsz i := by unfold zsz; split <;> decide
theorem rows_sz (Z : ZS) (i : Nat) : ∀ e ∈ Z.rows i, e.length = zsz i := by
  intro e he
  match i with
  | 0 => obtain ⟨x, _, rfl⟩ := List.mem_map.1 he; rfl
  | 1 => obtain ⟨x, _, rfl⟩ := List.mem_map.1 he; rfl
  | 2 => obtain ⟨x, _, rfl⟩ := List.mem_map.1 he; rfl
  | i + 3 => obtain ⟨x, _, rfl⟩ := List.mem_map.1 he; rfl

/-! ### lists of lists of one length -/
section
variable {s : Nat}
theorem flat_len : ∀ {L : List (List Value)}, (∀ e ∈ L, e.length = s) → L.flatten.length = L.length * s
  | [], _ => by simp
  | e :: L, h => by
    rw [List.flatten_cons, List.length_append, flat_len (L := L) fun x hx => h x (by simp [hx]), h e (by simp), List.length_cons, Nat.add_mul]; omega
theorem flat_get : ∀ {L : List (List Value)} {k j : Nat}, (∀ e ∈ L, e.length = s) → j < s → L.flatten[k * s + j]? = L[k]?.bind (·[j]?)
  | [], k, j, _, _ => by simp
  | e :: L, 0, j, h, hj => by
    rw [List.flatten_cons, List.getElem?_append_left (by rw [h e (by simp)]; omega)]; simp
  | e :: L, k + 1, j, h, hj => by
    have he := h e (by simp)
    rw [List.flatten_cons, List.getElem?_append_right (by rw [he, Nat.add_mul]; omega), he, show (k + 1) * s + j - s = k * s + j by rw [Nat.add_mul]; omega, flat_get (L := L) (fun x hx => h x (by simp [hx])) hj]
    simp
theorem flat_set {x : Value} : ∀ {L : List (List Value)} {k j : Nat}, (∀ e ∈ L, e.length = s) → k < L.length → j < s → L.flatten.set (k * s + j) x = (L.set k ((L.getD k []).set j x)).flatten
  | [], k, j, _, h, _ => by simp at h
  | e :: L, 0, j, h, _, hj => by
    rw [List.flatten_cons, List.set_append_left _ _ (by rw [h e (by simp)]; omega)]; simp
  | e :: L, k + 1, j, h, hk, hj => by
    have he := h e (by simp)
    rw [List.flatten_cons, List.set_append_right _ _ (by rw [he, Nat.add_mul]; omega), he, show (k + 1) * s + j - s = k * s + j by rw [Nat.add_mul]; omega, flat_set (L := L) (fun x hx => h x (by simp [hx])) (by simpa using hk) hj]
    simp
theorem flat_take : ∀ {L : List (List Value)} {k : Nat}, (∀ e ∈ L, e.length = s) → L.flatten.take (k * s) = (L.take k).flatten
  | [], k, _ => by simp
  | e :: L, 0, _ => by simp
  | e :: L, k + 1, h => by
    have he := h e (by simp)
    rw [List.flatten_cons, List.take_append, he, show (k + 1) * s - s = k * s by rw [Nat.add_mul]; omega, flat_take (L := L) (fun x hx => h x (by simp [hx])), List.take_of_length_le (by rw [he, Nat.add_mul]; omega)]
    simp
end

/-! ### in memory -/
structure RAt (w : World) (r : Nat) (V : Nat → Value) (Z : ZS) : Prop where
  blk : Blk w r 31 #[.int .i64 Z.last, V 0, V 1, V 2, V 3]
  row : ∀ i, i < 4 → w.ownsRow 0 (zty i) (zsz i) (V i) (Z.rows i).length (Z.rows i).flatten
  ap : ∀ k, (V 1).ownBlock = some k → (V 2).ownBlock ≠ some k

def footR (r : Nat) (V : Nat → Value) (k : Nat) : Prop := k = r ∨ ∃ i, i < 4 ∧ (V i).ownBlock = some k

section
variable {w w' w1 : World} {r : Nat} {V : Nat → Value} {Z Z' : ZS}
theorem RAt.of (h : RAt w r V Z) (hk : ∀ k, footR r V k → w'.heap[k]? = w.heap[k]?) : RAt w' r V Z :=
  ⟨h.blk.of (hk _ (.inl rfl)), fun i hi => own_of (h.row i hi) fun k hb => hk k (.inr ⟨i, hi, hb⟩), h.ap⟩
theorem RAt.lt (h : RAt w r V Z) : ∀ k, footR r V k → k < w.heap.size := by
  intro k hk
  rcases hk with rfl | ⟨i, hi, hk⟩
  · exact h.blk.lt
  · exact (World.ownsRow.lt (h.row i hi) k hk).2
theorem RAt.fr (h : RAt w r V Z) {F : Nat → Prop} (hf : Fr F w w') (hd : ∀ k, F k → ¬ footR r V k) : RAt w' r V Z :=
  h.of fun k hk => hf.block k (h.lt k hk) fun hF => hd k hF hk
theorem RAt.keep (h : RAt w r V Z) (hf : Fr No w w') : RAt w' r V Z := h.fr hf fun _ hF => hF.elim
theorem RAt.ne_r (h : RAt w r V Z) {i : Nat} (hi : i < 4) {k : Nat} (hk : (V i).ownBlock = some k) : k ≠ r := own_blk_ne (h.row i hi) hk h.blk (zty_ne i)
theorem RAt.apart (h : RAt w r V Z) {i j : Nat} (hi : i < 4) (hj : j < 4) (hij : i ≠ j) {k : Nat} (hk : (V i).ownBlock = some k) : (V j).ownBlock ≠ some k := by
  intro hk2
  by_cases e : zty i = zty j
  · have : (i = 1 ∧ j = 2) ∨ (i = 2 ∧ j = 1) := by
      have hi' : i = 0 ∨ i = 1 ∨ i = 2 ∨ i = 3 := by omega
      have hj' : j = 0 ∨ j = 1 ∨ j = 2 ∨ j = 3 := by omega
      rcases hi' with rfl | rfl | rfl | rfl <;> rcases hj' with rfl | rfl | rfl | rfl <;> first | exact absurd rfl hij | exact absurd e (by decide) | exact .inl ⟨rfl, rfl⟩ | exact .inr ⟨rfl, rfl⟩
    rcases this with ⟨rfl, rfl⟩ | ⟨rfl, rfl⟩
    · exact h.ap k hk hk2
    · exact h.ap k hk2 hk
  · exact own_own_ne (h.row i hi) hk (h.row j hj) hk2 e rfl
theorem RAt.form (h : RAt w r V Z) {i : Nat} (hi : i < 4) : ∃ A c, V i = .slice A (Z.rows i).length c := by
  rcases (h.row i hi).2 with ⟨e, h0⟩ | ⟨g, cap, cur, e, _⟩
  · exact ⟨none, 0, by rw [e, h0]⟩
  · exact ⟨_, _, e⟩

structure PRr (r : Nat) (V : Nat → Value) (w : World) (V' : Nat → Value) (Z' : ZS) (w' : World) : Prop where
  at_ : RAt w' r V' Z'
  fr : Fr (footR r V) w w'
  foot : ∀ k, footR r V' k → footR r V k ∨ w.heap.size ≤ k
def Postr (r : Nat) (V : Nat → Value) (w : World) (Z' : ZS) (w' : World) : Prop := ∃ V', PRr r V w V' Z' w'
theorem PRr.refl (h : RAt w r V Z) : PRr r V w V Z w := ⟨h, Fr.refl _ _, fun k hk => .inl hk⟩
theorem PRr.same (h : RAt w r V Z) (hf : Fr No w w') : PRr r V w V Z w' := ⟨h.keep hf, hf.any, fun k hk => .inl hk⟩
theorem PRr.trans {V1 V2 : Nat → Value} {Z1 Z2 : ZS} {w2 : World} (h : PRr r V w V1 Z1 w1) (k : PRr r V1 w1 V2 Z2 w2) : PRr r V w V2 Z2 w2 := by
  obtain ⟨h1, f1, g1⟩ := h
  obtain ⟨h2, f2, g2⟩ := k
  refine ⟨h2, f1.trans f2 (fun j hj hf => (g1 j hf).resolve_right (by omega)), fun j hj => ?_⟩
  rcases g2 j hj with hj | hj
  · exact g1 j hj
  · exact .inr (by have := f1.size; omega)

def upV (V : Nat → Value) (i : Nat) (v : Value) (j : Nat) : Value := if j = i then v else V j
theorem upV_same (V : Nat → Value) (i : Nat) (v : Value) : upV V i v i = v := by simp [upV]
theorem upV_other (V : Nat → Value) {i j : Nat} (v : Value) (h : j ≠ i) : upV V i v j = V j := by simp [upV, h]

/-- One of the lists is another one. -/
theorem RAt.turn (h : RAt w r V Z) {i : Nat} (hi : i < 4) {v' : Value} (hf : Fr (fun k => (V i).ownBlock = some k) w w1) (ho : w1.ownsRow 0 (zty i) (zsz i) v' (Z'.rows i).length (Z'.rows i).flatten)
    (hv : ∀ k, v'.ownBlock = some k → (V i).ownBlock = some k ∨ w.heap.size ≤ k) (hZ : ∀ j, j < 4 → j ≠ i → Z'.rows j = Z.rows j) (hl : Z'.last = Z.last) :
    PRr r V w (upV V i v') Z' (w1.setCell ⟨r, i + 1, none⟩ v') := by
  have hb1 : Blk w1 r 31 #[.int .i64 Z.last, V 0, V 1, V 2, V 3] := h.blk.of (hf.block r h.blk.lt fun e => h.ne_r hi e rfl)
  have hb2 := hb1.set_ (i + 1) v'
  have hst : ∀ k, k ≠ r → (w1.setCell ⟨r, i + 1, none⟩ v').heap[k]? = w1.heap[k]? := fun k hk => Below.heap_setCell w1 ⟨r, i + 1, none⟩ v' k hk
  have hff : Fr (footR r V) w (w1.setCell ⟨r, i + 1, none⟩ v') := (hf.mono fun k _ hk => (Or.inr ⟨i, hi, hk⟩ : footR r V k)).setCell (p := ⟨r, i + 1, none⟩) (fun _ => Or.inl rfl) v'
  refine ⟨⟨?_, fun j hj => ?_, fun k hk hk2 => ?_⟩, hff, fun k hk => ?_⟩
  · rw [hl]
    have : i = 0 ∨ i = 1 ∨ i = 2 ∨ i = 3 := by omega
    rcases this with rfl | rfl | rfl | rfl <;> exact hb2
  · by_cases e : j = i
    · subst e
      rw [upV_same]
      exact own_of ho fun k hk => hst k (own_blk_ne ho hk hb1 (zty_ne j))
    · rw [upV_other _ _ e, hZ j hj e]
      exact own_of (h.row j hj) fun k hk => by
        rw [hst k (h.ne_r hj hk)]
        exact hf.block k (World.ownsRow.lt (h.row j hj) k hk).2 (h.apart hj hi e hk)
  · by_cases e1 : i = 1
    · subst e1
      rw [upV_same] at hk
      rw [upV_other _ _ (by omega)] at hk2
      rcases hv k hk with hk | hk
      · exact h.ap k hk hk2
      · have := (World.ownsRow.lt (h.row 2 (by omega)) k hk2).2; omega
    · rw [upV_other _ _ (by omega)] at hk
      by_cases e2 : i = 2
      · subst e2
        rw [upV_same] at hk2
        rcases hv k hk2 with hk2 | hk2
        · exact h.ap k hk hk2
        · have := (World.ownsRow.lt (h.row 1 (by omega)) k hk).2; omega
      · rw [upV_other _ _ (by omega)] at hk2
        exact h.ap k hk hk2
  · rcases hk with hk | ⟨j, hj, hk⟩
    · exact .inl (.inl hk)
    · by_cases e : j = i
      · subst e
        rw [upV_same] at hk
        exact (hv k hk).imp_left fun hk => .inr ⟨j, hj, hk⟩
      · rw [upV_other _ _ e] at hk
        exact .inl (.inr ⟨j, hj, hk⟩)

/-- A cell of one of the lists turns. -/
theorem RAt.store (h : RAt w r V Z) {i k j g : Nat} (hi : i < 4) (hk : k < (Z.rows i).length) (hj : j < zsz i) (hg : (V i).ownBlock = some g) (x : Value)
    (hr : Z'.rows i = (Z.rows i).set k (((Z.rows i).getD k []).set j x)) (hZ : ∀ j, j < 4 → j ≠ i → Z'.rows j = Z.rows j) (hl : Z'.last = Z.last) :
    PRr r V w V Z' (w.setCell ⟨g, k * zsz i + j, none⟩ x) := by
  have hgr := h.ne_r hi hg
  have hst : ∀ n, n ≠ g → (w.setCell ⟨g, k * zsz i + j, none⟩ x).heap[n]? = w.heap[n]? := fun n hn => Below.heap_setCell w ⟨g, k * zsz i + j, none⟩ x n hn
  refine ⟨⟨?_, fun m hm => ?_, h.ap⟩, (Fr.refl _ w).setCell (p := ⟨g, k * zsz i + j, none⟩) (fun _ => .inr ⟨i, hi, hg⟩) x, fun n hn => .inl hn⟩
  · rw [hl]; exact h.blk.of (hst r (Ne.symm hgr))
  · by_cases e : m = i
    · subst e
      have hrow := h.row m hm
      rw [hr, List.length_set, ← flat_set (rows_sz Z m) hk hj]
      refine ⟨by rw [List.length_set]; exact hrow.1, ?_⟩
      rcases hrow.2 with ⟨e0, _⟩ | ⟨g', cap, cur, e1, hb, hh, h1, h2, h3, h4⟩
      · rw [e0] at hg; simp [Value.ownBlock] at hg
      · rw [e1] at hg; simp [Value.ownBlock] at hg; subst hg
        have hbk : Blk w g' (zty m) cur := hh
        refine .inr ⟨g', cap, cur.setIfInBounds (k * zsz m + j) x, e1, hb, hbk.set_ _ x, h1, h2, by simpa using h3, ?_⟩
        rw [Array.toList_setIfInBounds, List.take_set, h4]
    · rw [hZ m hm e]
      exact own_of (h.row m hm) fun n hn => hst n fun e2 => h.apart hi hm (Ne.symm e) hg (e2 ▸ hn)

/-- A cell of one of the lists. -/
theorem RAt.get (h : RAt w r V Z) {i k j : Nat} (hi : i < 4) {x : Value} (hj : j < zsz i) (hx : (Z.rows i)[k]?.bind (·[j]?) = some x) :
    ∃ g cap, V i = .slice (some ⟨g, 0, none⟩) (Z.rows i).length cap ∧ w.cell? ⟨g, k * zsz i + j, none⟩ = some x ∧ w.frozen? ⟨g, k * zsz i + j, none⟩ = false := by
  have hk : k < (Z.rows i).length := by
    rcases Nat.lt_or_ge k (Z.rows i).length with h | h
    · exact h
    · rw [List.getElem?_eq_none h] at hx; cases hx
  rcases (h.row i hi).2 with ⟨e0, h0⟩ | ⟨g, cap, cur, e1, hb, hh, h1, h2, h3, h4⟩
  · omega
  · have hbk : Blk w g (zty i) cur := hh
    refine ⟨g, cap, e1, ?_, hbk.frozen _⟩
    rw [hbk.cell]
    have := flat_get (k := k) (rows_sz Z i) hj
    rw [hx, ← h4, List.getElem?_take] at this
    split at this
    · rw [← Array.getElem?_toList]; exact this
    · cases this
end

end Go.Proofs.Ytnonidoeakhfdaa
