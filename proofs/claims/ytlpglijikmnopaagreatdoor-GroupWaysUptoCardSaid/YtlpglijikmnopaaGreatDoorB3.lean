/- Rows of parts; Clone, Take. -/
import Derived.Test.YtlpglijikmnopaaGreatDoorB2
namespace Go.Proofs.YtlpglijikmnopaaGreatDoor
open Go.RowKit Go.Maps Go.Sort
set_option linter.unusedVariables false

/-- The five cells of a part. -/
def Five (w : World) (g o : Nat) (p : Pt) : Prop := w.cell? ⟨g, o, none⟩ = some (.bool p.any) ∧ w.cell? ⟨g, o + 1, none⟩ = some (.int .i64 p.s.hi) ∧ w.cell? ⟨g, o + 2, none⟩ = some (.int .u64 p.s.lo) ∧ w.cell? ⟨g, o + 3, none⟩ = some (.int .i64 p.mn) ∧ w.cell? ⟨g, o + 4, none⟩ = some (.int .i64 p.mx)
theorem Five.of {w w' : World} {g o : Nat} {p : Pt} (h : Five w g o p) (e : w'.heap[g]? = w.heap[g]?) : Five w' g o p := by
  unfold Five at h ⊢
  simp only [cell_of_heap e]
  exact h
/-- A row of parts that may be read. -/
def PR (K : Nat → Prop) (w : World) (v : Value) (l : List Pt) : Prop :=
  (v = .slice none 0 0 ∧ l = []) ∨ ∃ a c, v = .slice (some a) l.length c ∧ l.length ≤ c ∧ c ≤ maxLen ∧ (0 < l.length → ∃ g off, a = ⟨g, off, none⟩ ∧ K g ∧ g < w.heap.size ∧ ∀ j (h : j < l.length), Five w g (off + j * 5) l[j])
/-- What parts that came in are. -/
def Lok (l : List Pt) : Prop := (∀ p ∈ l, p.ok) ∧ l.length * 40 ≤ 140737488351232
theorem PR.mono {K K' : Nat → Prop} {w w' : World} {v : Value} {l : List Pt} (h : PR K w v l) (hk : ∀ k, K k → k < w.heap.size → K' k ∧ w'.heap[k]? = w.heap[k]?) (hs : w.heap.size ≤ w'.heap.size) : PR K' w' v l := by
  rcases h with h | ⟨a, c, h1, h2, h3, h4⟩
  · exact .inl h
  · refine .inr ⟨a, c, h1, h2, h3, fun hl => ?_⟩
    obtain ⟨g, off, e, hg, hgl, h5⟩ := h4 hl
    obtain ⟨k1, k2⟩ := hk g hg hgl
    exact ⟨g, off, e, k1, by omega, fun j hj => (h5 j hj).of k2⟩
theorem PR.no {K : Nat → Prop} {w w' : World} {v : Value} {l : List Pt} (h : PR K w v l) (f : Fr No w w') : PR K w' v l := h.mono (fun k hk hl => ⟨hk, f.block k hl id⟩) f.size
theorem PR.form {K : Nat → Prop} {w : World} {v : Value} {l : List Pt} (h : PR K w v l) : ∃ A c, v = .slice A l.length c ∧ l.length ≤ c ∧ c ≤ maxLen := by
  rcases h with ⟨e, rfl⟩ | ⟨a, c, h1, h2, h3, h4⟩
  · exact ⟨none, 0, e, by simp, by decide⟩
  · exact ⟨_, c, h1, h2, h3⟩
theorem PR.at_ {K : Nat → Prop} {w : World} {A : Option Addr} {n c : Nat} {l : List Pt} (h : PR K w (.slice A n c) l) {j : Nat} (hj : j < l.length) : ∃ g off, A = some ⟨g, off, none⟩ ∧ K g ∧ g < w.heap.size ∧ ∀ j (h : j < l.length), Five w g (off + j * 5) l[j] := by
  rcases h with ⟨e, rfl⟩ | ⟨a, c, h1, h2, h3, h4⟩
  · simp at hj
  · obtain ⟨g, off, rfl, h5⟩ := h4 (by omega)
    injection h1 with h1
    exact ⟨g, off, h1, h5⟩
/-- A row of parts of one's own. -/
def PO (b : Nat) (w : World) (v : Value) (l : List Pt) : Prop :=
  (v = .slice none 0 0 ∧ l = []) ∨ ∃ g c cs, v = .slice (some ⟨g, 0, none⟩) l.length c ∧ l.length ≤ c ∧ c ≤ maxLen ∧ b ≤ g ∧ Blk w g 88 cs ∧ ∀ j (h : j < l.length) k, k < 5 → cs[j * 5 + k]? = (ptL l[j])[k]?
theorem PO.pr {b : Nat} {w : World} {v : Value} {l : List Pt} (h : PO b w v l) : PR (fun k => b ≤ k) w v l := by
  rcases h with h | ⟨g, c, cs, h1, h2, h3, h4, h5, h6⟩
  · exact .inl h
  · refine .inr ⟨_, c, h1, h2, h3, fun _ => ⟨g, 0, rfl, h4, h5.lt, fun j hj => ?_⟩⟩
    have key : ∀ k, k < 5 → w.cell? ⟨g, 0 + j * 5 + k, none⟩ = (ptL l[j])[k]? := fun k hk => by rw [h5.cell, Nat.zero_add]; exact h6 j hj k hk
    exact ⟨key 0 (by decide), key 1 (by decide), key 2 (by decide), key 3 (by decide), key 4 (by decide)⟩
theorem PO.no {b : Nat} {w w' : World} {v : Value} {l : List Pt} (h : PO b w v l) (f : Fr No w w') : PO b w' v l := by
  rcases h with h | ⟨g, c, cs, h1, h2, h3, h4, h5, h6⟩
  · exact .inl h
  · exact .inr ⟨g, c, cs, h1, h2, h3, h4, h5.no f, h6⟩
theorem PO.low {b b' : Nat} {w : World} {v : Value} {l : List Pt} (h : PO b w v l) (hb : b' ≤ b) : PO b' w v l := by
  rcases h with h | ⟨g, c, cs, h1, h2, h3, h4, h5, h6⟩
  · exact .inl h
  · exact .inr ⟨g, c, cs, h1, h2, h3, by omega, h5, h6⟩
/-- Five stores. -/
def put5 (w : World) (g o : Nat) (p : Pt) : World := ((((w.setCell ⟨g, o, none⟩ (.bool p.any)).setCell ⟨g, o + 1, none⟩ (.int .i64 p.s.hi)).setCell ⟨g, o + 2, none⟩ (.int .u64 p.s.lo)).setCell ⟨g, o + 3, none⟩ (.int .i64 p.mn)).setCell ⟨g, o + 4, none⟩ (.int .i64 p.mx)
theorem Fr.put5 {F : Nat → Prop} {w0 w : World} {g o : Nat} {p : Pt} (f : Fr F w0 w) (hF : g < w0.heap.size → F g) : Fr F w0 (put5 w g o p) :=
  ((((f.setCell hF _).setCell hF _).setCell hF _).setCell hF _).setCell hF _
/-- One part of a row of one's own turns. -/
theorem PO.put {b : Nat} {w : World} {A : Option Addr} {n c : Nat} {l : List Pt} (h : PO b w (.slice A n c) l) {j : Nat} (hj : j < l.length) (p : Pt) :
    ∃ g, A = some ⟨g, 0, none⟩ ∧ b ≤ g ∧ g < w.heap.size ∧ Five w g (j * 5) l[j] ∧ (∀ i, w.frozen? ⟨g, i, none⟩ = false) ∧ PO b (put5 w g (j * 5) p) (.slice A n c) (l.set j p) := by
  rcases h with ⟨_, rfl⟩ | ⟨g, c', cs, h1, h2, h3, h4, h5, h6⟩
  · simp at hj
  · injection h1 with e1 e2 e3
    subst e1; subst e2; subst e3
    have key : ∀ k, k < 5 → w.cell? ⟨g, j * 5 + k, none⟩ = (ptL l[j])[k]? := fun k hk => by rw [h5.cell]; exact h6 j hj k hk
    refine ⟨g, rfl, h4, h5.lt, ⟨key 0 (by decide), key 1 (by decide), key 2 (by decide), key 3 (by decide), key 4 (by decide)⟩, fun i => h5.frozen i, .inr ⟨g, c, _, by rw [List.length_set], by rw [List.length_set]; exact h2, h3, h4, ((((h5.set_ _ _).set_ _ _).set_ _ _).set_ _ _).set_ _ _, fun i hi k hk => ?_⟩⟩
    rw [List.length_set] at hi
    have hlt : ∀ i, i < l.length → ∀ k, k < 5 → i * 5 + k < cs.size := fun i hi k hk => by
      have := h6 i hi k hk
      rcases Nat.lt_or_ge (i * 5 + k) cs.size with h | h
      · exact h
      · rw [Array.getElem?_eq_none h] at this
        have h2 : k < (ptL l[i]).length := by simp; omega
        rw [List.getElem?_eq_getElem h2] at this
        cases this
    simp only [Array.getElem?_setIfInBounds, Array.size_setIfInBounds]
    by_cases e : i = j
    · subst e
      rw [List.getElem_set_self]
      have : k = 0 ∨ k = 1 ∨ k = 2 ∨ k = 3 ∨ k = 4 := by omega
      have l0 := hlt i hj 0 (by decide)
      have l1 := hlt i hj 1 (by decide)
      have l2 := hlt i hj 2 (by decide)
      have l3 := hlt i hj 3 (by decide)
      have l4 := hlt i hj 4 (by decide)
      rcases this with rfl | rfl | rfl | rfl | rfl
      · rw [if_neg (by omega), if_neg (by omega), if_neg (by omega), if_neg (by omega), if_pos (by omega), if_pos (by omega)]; rfl
      · rw [if_neg (by omega), if_neg (by omega), if_neg (by omega), if_pos (by omega), if_pos (by omega)]; rfl
      · rw [if_neg (by omega), if_neg (by omega), if_pos (by omega), if_pos (by omega)]; rfl
      · rw [if_neg (by omega), if_pos (by omega), if_pos (by omega)]; rfl
      · rw [if_pos (by omega), if_pos (by omega)]; rfl
    · rw [List.getElem_set_ne (fun h => e h.symm)]
      rw [if_neg (by omega), if_neg (by omega), if_neg (by omega), if_neg (by omega), if_neg (by omega)]
      exact h6 i hi k hk
theorem info46 : (Tryz.prog.info? 88).map (fun i => (i.zero, i.size, i.bytes)) = some (some (ptV Pt.zero), 5, 40) := by kernel_rfl
theorem flat_at (l : List Pt) : ∀ j (h : j < l.length) k, k < 5 → (l.flatMap ptL)[j * 5 + k]? = (ptL l[j])[k]? := by
  induction l with
  | nil => intro j h; simp at h
  | cons p l ih =>
    intro j h k hk
    rw [List.flatMap_cons]
    cases j with
    | zero =>
      rw [List.getElem?_append_left (by simp; omega), Nat.zero_mul, Nat.zero_add]
      rfl
    | succ j =>
      have hj : j < l.length := by simpa using h
      rw [List.getElem?_append_right (by simp; omega)]
      have := ih j hj k hk
      rw [show (j + 1) * 5 + k - (ptL p).length = j * 5 + k by simp; omega]
      exact this
theorem flat_len (l : List Pt) : (l.flatMap ptL).length = l.length * 5 := by
  induction l with
  | nil => rfl
  | cons p l ih => rw [List.flatMap_cons, List.length_append, ih, List.length_cons]; simp; omega
theorem flat_one (l : List Pt) : ∀ u ∈ l.flatMap ptL, u.oneCell' = true := by
  intro u hu
  obtain ⟨p, _, hp⟩ := List.mem_flatMap.1 hu
  simp only [ptL, List.mem_cons, List.not_mem_nil, or_false] at hp
  rcases hp with rfl | rfl | rfl | rfl | rfl <;> rfl
theorem nil_eq (w : World) : (binOp .eql 46 (.slice none 0 0) (.slice none 0 0)).run Tryz.prog w = .ok (.bool true) w := by kernel_rfl
theorem some_ne (a : Addr) (n c : Nat) (w : World) : (binOp .eql 46 (.slice (some a) n c) (.slice none 0 0)).run Tryz.prog w = .ok (.bool false) w := by kernel_rfl
section
variable {ops : Array Oper} {rest : List Oper} {o : Oper} {a : Act} {Q : Exit → Act → World → Prop} {w : World}
/-- append, by what it comes to. -/
theorem wpList_add (hgd : o.guard = none) (sl x : Operand) (t1 t2 : TypeId) (ho : o.op = .call { callee := .builtin .append, args := #[sl, x], argTypes := #[t1, t2] })
    (v v' xv : Value) (w1 : World) (hs : a.eval sl = v) (hx : a.eval x = xv) (hr : (Builtin.append_ #[t1, t2] o.type #[v, xv]).run Tryz.prog w = .ok v' w1)
    (h : wpList Tryz.prog ops Q rest (a.put o.dst v') w1) : wpList Tryz.prog ops Q (o :: rest) a w := by
  refine wpList_plain hgd fun K hK => ?_
  unfold Oper.wp execOp
  simp only [ho, resolve, invoke, builtin, Sem.run_bind, Sem.run_pure, Result.andThen_ok, List.map_toArray, List.map_cons, List.map_nil, hs, hx, hr]
  exact hK _ _ h
end
/-- What append tells: parts behind a row of one's own. -/
theorem append_parts {K : Nat → Prop} {w : World} {b : Nat} {v : Value} {l : List Pt} (xs : List Value) (ho : w.ownsRow b 88 5 v l.length xs) (hxs : xs = l.flatMap ptL) (hb : b ≤ w.heap.size) {a : Addr} {c : Nat} {m : List Pt}
    (h : PR K w (.slice (some a) m.length c) m) (hlen : (l.length + m.length) * 40 ≤ 140737488355328) :
    ∃ v' w', (∀ ty, (Builtin.append_ #[46, 46] ty #[v, .slice (some a) m.length c]).run Tryz.prog w = .ok v' w') ∧ w'.ownsRow b 88 5 v' (l.length + m.length) ((l ++ m).flatMap ptL) ∧ w.grownBy w' v.ownBlock ∧ (v' = .slice none 0 0 ↔ v = .slice none 0 0 ∧ m.length = 0) ∧ (v'.ownBlock = v.ownBlock ∨ v'.ownBlock = some w.heap.size) := by
  obtain ⟨i0, hi, hz0, hz1, hz2⟩ := info_parts info46
  subst hxs
  have hnews : ∀ j u, (m.flatMap ptL)[j]? = some u → w.cell? (a.add j) = some u := by
    intro j u hu
    have hj : j < m.length * 5 := by
      rw [← flat_len]
      rcases Nat.lt_or_ge j (m.flatMap ptL).length with h | h
      · exact h
      · rw [List.getElem?_eq_none h] at hu; cases hu
    obtain ⟨g, off, e, -, -, h5⟩ := h.at_ (j := j / 5) (by omega)
    obtain rfl := Option.some.inj e
    have h5 := h5 (j / 5) (by omega)
    have hjd : j / 5 * 5 + j % 5 = j := by omega
    rw [← hjd, flat_at m (j / 5) (by omega) (j % 5) (by omega)] at hu
    rw [Addr.add_lit, ← hu]
    obtain ⟨c0, c1, c2, c3, c4⟩ := h5
    have : j % 5 = 0 ∨ j % 5 = 1 ∨ j % 5 = 2 ∨ j % 5 = 3 ∨ j % 5 = 4 := by omega
    rcases this with e | e | e | e | e
    · rw [e, show off + j = off + j / 5 * 5 by omega, c0]; rfl
    · rw [e, show off + j = off + j / 5 * 5 + 1 by omega, c1]; rfl
    · rw [e, show off + j = off + j / 5 * 5 + 2 by omega, c2]; rfl
    · rw [e, show off + j = off + j / 5 * 5 + 3 by omega, c3]; rfl
    · rw [e, show off + j = off + j / 5 * 5 + 4 by omega, c4]; rfl
  obtain ⟨v', w', hr, how, hgr, hnil, hat⟩ := run_append_own_at (P := Tryz.prog) w b 46 0 88 i0 _ 5 40 Tryz.underlying46 hi hz0 hz1 hz2 (by rfl) (by decide) v l.length _ ho a m.length c (m.flatMap ptL) (flat_len m) hnews (flat_one m) (by unfold maxLen; omega) hlen hb
  exact ⟨v', w', fun ty => hr, by rw [List.flatMap_append]; exact how, hgr, hnil, hat⟩
theorem PO.of_own {b : Nat} {w : World} {v : Value} {l : List Pt} (h : w.ownsRow b 88 5 v l.length (l.flatMap ptL)) : PO b w v l := by
  rcases h.2 with ⟨e1, h0⟩ | ⟨g, cap, cur, e1, hg, hh, hn, hcm, hcs, htk⟩
  · exact .inl ⟨e1, List.eq_nil_of_length_eq_zero h0⟩
  · refine .inr ⟨g, cap, cur, e1, hn, hcm, hg, hh, fun j hj k hk => ?_⟩
    rw [← flat_at l j hj k hk, ← htk, List.getElem?_take, if_pos (by have := Nat.mul_le_mul_right 5 (show j + 1 ≤ l.length by omega); omega)]
    simp
def TellsL (l : List Pt) (w : World) (e : Ending) (w' : World) : Prop := ∃ v, e = .returned v ∧ PO w.heap.size w' v l ∧ Fr No w w'
set_option maxRecDepth 100000 in
/-- slices.Clone. -/
theorem clone_any {K : Nat → Prop} {v : Value} {l : List Pt} (w : World) (h : PR K w v l) (hl : Lok l) : Calls Tryz.prog 56 #[v] w (TellsL l w) := by
  have h' := h
  rcases h with ⟨rfl, rfl⟩ | ⟨a, c, rfl, hc1, hc2, h4⟩
  · clear h'
    have hq := nil_eq
    go_enter Tryz.func56, Tryz.ntmps56
    go_wp2_with fail
    go_ret
    exact ⟨_, rfl, .inl ⟨rfl, rfl⟩, Fr.refl _ _⟩
  · obtain ⟨B, hB⟩ : ∃ B, w.heap.size = B := ⟨_, rfl⟩
    obtain ⟨w1, hw1⟩ : ∃ w1, w.alloc (.cells #[] 88) = w1 := ⟨_, rfl⟩
    have f1 : Fr No w w1 := by rw [← hw1]; exact (Fr.refl No w).alloc _
    have ho : w1.ownsRow B 88 5 (.slice (some ⟨B, 0, none⟩) 0 0) ([] : List Pt).length [] := by
      rw [← hw1, ← hB]
      exact ⟨by simp, .inr ⟨w.heap.size, 0, #[], rfl, Nat.le_refl _, heap_alloc_new w _, Nat.le_refl _, by decide, by simp, by simp⟩⟩
    obtain ⟨v', w', hrun, how, hgr, -, hat⟩ := append_parts [] ho rfl (by rw [← hB]; exact f1.size) (h'.no f1) (by have := hl.2; simp; omega)
    have hv' : ∃ A c, v' = .slice A l.length c := by
      rcases how.2 with ⟨e1, h0⟩ | ⟨g, cap, cur, e1, _⟩
      · exact ⟨none, 0, by rw [e1, show l.length = 0 by simpa using h0]⟩
      · exact ⟨_, cap, by rw [e1, List.length_nil, Nat.zero_add]⟩
    obtain ⟨A', c', rfl⟩ := hv'
    rw [List.nil_append, List.length_nil, Nat.zero_add] at how
    have hf' : Fr No w w' := by
      have hg := (f1.mono (G := fun k => k = B) fun _ _ h => h.elim).grown hgr (fun k hk hlt => by
        simp [Value.ownBlock] at hk; exact hk.symm)
      exact hg.mono fun k hk e => by omega
    have HR := Lib.hid hrun
    have HO : Hid (PO B w' (.slice A' l.length c') l) := Lib.hid (PO.of_own how)
    have HF := Lib.hid hf'
    have HW1 := Lib.hid hw1
    have HB := Lib.hid hB
    clear h' h4 hB hw1 f1 ho hrun how hgr hat hf' hl
    have hq := some_ne a l.length c
    go_enter Tryz.func56, Tryz.ntmps56
    go_upto_region 3 with fail
    clear hq
    go_wp2_with (at_builtin; rw [HW1.out, HB.out]; refine wpList_add rfl _ _ _ _ rfl _ _ _ _ rfl rfl (HR.out _) ?_)
    go_ret
    exact ⟨_, rfl, by rw [HB.out]; exact HO.out, HF.out⟩
end Go.Proofs.YtlpglijikmnopaaGreatDoor
