/- Facts that a law makes: rows by append, by a literal; the law's fact. -/
import Derived.Test.YtmaeejojmbibnaaH9
namespace Go.Proofs.Ytmaeejojmbibnaa
open Go.RowKit Go.Maps
set_option linter.unusedVariables false

/-- New blocks of texts and numbers, none of them a row of facts. -/
def LK (h0 : Nat) (w : World) (k : Nat) : Prop := h0 ≤ k ∧ ∃ cs t, Blk w k t cs ∧ t ≠ 51
theorem LK.keep {h0 : Nat} {w w' : World} (hf : Fr No w w') : ∀ k, LK h0 w k → k < w.heap.size → LK h0 w' k ∧ w'.heap[k]? = w.heap[k]? := by
  rintro k ⟨h1, cs, t, hb, ht⟩ hlt
  have e := hf.block k hlt id
  exact ⟨⟨h1, cs, t, hb.of e, ht⟩, e⟩
def LF2 (hr h0 : Nat) (w : World) (v : Value) (l : List FactP) : Prop := ∃ cells, w.ownsRow hr 51 2 v l.length cells ∧ l.length ≤ 100000 ∧ ∀ i (hi : i < l.length), ∃ dv mv, cells[i * 2]? = some dv ∧ cells[i * 2 + 1]? = some mv ∧ RowE (LK h0 w) w 1 strE dv l[i].dims ∧ RowE (LK h0 w) w 1 intE mv l[i].meas
abbrev LF (h0 : Nat) := LF2 h0 h0
section
variable {hr h0 : Nat} {w w' : World} {v : Value} {l : List FactP}
theorem LF2.nil (hr h0 : Nat) (w : World) : LF2 hr h0 w (.slice none 0 0) [] := ⟨[], World.ownsRow_nil _ _ _ _, by simp, fun i hi => absurd hi (by simp)⟩
theorem LF2.keep (h : LF2 hr h0 w v l) (hf : Fr No w w') : LF2 hr h0 w' v l := by
  obtain ⟨cells, o, hl, h⟩ := h
  refine ⟨cells, own_of o fun k hk => hf.block k (o.lt k hk).2 id, hl, fun i hi => ?_⟩
  obtain ⟨dv, mv, c1, c2, r1, r2⟩ := h i hi
  exact ⟨dv, mv, c1, c2, r1.of hf.size (LK.keep hf) fun _ _ _ h => h, r2.of hf.size (LK.keep hf) fun _ _ _ h => h⟩
theorem LF2.form (h : LF2 hr h0 w v l) : ∃ A c, v = .slice A l.length c := by
  obtain ⟨cells, o, hl, h⟩ := h
  exact own_form o
theorem LF2.facts (h : LF2 hr h0 w v l) (hh : h0 ≤ hr := by exact Nat.le_refl _) : Facts (fun k => h0 ≤ k ∧ k < w.heap.size) w v l := by
  obtain ⟨cells, o, hl, h⟩ := h
  obtain ⟨A, c, e⟩ := own_form o
  refine ⟨A, c, e, by unfold maxLen; omega, fun hp => ?_⟩
  obtain ⟨g, c', h1, _, h2⟩ := o.form hp
  rw [h1] at e
  injection e with e1 e2 e3
  rw [h1] at o
  refine ⟨g, 0, e1.symm, ⟨Nat.le_trans hh (o.lt g rfl).1, (o.lt g rfl).2⟩, (o.lt g rfl).2, fun j hj => ?_⟩
  obtain ⟨dv, mv, c1, c2, r1, r2⟩ := h j hj
  have hsub : ∀ k, LK h0 w k → k < w.heap.size → (h0 ≤ k ∧ k < w.heap.size) ∧ w.heap[k]? = w.heap[k]? := fun k hk hlt => ⟨⟨hk.1, hlt⟩, rfl⟩
  refine ⟨[dv, mv], rfl, fun i hi => ?_, dv, mv, rfl, r1.of (Nat.le_refl _) hsub fun _ _ _ h => h, r2.of (Nat.le_refl _) hsub fun _ _ _ h => h⟩
  rw [Nat.zero_add]
  refine (o.cellAt (j * 2 + i) (by omega)).trans ?_
  have : i = 0 ∨ i = 1 := by omega
  rcases this with rfl | rfl
  · exact c1
  · exact c2
/-- One fact more. -/
theorem LF2.push {wa w3 : World} {v' dv mv : Value} {f : FactP} {xs : List Value} (h : ∃ hl : l.length ≤ 100000, ∀ i (hi : i < l.length), ∃ dv mv, xs[i * 2]? = some dv ∧ xs[i * 2 + 1]? = some mv ∧ RowE (LK h0 w) w 1 strE dv l[i].dims ∧ RowE (LK h0 w) w 1 intE mv l[i].meas)
    (ho : w.ownsRow hr 51 2 v l.length xs) (hl : l.length < 100000) (rd : RowE (LK h0 w) w 1 strE dv f.dims) (rm : RowE (LK h0 w) w 1 intE mv f.meas) (fa : Fr No w wa) (hg : wa.grownBy w3 v.ownBlock)
    (ho3 : w3.ownsRow hr 51 2 v' (l.length + 1) (xs ++ [dv, mv])) : LF2 hr h0 w3 v' (l ++ [f]) := by
  obtain ⟨_, h⟩ := h
  have hfr : Fr (fun k => v.ownBlock = some k) w w3 := (fa.any).grown hg fun k hk _ => hk
  have hoff : ∀ k, LK h0 w k → k < w.heap.size → LK h0 w3 k ∧ w3.heap[k]? = w.heap[k]? := by
    rintro k ⟨h1, cs, t, hb, ht⟩ hlt
    have e := hfr.block k hlt fun e => by
      obtain ⟨cur, hc⟩ := own_row ho e
      exact Blk.ne_ hb hc ht rfl
    exact ⟨⟨h1, cs, t, hb.of e, ht⟩, e⟩
  have hxs : xs.length = l.length * 2 := ho.1
  refine ⟨xs ++ [dv, mv], by rw [List.length_append, List.length_singleton]; exact ho3, by simp; omega, fun i hi => ?_⟩
  by_cases e : i < l.length
  · obtain ⟨dv', mv', c1, c2, r1, r2⟩ := h i e
    have el : (l ++ [f])[i] = l[i] := by rw [List.getElem_append_left e]
    rw [el]
    refine ⟨dv', mv', ?_, ?_, r1.of hfr.size hoff fun _ _ _ h => h, r2.of hfr.size hoff fun _ _ _ h => h⟩
    · rw [List.getElem?_append_left (by omega)]; exact c1
    · rw [List.getElem?_append_left (by omega)]; exact c2
  · have hi' : i < l.length + 1 := by simpa using hi
    obtain rfl : i = l.length := by omega
    have el : (l ++ [f])[l.length] = f := by simp
    rw [el]
    refine ⟨dv, mv, ?_, ?_, rd.of hfr.size hoff fun _ _ _ h => h, rm.of hfr.size hoff fun _ _ _ h => h⟩
    · rw [List.getElem?_append_right (by omega), hxs, Nat.sub_self]; rfl
    · rw [List.getElem?_append_right (by omega), hxs, Nat.add_sub_cancel_left]; rfl
theorem LF2.open (h : LF2 hr h0 w v l) : ∃ xs, w.ownsRow hr 51 2 v l.length xs ∧ ∃ hl : l.length ≤ 100000, ∀ i (hi : i < l.length), ∃ dv mv, xs[i * 2]? = some dv ∧ xs[i * 2 + 1]? = some mv ∧ RowE (LK h0 w) w 1 strE dv l[i].dims ∧ RowE (LK h0 w) w 1 intE mv l[i].meas := by
  obtain ⟨xs, o, hl, h⟩ := h
  exact ⟨xs, o, hl, h⟩
end

/-! ### rows in blocks of their own -/
theorem row_blk {α : Type} {K : Nat → Prop} {w : World} {E : α → List Value → Prop} {g : Nat} {t : TypeId} {cs : Array Value} {l : List α} {enc : α → Value} (h : Blk w g t cs) (hK : K g) (hc : cs.toList = l.map enc) (hl : l.length ≤ maxLen) (hE : ∀ x ∈ l, E x [enc x]) (c : Nat) : RowE K w 1 E (.slice (some ⟨g, 0, none⟩) l.length c) l := by
  refine ⟨_, c, rfl, hl, fun hp => ⟨g, 0, rfl, hK, h.lt, fun j hj => ⟨[enc l[j]], rfl, fun i hi => ?_, hE _ (List.getElem_mem hj)⟩⟩⟩
  obtain rfl : i = 0 := by omega
  rw [Nat.zero_add, Nat.mul_one, Nat.add_zero, h.cell, ← Array.getElem?_toList, hc, List.getElem?_map, List.getElem?_eq_getElem hj]
  rfl
theorem strE_of {t : Tx} (h : t.length ≤ maxLen) : strE t [encT t] := ⟨rfl, h⟩
theorem intE_of {n : Int} (h : i64 n) : intE n [.int .i64 n] := ⟨rfl, h⟩
theorem facts_lit1 {K : Nat → Prop} {w : World} {g : Nat} {d1 m1 : Value} {f1 : FactP} (h : Blk w g 51 #[d1, m1]) (hK : K g) (h1 : factE K w f1 [d1, m1]) (c : Nat) : Facts K w (.slice (some ⟨g, 0, none⟩) 1 c) [f1] := by
  refine ⟨_, c, rfl, by simp [maxLen], fun hp => ⟨g, 0, rfl, hK, h.lt, fun j hj => ?_⟩⟩
  have hj' : j < 1 := hj
  obtain rfl : j = 0 := by omega
  refine ⟨[d1, m1], rfl, fun i hi => ?_, h1⟩
  rw [h.cell, ← Array.getElem?_toList]; simp
theorem facts_lit2 {K : Nat → Prop} {w : World} {g : Nat} {d1 m1 d2 m2 : Value} {f1 f2 : FactP} (h : Blk w g 51 #[d1, m1, d2, m2]) (hK : K g) (h1 : factE K w f1 [d1, m1]) (h2 : factE K w f2 [d2, m2]) (c : Nat) : Facts K w (.slice (some ⟨g, 0, none⟩) 2 c) [f1, f2] := by
  refine ⟨_, c, rfl, by simp [maxLen], fun hp => ⟨g, 0, rfl, hK, h.lt, fun j hj => ?_⟩⟩
  have hj' : j < 2 := hj
  have : j = 0 ∨ j = 1 := by omega
  rcases this with rfl | rfl
  · refine ⟨[d1, m1], rfl, fun i hi => ?_, h1⟩
    rw [h.cell, ← Array.getElem?_toList]
    have : i = 0 ∨ i = 1 := by omega
    rcases this with rfl | rfl <;> rfl
  · refine ⟨[d2, m2], rfl, fun i hi => ?_, h2⟩
    rw [h.cell, ← Array.getElem?_toList]
    have : i = 0 ∨ i = 1 := by omega
    rcases this with rfl | rfl <;> rfl
theorem blks3 (w : World) (A B C : Array Value) (t1 t2 t3 : TypeId) : Blk (((w.alloc (.cells A t1)).alloc (.cells B t2)).alloc (.cells C t3)) w.heap.size t1 A ∧ Blk (((w.alloc (.cells A t1)).alloc (.cells B t2)).alloc (.cells C t3)) (w.heap.size + 1) t2 B ∧ Blk (((w.alloc (.cells A t1)).alloc (.cells B t2)).alloc (.cells C t3)) (w.heap.size + 1 + 1) t3 C ∧ Fr No w (((w.alloc (.cells A t1)).alloc (.cells B t2)).alloc (.cells C t3)) := by
  obtain ⟨b1, b2, f⟩ := blk2 w A B t1 t2
  have b3 := Blk.new ((w.alloc (.cells A t1)).alloc (.cells B t2)) t3 C
  have e : ((w.alloc (.cells A t1)).alloc (.cells B t2)).heap.size = w.heap.size + 1 + 1 := by simp
  rw [e] at b3
  have g : Fr No ((w.alloc (.cells A t1)).alloc (.cells B t2)) (((w.alloc (.cells A t1)).alloc (.cells B t2)).alloc (.cells C t3)) := (Fr.refl No _).alloc _
  exact ⟨b1.of (g.block _ b1.lt id), b2.of (g.block _ b2.lt id), b3, f.alloc _⟩
/-- Blocks that are new since w0. -/
def Since (w0 w : World) (k : Nat) : Prop := w0.heap.size ≤ k ∧ k < w.heap.size
theorem factE.since {w0 w w' : World} {f : FactP} {cs : List Value} (h : factE (Since w0 w) w f cs) (hf : Fr No w w') : factE (Since w0 w') w' f cs :=
  h.of hf.size fun k hk hlt => ⟨⟨hk.1, Nat.lt_of_lt_of_le hk.2 hf.size⟩, hf.block k hlt id⟩
theorem factE.since2 {w00 w0 w : World} {f : FactP} {cs : List Value} (h : factE (Since w0 w) w f cs) (hs : w00.heap.size ≤ w0.heap.size) : factE (Since w00 w) w f cs :=
  h.of (Nat.le_refl _) fun k hk hlt => ⟨⟨Nat.le_trans hs hk.1, hk.2⟩, rfl⟩
def FactQ (f : FactP) (w : World) (e : Ending) (w' : World) : Prop := ∃ a c, e = .returned (.agg #[.slice (some ⟨a, 0, none⟩) 2 2, .slice (some ⟨c, 0, none⟩) 1 1]) ∧ factE (Since w w') w' f [.slice (some ⟨a, 0, none⟩) 2 2, .slice (some ⟨c, 0, none⟩) 1 1] ∧ Fr No w w'
set_option maxHeartbeats 1000000 in
theorem fact_any (a b : Tx) (m : Int) (ha : a.length ≤ maxLen) (hb : b.length ≤ maxLen) (hm : i64 m) (w : World) : Calls Try.prog 28 #[encT a, encT b, .int .i64 m] w (FactQ ⟨[a, b], [m]⟩ w) := by
  have hend : ∀ w3 x y, Fr No w w3 → w.heap.size ≤ x → w.heap.size ≤ y → Blk w3 x 9 #[encT a, encT b] → Blk w3 y 2 #[.int .i64 m] → FactQ ⟨[a, b], [m]⟩ w (.returned (.agg #[.slice (some ⟨x, 0, none⟩) 2 2, .slice (some ⟨y, 0, none⟩) 1 1])) w3 := fun w3 x y f hx hy b1 b2 =>
    ⟨x, y, rfl, ⟨_, _, rfl, row_blk (l := [a, b]) (enc := encT) b1 ⟨hx, b1.lt⟩ rfl (by simp [maxLen]) (fun t ht => strE_of (by simp at ht; rcases ht with rfl | rfl <;> assumption)) 2,
      row_blk (l := [m]) (enc := fun n => .int .i64 n) b2 ⟨hy, b2.lt⟩ rfl (by simp [maxLen]) (fun t ht => intE_of (by simp at ht; subst ht; exact hm)) 1⟩, f⟩
  have HE := Lib.hid hend
  clear hend
  unfold encT at HE ⊢
  generalize (⟨a.toArray⟩ : ByteArray) = sa at *
  generalize (⟨b.toArray⟩ : ByteArray) = sb at *
  clear ha hb hm
  go_enter Try.func28, Try.ntmps28
  go_wp2
  obtain ⟨b1, b2, b3, f⟩ := blks3 w #[.slice (some ⟨w.heap.size + 1, 0, none⟩) 2 2, .slice (some ⟨w.heap.size + 1 + 1, 0, none⟩) 1 1] #[.string sa, .string sb] #[.int .i64 m] 51 9 2
  have c0 := b1.cell 0
  have c1 := b1.cell 1
  exact bodyPost_ret (v := .agg #[.slice (some ⟨w.heap.size + 1, 0, none⟩) 2 2, .slice (some ⟨w.heap.size + 1 + 1, 0, none⟩) 1 1]) (by simp [results, Try.results28, go_sem, c0, c1]) rfl (HE.out _ _ _ f (by omega) (by omega) b2 b3)
end Go.Proofs.Ytmaeejojmbibnaa
