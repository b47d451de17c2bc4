/- A row in a box that grows; the list of groups. -/
import Derived.Test.YthejnkpnpckmbaaB7
namespace Go.Proofs.Ythejnkpnpckmbaa
open Go.RowKit Go.Maps
set_option linter.unusedVariables false

/-- A row of one's own, and the blocks on which its elements hang. -/
def GrowK {α : Type} (K : Nat → Prop) (b e size : Nat) (E : EG α) (w : World) (v : Value) (l : List α) : Prop :=
  ∃ (xs : List Value), w.ownsRow b e size v l.length xs ∧ (∀ j (h : j < l.length), ∃ cs : List Value, cs.length = size ∧ (∀ i, i < size → xs[j * size + i]? = cs[i]?) ∧ E K w l[j] cs) ∧ (∀ k, K k → b ≤ k ∧ k < w.heap.size ∧ v.ownBlock ≠ some k)
theorem GrowK.grow {α : Type} {K : Nat → Prop} {b e size : Nat} {E : EG α} {w : World} {v : Value} {l : List α} (h : GrowK K b e size E w v l) : Grow b e size E w v l := ⟨K, h⟩
theorem GrowK.keepF {α : Type} {K : Nat → Prop} {b e size : Nat} {E : EG α} (hE : Elem E) {F : Nat → Prop} {w w' : World} {v : Value} {l : List α} (h : GrowK K b e size E w v l) (hf : Fr F w w') (h1 : ∀ k, F k → ¬ K k) (h2 : ∀ k, F k → v.ownBlock ≠ some k) : GrowK K b e size E w' v l := by
  obtain ⟨xs, ho, hel, hK⟩ := h
  refine ⟨xs, own_of ho fun k hk => hf.block k (ho.lt k hk).2 fun hF => h2 k hF hk, fun j hj => ?_, fun k hk => ?_⟩
  · obtain ⟨cs, g1, g2, g3⟩ := hel j hj
    exact ⟨cs, g1, g2, hE.mono _ _ _ _ _ _ g3 fun k hk hlt => ⟨hk, hf.block k hlt fun hF => h1 k hF hk⟩⟩
  · obtain ⟨g1, g2, g3⟩ := hK k hk
    exact ⟨g1, Nat.lt_of_lt_of_le g2 hf.size, g3⟩
/-- One more, laid ahead in a block of its own. -/
theorem GrowK.more {α : Type} {K : Nat → Prop} {b e size bytes : Nat} {E : EG α} (hE : Elem E) {w0 w : World} {v : Value} {l : List α} (h : GrowK K b e size E w v l) (hb : b ≤ w0.heap.size) (hw0 : w0.heap.size ≤ w.heap.size) (hv0 : ∀ k, v.ownBlock = some k → k < w0.heap.size)
    (t : TypeId) (ht : Try.prog.underlying t = some (.slice e)) (z : Value) (hinfo : (Try.prog.info? e).map (fun i => (i.zero, i.size, i.bytes)) = some (some z, size, bytes)) (hzs : z.cells.size = size) (hsz : 0 < size)
    (x : α) (cs : List Value) (hcs : cs.length = size) (hone : ∀ u ∈ cs, u.oneCell' = true) (hx : E (fun k => w0.heap.size ≤ k) w x cs) (hlen : (l.length + 1) * bytes ≤ 140737488355328) (hmax : l.length + 1 ≤ maxLen) :
    ∃ A c w', (∀ ty, (Builtin.append_ #[t, t] ty #[v, .slice (some ⟨w.heap.size, 0, none⟩) 1 1]).run Try.prog (w.alloc (.cells cs.toArray e)) = .ok (.slice A (l.length + 1) c) w') ∧ GrowK (fun k => K k ∨ (w0.heap.size ≤ k ∧ k < w.heap.size)) b e size E w' (.slice A (l.length + 1) c) (l ++ [x]) ∧
      Fr (fun k => v.ownBlock = some k) w w' ∧ (∀ k, (Value.slice A (l.length + 1) c).ownBlock = some k → k < w'.heap.size ∧ (v.ownBlock = some k ∨ w.heap.size ≤ k)) := by
  obtain ⟨xs, ho, hel, hK⟩ := h
  obtain ⟨i0, hi, hz0, hz1, hz2⟩ := info_parts hinfo
  have hfa : Fr No w (w.alloc (.cells cs.toArray e)) := (Fr.refl No w).alloc _
  have ho' : (w.alloc (.cells cs.toArray e)).ownsRow b e size v l.length xs := own_of ho fun k hk => hfa.block k (ho.lt k hk).2 id
  have hnews : ∀ j u, cs[j]? = some u → (w.alloc (.cells cs.toArray e)).cell? ((⟨w.heap.size, 0, none⟩ : Addr).add j) = some u := by
    intro j u hu
    rw [Addr.add_lit, Nat.zero_add]
    exact ((Blk.new w e cs.toArray).cell j).trans (by simpa using hu)
  obtain ⟨v', w', hr, how, hgr, hnil, hat⟩ := run_append_own_at (P := Try.prog) (w.alloc (.cells cs.toArray e)) b t 0 e i0 z size bytes ht hi hz0 hz1 hz2 hzs hsz v l.length xs ho' ⟨w.heap.size, 0, none⟩ 1 1 cs (by omega) hnews hone hmax hlen (by simp; omega)
  have hv' : ∃ A c, v' = .slice A (l.length + 1) c := by
    rcases how.2 with ⟨e1, h0⟩ | ⟨g, cap, cur, e1, _⟩
    · omega
    · exact ⟨_, _, e1⟩
  obtain ⟨A, c, rfl⟩ := hv'
  have hsize : w.heap.size < (w.alloc (.cells cs.toArray e)).heap.size := by simp
  have hfr : Fr (fun k => v.ownBlock = some k) w w' := hfa.any.grown hgr fun k hk _ => hk
  have hw' : w.heap.size < w'.heap.size := Nat.lt_of_lt_of_le hsize hgr.size
  refine ⟨A, c, w', fun ty => hr, ⟨xs ++ cs, by simpa using how, fun j hj => ?_, fun k hk => ?_⟩, hfr, fun k hk => ?_⟩
  · rw [List.length_append, List.length_singleton] at hj
    by_cases hjl : j < l.length
    · obtain ⟨cs', h1, h2, h3⟩ := hel j hjl
      refine ⟨cs', h1, fun i hi' => ?_, ?_⟩
      · have hlt : j * size + i < xs.length := by
          rw [ho.1]
          have := Nat.mul_le_mul_right size (show j + 1 ≤ l.length by omega)
          rw [Nat.add_mul, Nat.one_mul] at this
          omega
        rw [List.getElem?_append_left hlt]; exact h2 i hi'
      · rw [List.getElem_append_left hjl]
        exact hE.mono _ _ _ _ _ _ h3 fun k hk hlt => ⟨.inl hk, hfr.block k hlt (hK k hk).2.2⟩
    · obtain rfl : j = l.length := by omega
      refine ⟨cs, hcs, fun i hi' => ?_, ?_⟩
      · rw [List.getElem?_append_right (by rw [ho.1]; omega), ho.1, Nat.add_sub_cancel_left]
      · rw [List.getElem_append_right (by omega)]
        simp only [Nat.sub_self, List.getElem_cons_zero]
        exact hE.mono _ _ _ _ _ _ hx fun k hk hlt => ⟨.inr ⟨hk, hlt⟩, hfr.block k hlt fun e => by have := hv0 k e; omega⟩
  · have hatk : ∀ j, (Value.slice A (l.length + 1) c).ownBlock = some j → v.ownBlock = some j ∨ j = (w.alloc (.cells cs.toArray e)).heap.size := fun j hj => by
      rcases hat with e1 | e1
      · exact .inl (e1 ▸ hj)
      · rw [hj] at e1; exact .inr (Option.some.inj e1)
    rcases hk with hk | hk
    · obtain ⟨h1, h2, h3⟩ := hK k hk
      refine ⟨h1, by omega, fun e1 => ?_⟩
      rcases hatk k e1 with e2 | e2
      · exact h3 e2
      · omega
    · refine ⟨by omega, by omega, fun e1 => ?_⟩
      rcases hatk k e1 with e2 | e2
      · have := hv0 k e2; omega
      · omega
  · refine ⟨(how.lt k hk).2, ?_⟩
    rcases hat with e1 | e1
    · exact .inl (e1 ▸ hk)
    · rw [hk] at e1
      have := Option.some.inj e1
      exact .inr (by omega)
/-- A box that holds a row of one's own. -/
def BoxG {α : Type} (t e b0 : Nat) (E : EG α) (lb : Nat) (l : List α) (w : World) : Prop :=
  b0 ≤ lb ∧ ∃ A c K, Blk w lb t #[.slice A l.length c] ∧ GrowK K b0 e 1 E w (.slice A l.length c) l ∧ (∀ k, (Value.slice A l.length c).ownBlock = some k → k ≠ lb) ∧ ¬ K lb
theorem BoxG.keep {α : Type} {t e b0 : Nat} {E : EG α} (hE : Elem E) {lb : Nat} {l : List α} {w w' : World} (h : BoxG t e b0 E lb l w) (f : Fr No w w') : BoxG t e b0 E lb l w' := by
  obtain ⟨h0, A, c, K, h1, h2, h3, h4⟩ := h
  exact ⟨h0, A, c, K, h1.of (f.block _ h1.lt id), h2.keepF hE f (fun _ h => h.elim) (fun _ h => h.elim), h3, h4⟩
theorem BoxG.push {α : Type} {t e b0 bytes : Nat} {E : EG α} (hE : Elem E) {lb : Nat} {l : List α} {w0 w : World} (h : BoxG t e b0 E lb l w0) (f : Fr No w0 w) (hb0 : b0 ≤ w0.heap.size)
    (ht : Try.prog.underlying t = some (.slice e)) (z : Value) (hinfo : (Try.prog.info? e).map (fun i => (i.zero, i.size, i.bytes)) = some (some z, 1, bytes)) (hzs : z.cells.size = 1)
    (x : α) (u : Value) (hone : u.oneCell' = true) (hx : E (fun k => w0.heap.size ≤ k) w x [u]) (hlen : (l.length + 1) * bytes ≤ 140737488355328) (hmax : l.length + 1 ≤ maxLen) :
    ∃ A c A' c' w', w.cell? ⟨lb, 0, none⟩ = some (.slice A l.length c) ∧ (∀ ty, (Builtin.append_ #[t, t] ty #[.slice A l.length c, .slice (some ⟨w.heap.size, 0, none⟩) 1 1]).run Try.prog (w.alloc (.cells #[u] e)) = .ok (.slice A' (l.length + 1) c') w') ∧
      w'.cell? ⟨lb, 0, none⟩ = some (.slice A l.length c) ∧ w'.frozen? ⟨lb, 0, none⟩ = false ∧ BoxG t e b0 E lb (l ++ [x]) (w'.setCell ⟨lb, 0, none⟩ (.slice A' (l.length + 1) c')) ∧ Fr (fun k => b0 ≤ k) w (w'.setCell ⟨lb, 0, none⟩ (.slice A' (l.length + 1) c')) := by
  obtain ⟨h0, A, c, K, h1, h2, h3, h4⟩ := h
  have h1w := h1.of (f.block _ h1.lt id)
  have h2w := h2.keepF hE f (fun _ h => h.elim) (fun _ h => h.elim)
  obtain ⟨A', c', w', hrun, hg', hf', hlt⟩ := GrowK.more (bytes := bytes) hE (w0 := w0) h2w hb0 f.size (fun k hk => (h2.grow.lt k hk).2) t ht z hinfo hzs (by decide) x [u] rfl (by simp [hone]) hx hlen hmax
  have hlb : Blk w' lb t #[.slice A l.length c] := h1w.of (hf'.block _ h1w.lt fun e1 => h3 lb e1 rfl)
  obtain ⟨w2, hw2⟩ : ∃ w2, w'.setCell ⟨lb, 0, none⟩ (.slice A' (l.length + 1) c') = w2 := ⟨_, rfl⟩
  have f2 : Fr (fun k => k = lb) w' w2 := by rw [← hw2]; exact (Fr.refl (fun k => k = lb) w').setCell (p := ⟨lb, 0, none⟩) (fun _ => rfl) _
  have hown : ∀ k, (Value.slice A' (l.length + 1) c').ownBlock = some k → k ≠ lb := fun k hk => by
    rcases (hlt k hk).2 with e1 | e1
    · exact h3 k e1
    · intro e2; have := h1w.lt; omega
  have hK : ¬ (K lb ∨ (w0.heap.size ≤ lb ∧ lb < w.heap.size)) := by
    rintro (h | h)
    · exact h4 h
    · have := h1.lt; omega
  refine ⟨A, c, A', c', w', h1w.cell 0, hrun, hlb.cell 0, hlb.frozen 0, ?_, ?_⟩
  · rw [hw2]
    refine ⟨h0, A', c', fun k => K k ∨ (w0.heap.size ≤ k ∧ k < w.heap.size), ?_, ?_, ?_, hK⟩
    · rw [List.length_append, ← hw2]
      exact hlb.set_ 0 _
    · rw [List.length_append]
      exact hg'.keepF hE f2 (fun k hk => by rw [show k = lb from hk]; exact hK) fun k hk hk2 => hown k hk2 hk
    · rw [List.length_append]; exact hown
  · rw [hw2]
    exact (hf'.mono fun k _ hk => (h2.grow.lt k hk).1).trans (f2.mono fun k _ hk => by rw [show k = lb from hk]; exact h0) fun _ _ h => h
/-- A row of one's own has turned: what was there at the start stays. -/
theorem Fr.up_base {w w5 w8 : World} {B : Nat} (h : Fr No w w5) (hB : w.heap.size = B) (f : Fr (fun k => B ≤ k) w5 w8) : Fr No w w8 :=
  ⟨f.os.trans h.os, f.tape.trans h.tape, f.output.trans h.output, Nat.le_trans h.size f.size, fun k hk _ => (f.block k (Nat.lt_of_lt_of_le hk h.size) fun e => by omega).trans (h.block k hk id)⟩
theorem Grow.base {α : Type} {b b' e size : Nat} {E : EG α} {w : World} {v : Value} {l : List α} (h : Grow b e size E w v l) (hb : b' ≤ b) : Grow b' e size E w v l := by
  obtain ⟨K, xs, ho, hel, hK⟩ := h
  exact ⟨K, xs, own_base ho hb, hel, fun k hk => ⟨Nat.le_trans hb (hK k hk).1, (hK k hk).2⟩⟩
/-- What was built, read as a row in blocks that were there. -/
theorem GrowK.rowX {α : Type} {K : Nat → Prop} {b e size y : Nat} {E : EG α} (hE : Elem E) {w : World} {v : Value} {l : List α} (h : GrowK K b e size E w v l) (hy : w.heap.size = y) : RowE (fun k => k < y) w size (E (fun k => k < y) w) v l := by
  obtain ⟨xs, ho, hel, hK⟩ := h
  rcases ho.2 with ⟨e1, h0'⟩ | ⟨g, cap, cur, e1, hg, hh, hn, hcm, hcs, htk⟩
  · exact ⟨none, 0, by rw [h0']; exact e1, by omega, by decide, fun h0 => by omega⟩
  · have hgl := (ho.lt g (by rw [e1]; rfl)).2
    refine ⟨_, cap, e1, hn, hcm, fun h0 => ⟨g, 0, rfl, by omega, hgl, fun j hj => ?_⟩⟩
    obtain ⟨cs, h1, h2, h3⟩ := hel j hj
    refine ⟨cs, h1, fun i hi => ?_, hE.mono _ _ _ _ _ _ h3 fun k hk hlt => ⟨by omega, rfl⟩⟩
    rw [cell_of_row w g _ cur e (0, 0) hh, ← h2 i hi, ← htk, List.getElem?_take, Nat.zero_add]
    have hlt : j * size + i < l.length * size := by
      have := Nat.mul_le_mul_right size (show j + 1 ≤ l.length by omega)
      rw [Nat.add_mul, Nat.one_mul] at this
      omega
    rw [if_pos hlt]
    simp
end Go.Proofs.Ythejnkpnpckmbaa
