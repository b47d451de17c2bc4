/- Rows of one's own that grow and turn; groups by their keys. -/
import Derived.Test.YtlpglijikmnopaaGreatDoorUG4
import Derived.Deep.RegionWith
import Derived.Deep.RegionHeld3
namespace Go.Proofs.YtlpglijikmnopaaGreatDoor
open Go.RowKit Go.Maps Go.Sort
set_option linter.unusedVariables false

section
variable {α : Type}
/-- A row of one's own that leads to blocks of which X speaks. -/
def GrX (X : Nat → Prop) (b e size : Nat) (E : (Nat → Prop) → World → α → List Value → Prop) (w : World) (v : Value) (l : List α) : Prop :=
  ∃ (K : Nat → Prop) (xs : List Value), w.ownsRow b e size v l.length xs ∧ (∀ j (h : j < l.length), ∃ cs : List Value, cs.length = size ∧ (∀ i, i < size → xs[j * size + i]? = cs[i]?) ∧ E K w l[j] cs) ∧ (∀ k, K k → X k ∧ k < w.heap.size ∧ v.ownBlock ≠ some k)
theorem GrX.grow {X : Nat → Prop} {b e size : Nat} {E : (Nat → Prop) → World → α → List Value → Prop} {w : World} {v : Value} {l : List α} (h : GrX X b e size E w v l) (hX : ∀ k, X k → b ≤ k) : Grow b e size E w v l := by
  obtain ⟨K, xs, h1, h2, h3⟩ := h
  exact ⟨K, xs, h1, h2, fun k hk => ⟨hX k (h3 k hk).1, (h3 k hk).2⟩⟩
theorem GrX.nil_ (X : Nat → Prop) (b e size : Nat) (E : EG α) (w : World) : GrX X b e size E w (.slice none 0 0) [] :=
  ⟨fun _ => False, [], ⟨by simp, .inl ⟨rfl, rfl⟩⟩, fun j hj => absurd hj (by simp), fun k hk => hk.elim⟩
theorem GrX.len {X : Nat → Prop} {b e size : Nat} {E : (Nat → Prop) → World → α → List Value → Prop} {w : World} {v : Value} {l : List α} (h : GrX X b e size E w v l) : ∃ A c, v = .slice A l.length c := by
  obtain ⟨K, xs, ho, _⟩ := h
  rcases ho.2 with ⟨e1, h0⟩ | ⟨g, cap, cur, e1, _⟩
  · exact ⟨_, _, by rw [h0]; exact e1⟩
  · exact ⟨_, _, e1⟩
theorem GrX.lt {X : Nat → Prop} {b e size : Nat} {E : (Nat → Prop) → World → α → List Value → Prop} {w : World} {v : Value} {l : List α} (h : GrX X b e size E w v l) : ∀ k, v.ownBlock = some k → b ≤ k ∧ k < w.heap.size := by
  obtain ⟨K, xs, ho, _⟩ := h
  exact fun k hk => ho.lt k hk
/-- It stays, where neither its own block nor those that it leads to turn. -/
theorem GrX.keep {X : Nat → Prop} {b e size : Nat} {E : (Nat → Prop) → World → α → List Value → Prop} (hE : Elem E) {w w' : World} {v : Value} {l : List α} (h : GrX X b e size E w v l) {F : Nat → Prop} (hf : Fr F w w') (hF : ∀ k, F k → k < w.heap.size → ¬ X k ∧ v.ownBlock ≠ some k) : GrX X b e size E w' v l := by
  obtain ⟨K, xs, ho, hel, hK⟩ := h
  refine ⟨K, xs, own_of ho fun k hk => ?_, fun j hj => ?_, fun k hk => ?_⟩
  · have := ho.lt k hk
    exact hf.block k this.2 fun hF' => (hF k hF' this.2).2 hk
  · obtain ⟨cs, h1, h2, h3⟩ := hel j hj
    exact ⟨cs, h1, h2, hE.mono _ _ _ _ _ _ h3 fun k hk hlt => ⟨hk, hf.block k hlt fun hF' => (hF k hF' hlt).1 (hK k hk).1⟩⟩
  · obtain ⟨h1, h2, h3⟩ := hK k hk
    exact ⟨h1, Nat.lt_of_lt_of_le h2 hf.size, h3⟩
/-- One more, laid ahead in a block of its own; what it leads to lies apart from the row. -/
theorem GrX.add {X : Nat → Prop} {b e size bytes : Nat} {E : (Nat → Prop) → World → α → List Value → Prop} (hE : Elem E) {w : World} {v : Value} {l : List α} (h : GrX X b e size E w v l) (hb : b ≤ w.heap.size)
    (t : TypeId) (ht : Tryz.prog.underlying t = some (.slice e)) (z : Value) (hinfo : (Tryz.prog.info? e).map (fun i => (i.zero, i.size, i.bytes)) = some (some z, size, bytes)) (hzs : z.cells.size = size) (hsz : 0 < size)
    (x : α) (cs : List Value) (hcs : cs.length = size) (hone : ∀ u ∈ cs, u.oneCell' = true) {K' : Nat → Prop} (hx : E K' w x cs) (hK' : ∀ k, K' k → k < w.heap.size → X k ∧ v.ownBlock ≠ some k) (hlen : (l.length + 1) * bytes ≤ 140737488355328) (hmax : l.length + 1 ≤ maxLen) :
    ∃ A c w', (∀ ty, (Builtin.append_ #[t, t] ty #[v, .slice (some ⟨w.heap.size, 0, none⟩) 1 1]).run Tryz.prog (w.alloc (.cells cs.toArray e)) = .ok (.slice A (l.length + 1) c) w') ∧ GrX X b e size E w' (.slice A (l.length + 1) c) (l ++ [x]) ∧
      Fr (fun k => v.ownBlock = some k) w w' ∧ (∀ k, (Value.slice A (l.length + 1) c).ownBlock = some k → k < w'.heap.size ∧ (v.ownBlock = some k ∨ w.heap.size ≤ k)) := by
  obtain ⟨K, xs, ho, hel, hK⟩ := h
  obtain ⟨i0, hi, hz0, hz1, hz2⟩ := info_parts hinfo
  have hfa : Fr No w (w.alloc (.cells cs.toArray e)) := (Fr.refl No w).alloc _
  have ho' : (w.alloc (.cells cs.toArray e)).ownsRow b e size v l.length xs := own_of ho fun k hk => hfa.block k (ho.lt k hk).2 id
  have hnews : ∀ j u, cs[j]? = some u → (w.alloc (.cells cs.toArray e)).cell? ((⟨w.heap.size, 0, none⟩ : Addr).add j) = some u := by
    intro j u hu
    rw [Addr.add_lit, Nat.zero_add]
    exact ((Blk.new w e cs.toArray).cell j).trans (by simpa using hu)
  obtain ⟨v', w', hr, how, hgr, hnil, hat⟩ := run_append_own_at (P := Tryz.prog) (w.alloc (.cells cs.toArray e)) b t 0 e i0 z size bytes ht hi hz0 hz1 hz2 hzs hsz v l.length xs ho' ⟨w.heap.size, 0, none⟩ 1 1 cs (by omega) hnews hone hmax hlen (by simp; omega)
  have hv' : ∃ A c, v' = .slice A (l.length + 1) c := by
    rcases how.2 with ⟨e1, h0⟩ | ⟨g, cap, cur, e1, _⟩
    · omega
    · exact ⟨_, _, e1⟩
  obtain ⟨A, c, rfl⟩ := hv'
  have hsize : w.heap.size < (w.alloc (.cells cs.toArray e)).heap.size := by simp
  have hfr : Fr (fun k => v.ownBlock = some k) w w' := hfa.any.grown hgr fun k hk _ => hk
  have hw' : w.heap.size < w'.heap.size := Nat.lt_of_lt_of_le hsize hgr.size
  refine ⟨A, c, w', fun ty => hr, ⟨fun k => K k ∨ (K' k ∧ k < w.heap.size), xs ++ cs, by simpa using how, fun j hj => ?_, fun k hk => ?_⟩, hfr, fun k hk => ?_⟩
  · rw [List.length_append, List.length_singleton] at hj
    by_cases hjl : j < l.length
    · obtain ⟨cs', h1, h2, h3⟩ := hel j hjl
      refine ⟨cs', h1, fun i hi' => ?_, ?_⟩
      · have hlt : j * size + i < xs.length := by
          rw [ho.1]
          have := Nat.mul_le_mul_right size (show j + 1 ≤ l.length by omega)
          rw [Nat.add_mul, Nat.one_mul] at this
          omega
        rw [List.getElem?_append_left hlt]; exact h2 i hi'
      · rw [List.getElem_append_left hjl]
        exact hE.mono _ _ _ _ _ _ h3 fun k hk hlt => ⟨.inl hk, hfr.block k hlt (hK k hk).2.2⟩
    · obtain rfl : j = l.length := by omega
      refine ⟨cs, hcs, fun i hi' => ?_, ?_⟩
      · rw [List.getElem?_append_right (by rw [ho.1]; omega), ho.1, Nat.add_sub_cancel_left]
      · rw [List.getElem_append_right (by omega)]
        simp only [Nat.sub_self, List.getElem_cons_zero]
        exact hE.mono _ _ _ _ _ _ hx fun k hk hlt => ⟨.inr ⟨hk, hlt⟩, hfr.block k hlt (hK' k hk hlt).2⟩
  · have hatk : ∀ j, (Value.slice A (l.length + 1) c).ownBlock = some j → v.ownBlock = some j ∨ j = (w.alloc (.cells cs.toArray e)).heap.size := fun j hj => by
      rcases hat with e1 | e1
      · exact .inl (e1 ▸ hj)
      · rw [hj] at e1; exact .inr (Option.some.inj e1)
    rcases hk with hk | ⟨hk, hlt⟩
    · obtain ⟨h1, h2, h3⟩ := hK k hk
      refine ⟨h1, by omega, fun e1 => ?_⟩
      rcases hatk k e1 with e2 | e2
      · exact h3 e2
      · omega
    · refine ⟨(hK' k hk hlt).1, by omega, fun e1 => ?_⟩
      rcases hatk k e1 with e2 | e2
      · exact (hK' k hk hlt).2 e2
      · omega
  · refine ⟨(how.lt k hk).2, ?_⟩
    rcases hat with e1 | e1
    · exact .inl (e1 ▸ hk)
    · rw [hk] at e1
      have := Option.some.inj e1
      exact .inr (by omega)
end
theorem oneV (c : Int) : (Value.int .i64 c).oneCell' = true := rfl
theorem PR.one {K : Nat → Prop} {w : World} {v : Value} {l : List Pt} (h : PR K w v l) : v.oneCell' = true := by
  obtain ⟨A, c, rfl, -⟩ := h.form; rfl
theorem PRz.one {K : Nat → Prop} {w : World} {v : Value} {l : List Pt} (h : PRz K w v l) : v.oneCell' = true := h.1.one
theorem KR.one {K : Nat → Prop} {w : World} {v : Value} {l : List Tx} (h : KR K w v l) : v.oneCell' = true := by
  obtain ⟨A, c, rfl, -⟩ := h.form; rfl
theorem KRz.one {K : Nat → Prop} {w : World} {v : Value} {l : List Tx} (h : KRz K w v l) : v.oneCell' = true := h.1.one
/-- A row's accumulator is stored anew. -/
theorem GrX.setA {X : Nat → Prop} {b : Nat} {w : World} {g n c : Nat} {l : List Rw} (h : GrX X b 50 3 rwG w (.slice (some ⟨g, 0, none⟩) n c) l) {i : Nat} (hi : i < l.length) (a : Ac) {pv : Value} {K' : Nat → Prop} (hp : PR K' w pv a.parts) (hK' : ∀ k, K' k → k < w.heap.size → X k ∧ k ≠ g) :
    (∃ kv pv, w.cell? ⟨g, i * 3, none⟩ = some kv ∧ w.cell? ⟨g, i * 3 + 1, none⟩ = some (.int .i64 l[i].acc.count) ∧ w.cell? ⟨g, i * 3 + 2, none⟩ = some pv ∧ PR X w pv l[i].acc.parts) ∧ (∀ j, w.frozen? ⟨g, j, none⟩ = false) ∧
    GrX X b 50 3 rwG ((w.setCell ⟨g, i * 3 + 1, none⟩ (.int .i64 a.count)).setCell ⟨g, i * 3 + 2, none⟩ pv) (.slice (some ⟨g, 0, none⟩) n c) (setA l i a) := by
  obtain ⟨K, xs, ho, hel, hK⟩ := h
  have hn : n = l.length := by
    rcases ho.2 with ⟨e1, _⟩ | ⟨g', cap, cur, e1, _⟩
    · cases e1
    · injection e1
  subst hn
  have hil : l[i]? = some l[i] := List.getElem?_eq_getElem hi
  obtain ⟨cs, hcl, hcs, kv, pv0, rfl, hkr, hpr⟩ := hel i hi
  have hb3 : i * 3 + 3 ≤ l.length * 3 := by
    have := Nat.mul_le_mul_right 3 (show i + 1 ≤ l.length by omega)
    rw [Nat.add_mul, Nat.one_mul] at this
    exact this
  have hxl : xs.length = l.length * 3 := ho.1
  refine ⟨⟨kv, pv0, (ho.cellAt (i * 3) (by omega)).trans (hcs 0 (by decide)), (ho.cellAt (i * 3 + 1) (by omega)).trans (hcs 1 (by decide)), (ho.cellAt (i * 3 + 2) (by omega)).trans (hcs 2 (by decide)), hpr.mono' fun k hk hlt => ⟨(hK k hk).1, rfl⟩⟩, fun j => ho.frozenAt j, ?_⟩
  obtain ⟨w2, hw2⟩ : ∃ w2, (w.setCell ⟨g, i * 3 + 1, none⟩ (.int .i64 a.count)).setCell ⟨g, i * 3 + 2, none⟩ pv = w2 := ⟨_, rfl⟩
  have hf : Fr (fun k => k = g) w w2 := by rw [← hw2]; exact ((Fr.refl (fun k => k = g) w).setCell (p := ⟨g, i * 3 + 1, none⟩) (fun _ => rfl) _).setCell (p := ⟨g, i * 3 + 2, none⟩) (fun _ => rfl) _
  have ho2 : w2.ownsRow b 50 3 (.slice (some ⟨g, 0, none⟩) l.length c) l.length ((xs.set (i * 3 + 1) (.int .i64 a.count)).set (i * 3 + 2) pv) := by
    rw [← hw2]
    exact ((ho.stored (i * 3 + 1) _).1.stored (i * 3 + 2) _).1
  rw [hw2]
  have hsl : (Go.Proofs.YtlpglijikmnopaaGreatDoor.setA l i a).length = l.length := setA_len l i a
  refine ⟨fun k => K k ∨ (K' k ∧ k < w.heap.size), _, by rw [hsl]; exact ho2, fun j hj => ?_, fun k hk => ?_⟩
  · rw [hsl] at hj
    have hset : Go.Proofs.YtlpglijikmnopaaGreatDoor.setA l i a = l.set i ⟨l[i].key, a⟩ := by unfold Go.Proofs.YtlpglijikmnopaaGreatDoor.setA; rw [hil]
    by_cases e : i = j
    · subst e
      refine ⟨[kv, .int .i64 a.count, pv], rfl, fun q hq => ?_, kv, pv, ?_, ?_, ?_⟩
      · rw [List.getElem?_set, List.getElem?_set]
        have : q = 0 ∨ q = 1 ∨ q = 2 := by omega
        rcases this with rfl | rfl | rfl
        · rw [if_neg (by omega), if_neg (by omega)]
          exact hcs 0 (by decide)
        · rw [if_neg (by omega), if_pos rfl, if_pos (by omega)]; rfl
        · rw [if_pos rfl, if_pos (by rw [List.length_set]; omega)]; rfl
      · simp only [hset, List.getElem_set_self]
      · simp only [hset, List.getElem_set_self]
        exact hkr.mono (fun k hk hlt => ⟨.inl hk, hf.block k hlt fun e => (hK k hk).2.2 (by rw [e]; rfl)⟩) fun _ _ h => h
      · simp only [hset, List.getElem_set_self]
        exact hp.mono' fun k hk hlt => ⟨.inr ⟨hk, hlt⟩, hf.block k hlt (hK' k hk hlt).2⟩
    · obtain ⟨cs', h1, h2, h3⟩ := hel j hj
      refine ⟨cs', h1, fun q hq => ?_, ?_⟩
      · rw [List.getElem?_set, List.getElem?_set, if_neg (by omega), if_neg (by omega)]
        exact h2 q hq
      · have he : (Go.Proofs.YtlpglijikmnopaaGreatDoor.setA l i a)[j]'(by rw [hsl]; exact hj) = l[j] := by simp only [hset, List.getElem_set_ne e]
        rw [he]
        exact rwG_elem.mono _ _ _ _ _ _ h3 fun k hk hlt => ⟨.inl hk, hf.block k hlt fun e => (hK k hk).2.2 (by rw [e]; rfl)⟩
  · rcases hk with hk | ⟨hk, hlt⟩
    · obtain ⟨h1, h2, h3⟩ := hK k hk
      exact ⟨h1, Nat.lt_of_lt_of_le h2 hf.size, h3⟩
    · have := hK' k hk hlt
      refine ⟨this.1, Nat.lt_of_lt_of_le hlt hf.size, fun e => ?_⟩
      simp [Value.ownBlock] at e
      exact this.2 e.symm

/-- A row's accumulator is stored anew. -/
theorem GrX.setAz {X : Nat → Prop} {b : Nat} {w : World} {g n c : Nat} {l : List Rw} (h : GrX X b 50 3 rwU w (.slice (some ⟨g, 0, none⟩) n c) l) {i : Nat} (hi : i < l.length) (a : Ac) {pv : Value} {K' : Nat → Prop} (hp : PRz K' w pv a.parts) (hK' : ∀ k, K' k → k < w.heap.size → X k ∧ k ≠ g) :
    (∃ kv pv, w.cell? ⟨g, i * 3, none⟩ = some kv ∧ w.cell? ⟨g, i * 3 + 1, none⟩ = some (.int .i64 l[i].acc.count) ∧ w.cell? ⟨g, i * 3 + 2, none⟩ = some pv ∧ PRz X w pv l[i].acc.parts) ∧ (∀ j, w.frozen? ⟨g, j, none⟩ = false) ∧
    GrX X b 50 3 rwU ((w.setCell ⟨g, i * 3 + 1, none⟩ (.int .i64 a.count)).setCell ⟨g, i * 3 + 2, none⟩ pv) (.slice (some ⟨g, 0, none⟩) n c) (_root_.Go.Proofs.YtlpglijikmnopaaGreatDoor.setA l i a) := by
  obtain ⟨K, xs, ho, hel, hK⟩ := h
  have hn : n = l.length := by
    rcases ho.2 with ⟨e1, _⟩ | ⟨g', cap, cur, e1, _⟩
    · cases e1
    · injection e1
  subst hn
  have hil : l[i]? = some l[i] := List.getElem?_eq_getElem hi
  obtain ⟨cs, hcl, hcs, kv, pv0, rfl, hkr, hpr⟩ := hel i hi
  have hb3 : i * 3 + 3 ≤ l.length * 3 := by
    have := Nat.mul_le_mul_right 3 (show i + 1 ≤ l.length by omega)
    rw [Nat.add_mul, Nat.one_mul] at this
    exact this
  have hxl : xs.length = l.length * 3 := ho.1
  refine ⟨⟨kv, pv0, (ho.cellAt (i * 3) (by omega)).trans (hcs 0 (by decide)), (ho.cellAt (i * 3 + 1) (by omega)).trans (hcs 1 (by decide)), (ho.cellAt (i * 3 + 2) (by omega)).trans (hcs 2 (by decide)), hpr.mono' fun k hk hlt => ⟨(hK k hk).1, rfl⟩⟩, fun j => ho.frozenAt j, ?_⟩
  obtain ⟨w2, hw2⟩ : ∃ w2, (w.setCell ⟨g, i * 3 + 1, none⟩ (.int .i64 a.count)).setCell ⟨g, i * 3 + 2, none⟩ pv = w2 := ⟨_, rfl⟩
  have hf : Fr (fun k => k = g) w w2 := by rw [← hw2]; exact ((Fr.refl (fun k => k = g) w).setCell (p := ⟨g, i * 3 + 1, none⟩) (fun _ => rfl) _).setCell (p := ⟨g, i * 3 + 2, none⟩) (fun _ => rfl) _
  have ho2 : w2.ownsRow b 50 3 (.slice (some ⟨g, 0, none⟩) l.length c) l.length ((xs.set (i * 3 + 1) (.int .i64 a.count)).set (i * 3 + 2) pv) := by
    rw [← hw2]
    exact ((ho.stored (i * 3 + 1) _).1.stored (i * 3 + 2) _).1
  rw [hw2]
  have hsl : (Go.Proofs.YtlpglijikmnopaaGreatDoor.setA l i a).length = l.length := setA_len l i a
  refine ⟨fun k => K k ∨ (K' k ∧ k < w.heap.size), _, by rw [hsl]; exact ho2, fun j hj => ?_, fun k hk => ?_⟩
  · rw [hsl] at hj
    have hset : Go.Proofs.YtlpglijikmnopaaGreatDoor.setA l i a = l.set i ⟨l[i].key, a⟩ := by unfold Go.Proofs.YtlpglijikmnopaaGreatDoor.setA; rw [hil]
    by_cases e : i = j
    · subst e
      refine ⟨[kv, .int .i64 a.count, pv], rfl, fun q hq => ?_, kv, pv, ?_, ?_, ?_⟩
      · rw [List.getElem?_set, List.getElem?_set]
        have : q = 0 ∨ q = 1 ∨ q = 2 := by omega
        rcases this with rfl | rfl | rfl
        · rw [if_neg (by omega), if_neg (by omega)]
          exact hcs 0 (by decide)
        · rw [if_neg (by omega), if_pos rfl, if_pos (by omega)]; rfl
        · rw [if_pos rfl, if_pos (by rw [List.length_set]; omega)]; rfl
      · simp only [hset, List.getElem_set_self]
      · simp only [hset, List.getElem_set_self]
        exact hkr.mono (fun k hk hlt => ⟨.inl hk, hf.block k hlt fun e => (hK k hk).2.2 (by rw [e]; rfl)⟩) fun _ _ h => h
      · simp only [hset, List.getElem_set_self]
        exact hp.mono' fun k hk hlt => ⟨.inr ⟨hk, hlt⟩, hf.block k hlt (hK' k hk hlt).2⟩
    · obtain ⟨cs', h1, h2, h3⟩ := hel j hj
      refine ⟨cs', h1, fun q hq => ?_, ?_⟩
      · rw [List.getElem?_set, List.getElem?_set, if_neg (by omega), if_neg (by omega)]
        exact h2 q hq
      · have he : (Go.Proofs.YtlpglijikmnopaaGreatDoor.setA l i a)[j]'(by rw [hsl]; exact hj) = l[j] := by simp only [hset, List.getElem_set_ne e]
        rw [he]
        exact rwU_elem.mono _ _ _ _ _ _ h3 fun k hk hlt => ⟨.inl hk, hf.block k hlt fun e => (hK k hk).2.2 (by rw [e]; rfl)⟩
  · rcases hk with hk | ⟨hk, hlt⟩
    · obtain ⟨h1, h2, h3⟩ := hK k hk
      exact ⟨h1, Nat.lt_of_lt_of_le h2 hf.size, h3⟩
    · have := hK' k hk hlt
      refine ⟨this.1, Nat.lt_of_lt_of_le hlt hf.size, fun e => ?_⟩
      simp [Value.ownBlock] at e
      exact this.2 e.symm

/-! ### groups -/
def idxF (l : List Rw) : Fm := fun t => (l.findIdx? fun r => decide (jnT r.key = t)).map Int.ofNat
theorem idxF_key (l : List Rw) (k : Ky) : idxF l (jnT k) = if (atK l k).isSome then some ((posK l k : Nat) : Int) else none := by
  unfold idxF
  have e : (fun r : Rw => decide (jnT r.key = jnT k)) = fun r => decide (r.key = k) := by
    funext r
    rw [decide_eq_decide]
    exact ⟨fun h => jnT_inj _ _ h, fun h => by rw [h]⟩
  rw [e]
  by_cases h : (atK l k).isSome
  · rw [if_pos h]
    have hlt := posK_lt.2 h
    have : l.findIdx? (fun r => decide (r.key = k)) = some (posK l k) := by
      rw [List.findIdx?_eq_some_iff_getElem]
      refine ⟨hlt, ?_, fun j hj => ?_⟩
      · simpa using posK_key hlt
      · have := List.not_of_lt_findIdx hj
        simpa using this
    rw [this]; rfl
  · rw [if_neg h]
    have : l.findIdx? (fun r => decide (r.key = k)) = none := by
      rw [List.findIdx?_eq_none_iff]
      intro r hr
      have := mt (fun h2 => (atK_some (l := l) (k := k)).2 h2) h
      simp only [not_exists, not_and] at this
      simpa using this r hr
    rw [this]; rfl
theorem idxF_put {l : List Rw} {k : Ky} {z : Ac} (h : (atK l k).isSome = false) : idxF (l ++ [⟨k, z⟩]) = putM (idxF l) (jnT k) (l.length : Nat) := by
  funext t
  unfold putM idxF
  rw [List.findIdx?_append]
  by_cases e : t = jnT k
  · subst e
    rw [if_pos rfl]
    have hn := idxF_key l k
    rw [if_neg (by rw [h]; decide)] at hn
    unfold idxF at hn
    have hn' : l.findIdx? (fun r => decide (jnT r.key = jnT k)) = none := by simpa using hn
    rw [hn']
    simp [List.findIdx?_cons]
  · rw [if_neg e]
    have hne : ¬ jnT k = t := fun h => e h.symm
    simp [List.findIdx?_cons, hne]
/-- Groups by their keys: the object g, its map m, its rows rv; n0: what of it is older than all rows. -/
structure Gs (b g m n0 : Nat) (z : Ac) (rv : Value) (l : List Rw) (w : World) : Prop where
  blk : ∃ zv, Blk w g 111 #[.int .i64 z.count, zv, .map (some m), rv] ∧ PRz (fun k => b ≤ k ∧ k < n0 ∧ k ≠ g ∧ k ≠ m) w zv z.parts
  rows : GrX (fun k => b ≤ k ∧ k ≠ g ∧ k ≠ m) b 50 3 rwU w rv l
  map : MapI w m l.length (idxF l)
  own : ∀ k, rv.ownBlock = some k → n0 ≤ k
  ap : b ≤ g ∧ g < n0 ∧ b ≤ m ∧ m < n0 ∧ n0 ≤ w.heap.size
theorem Gs.no {b g m n0 : Nat} {z : Ac} {rv : Value} {l : List Rw} {w w' : World} (h : Gs b g m n0 z rv l w) (f : Fr No w w') : Gs b g m n0 z rv l w' := by
  obtain ⟨zv, h1, h2⟩ := h.blk
  exact ⟨⟨zv, h1.no f, h2.no f⟩, h.rows.keep rwU_elem f fun _ h _ => h.elim, h.map.of (f.block m h.map.lt id), h.own, by have := h.ap; have := f.size; omega⟩
theorem Gs.form {b g m n0 : Nat} {z : Ac} {rv : Value} {l : List Rw} {w : World} (h : Gs b g m n0 z rv l w) : ∃ A c, rv = .slice A l.length c := h.rows.len
end Go.Proofs.YtlpglijikmnopaaGreatDoor
