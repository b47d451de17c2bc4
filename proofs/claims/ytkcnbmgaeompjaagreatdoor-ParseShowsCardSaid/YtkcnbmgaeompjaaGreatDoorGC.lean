/- Reading a query, in memory: the program's tables, rows, conditions, a reader. -/
import Derived.Test.YtkcnbmgaeompjaaGreatDoorGB
import Derived.Test.YtkcnbmgaeompjaaGreatDoorGF
import Derived.Lib.LaidTab
import Derived.Lib.ItoaNum
import Derived.Deep.LoopGhost
namespace Go.Proofs.YtkcnbmgaeompjaaGreatDoor
open Go.RowKit Go.Maps
set_option linter.unusedVariables false

abbrev sv (l : Tx) : Value := .string ⟨l.toArray⟩
theorem sz (l : Tx) : (⟨l.toArray⟩ : ByteArray).size = l.length := by simp [ByteArray.size]
def i64 (n : Int) : Prop := -9223372036854775808 ≤ n ∧ n ≤ 9223372036854775807

/-! ### the program's variables -/
theorem gTab : Tryz.prog.globalNamed "internal/strconv.uint64pow10" = some 4 := by kernel_rfl
theorem var_of {w w' : World} {n : String} {g : Nat} {cs : Array Value} (hg : Tryz.prog.globalNamed n = some g) (hk : w'.heap[g]? = w.heap[g]?) (hv : w.var? Tryz.prog n = some cs) : w'.var? Tryz.prog n = some cs := by
  unfold World.var? at hv ⊢
  simp only [hg, Option.bind_some] at hv ⊢
  rw [hk]; exact hv
theorem cell_of_heap {w w' : World} {g o : Nat} (h : w'.heap[g]? = w.heap[g]?) : w'.cell? ⟨g, o, none⟩ = w.cell? ⟨g, o, none⟩ := by
  simp [World.cell?, h]
/-- The program's tables, and the library's variables that are read. -/
structure Pv (w : World) : Prop where
  lr : Lr w
  calls : ∀ k, k < 7 → w.cell? ⟨0, k, none⟩ = some (sv (callsT.getD k []))
  signs : ∀ k, k < 7 → w.cell? ⟨3, k, none⟩ = some (sv (signsT.getD k []))
  p10 : Lib.TabIs Tryz.prog w "internal/strconv.uint64pow10" .u64 Lib.pow10Tab
  es : ∃ a b, w.cell? ⟨10, 0, none⟩ = some (.iface a b)
  er : ∃ a b, w.cell? ⟨11, 0, none⟩ = some (.iface a b)
theorem Pv.lt {w : World} (h : Pv w) : 11 < w.heap.size := by
  obtain ⟨a, b, h⟩ := h.er
  exact World.block_lt_of_cell? (a := ⟨11, 0, none⟩) _ h
theorem Pv.keep {w w' : World} {F : Nat → Prop} (h : Pv w) (hf : Fr F w w') (hF : ∀ k, F k → 11 < k) : Pv w' := by
  have hl := h.lt
  have hk : ∀ k, k ≤ 11 → w'.heap[k]? = w.heap[k]? := fun k hk => hf.block k (by omega) fun hh => by have := hF k hh; omega
  refine ⟨h.lr.keep (B := 12) (by omega) ⟨hf.os, hf.tape, hf.output, hf.size, fun k h12 => hk k (by omega)⟩, fun k h7 => ?_, fun k h7 => ?_, var_of gTab (hk 4 (by omega)) h.p10, ?_, ?_⟩
  · rw [cell_of_heap (hk 0 (by omega))]; exact h.calls k h7
  · rw [cell_of_heap (hk 3 (by omega))]; exact h.signs k h7
  · obtain ⟨a, b, h1⟩ := h.es
    exact ⟨a, b, by rw [cell_of_heap (hk 10 (by omega))]; exact h1⟩
  · obtain ⟨a, b, h1⟩ := h.er
    exact ⟨a, b, by rw [cell_of_heap (hk 11 (by omega))]; exact h1⟩
theorem Pv.no {w w' : World} (h : Pv w) (hf : Fr No w w') : Pv w' := h.keep hf fun _ h => h.elim

/-! ### rows of anything -/
/-- v reads as l: elements of so many cells, in blocks of which K speaks. -/
def RowE {α : Type} (K : Nat → Prop) (w : World) (size : Nat) (E : α → List Value → Prop) (v : Value) (l : List α) : Prop :=
  ∃ A c, v = .slice A l.length c ∧ l.length ≤ c ∧ c ≤ maxLen ∧ (0 < l.length → ∃ g off, A = some ⟨g, off, none⟩ ∧ K g ∧ g < w.heap.size ∧ ∀ j (h : j < l.length), ∃ cs : List Value, cs.length = size ∧ (∀ i, i < size → w.cell? ⟨g, off + j * size + i, none⟩ = cs[i]?) ∧ E l[j] cs)
theorem RowE.mono {α : Type} {K K' : Nat → Prop} {w w' : World} {size : Nat} {E E' : α → List Value → Prop} {v : Value} {l : List α} (h : RowE K w size E v l) (hk : ∀ k, K k → k < w.heap.size → K' k ∧ w'.heap[k]? = w.heap[k]?) (hE : ∀ x cs, E x cs → E' x cs) : RowE K' w' size E' v l := by
  obtain ⟨A, c, e, hm, hc, h⟩ := h
  refine ⟨A, c, e, hm, hc, fun hl => ?_⟩
  obtain ⟨g, off, e1, hg, hgl, h⟩ := h hl
  obtain ⟨k1, k2⟩ := hk g hg hgl
  refine ⟨g, off, e1, k1, ?_, fun j hj => ?_⟩
  · rcases Nat.lt_or_ge g w'.heap.size with h3 | h3
    · exact h3
    · rw [Array.getElem?_eq_none h3, Array.getElem?_eq_getElem hgl] at k2; cases k2
  · obtain ⟨cs, h1, h2, h3⟩ := h j hj
    exact ⟨cs, h1, fun i hi => by rw [cell_of_heap k2]; exact h2 i hi, hE _ _ h3⟩
theorem RowE.nil {α : Type} (K : Nat → Prop) (w : World) (size : Nat) (E : α → List Value → Prop) : RowE K w size E (.slice none 0 0) [] := ⟨none, 0, rfl, Nat.le_refl _, by decide, fun h => absurd h (by simp)⟩
section
variable {α : Type}
/-- What an element's cells mean may hang on blocks of its own: K says which. -/
structure Elem (E : (Nat → Prop) → World → α → List Value → Prop) : Prop where
  mono : ∀ K K' w w' x cs, E K w x cs → (∀ k, K k → k < w.heap.size → K' k ∧ w'.heap[k]? = w.heap[k]?) → E K' w' x cs
/-- v is a row of one's own in blocks from b on, and reads as l. -/
def Grow (b e size : Nat) (E : (Nat → Prop) → World → α → List Value → Prop) (w : World) (v : Value) (l : List α) : Prop :=
  ∃ (K : Nat → Prop) (xs : List Value), w.ownsRow b e size v l.length xs ∧ (∀ j (h : j < l.length), ∃ cs : List Value, cs.length = size ∧ (∀ i, i < size → xs[j * size + i]? = cs[i]?) ∧ E K w l[j] cs) ∧ (∀ k, K k → b ≤ k ∧ k < w.heap.size ∧ v.ownBlock ≠ some k)
theorem Grow.len {b e size : Nat} {E : (Nat → Prop) → World → α → List Value → Prop} {w : World} {v : Value} {l : List α} (h : Grow b e size E w v l) : ∃ A c, v = .slice A l.length c := by
  obtain ⟨K, xs, ho, _⟩ := h
  rcases ho.2 with ⟨e1, h0⟩ | ⟨g, cap, cur, e1, _⟩
  · exact ⟨_, _, by rw [h0]; exact e1⟩
  · exact ⟨_, _, e1⟩
/-- The reader's block, and what is new, are none of the row's. -/
theorem Grow.keep {b e size : Nat} {E : (Nat → Prop) → World → α → List Value → Prop} (hE : Elem E) {w w' : World} {v : Value} {l : List α} (h : Grow b e size E w v l) {F : Nat → Prop} (hf : Fr F w w') (hF : ∀ k, F k → k < b) : Grow b e size E w' v l := by
  obtain ⟨K, xs, ho, hel, hK⟩ := h
  refine ⟨K, xs, own_of ho fun k hk => ?_, fun j hj => ?_, fun k hk => ?_⟩
  · have := ho.lt k hk
    exact hf.block k this.2 fun hF' => by have := hF k hF'; omega
  · obtain ⟨cs, h1, h2, h3⟩ := hel j hj
    exact ⟨cs, h1, h2, hE.mono _ _ _ _ _ _ h3 fun k hk hlt => ⟨hk, hf.block k hlt fun hF' => by have := hF k hF'; have := (hK k hk).1; omega⟩⟩
  · obtain ⟨h1, h2, h3⟩ := hK k hk
    exact ⟨h1, Nat.lt_of_lt_of_le h2 hf.size, h3⟩
theorem Grow.lt {b e size : Nat} {E : (Nat → Prop) → World → α → List Value → Prop} {w : World} {v : Value} {l : List α} (h : Grow b e size E w v l) : ∀ k, v.ownBlock = some k → b ≤ k ∧ k < w.heap.size := by
  obtain ⟨K, xs, ho, _⟩ := h
  intro k hk
  exact ho.lt k hk
/-- One element in a block of its own. -/
theorem Grow.single {b e size : Nat} {E : (Nat → Prop) → World → α → List Value → Prop} (hE : Elem E) {w0 w : World} (hb : b ≤ w0.heap.size) (hw : w0.heap.size ≤ w.heap.size) (x : α) (cs : List Value) (hcs : cs.length = size) (hx : E (fun k => w0.heap.size ≤ k) w x cs) (hs : 0 < size) :
    Grow b e size E (w.alloc (.cells cs.toArray e)) (.slice (some ⟨w.heap.size, 0, none⟩) 1 1) [x] := by
  have hfa : Fr No w (w.alloc (.cells cs.toArray e)) := (Fr.refl No w).alloc _
  refine ⟨fun k => w0.heap.size ≤ k ∧ k < w.heap.size, cs, ⟨by simp [hcs], .inr ⟨w.heap.size, 1, cs.toArray, rfl, by omega, heap_alloc_new w _, Nat.le_refl _, by decide, by simp [hcs], by simp [← hcs]⟩⟩, fun j hj => ?_, fun k hk => ?_⟩
  · obtain rfl : j = 0 := by simpa using hj
    refine ⟨cs, hcs, fun i hi => by simp, ?_⟩
    exact hE.mono _ _ _ _ _ _ hx fun k hk hlt => ⟨⟨hk, hlt⟩, hfa.block k hlt id⟩
  · refine ⟨by omega, by simp; omega, fun e1 => ?_⟩
    simp [Value.ownBlock] at e1; omega
/-- One more, laid ahead in a block of its own. -/
theorem Grow.more {b e size bytes : Nat} {E : (Nat → Prop) → World → α → List Value → Prop} (hE : Elem E) {w0 w : World} {v : Value} {l : List α} (h : Grow b e size E w v l) (hb : b ≤ w0.heap.size) (hw0 : w0.heap.size ≤ w.heap.size) (hv0 : ∀ k, v.ownBlock = some k → k < w0.heap.size)
    (t : TypeId) (ht : Tryz.prog.underlying t = some (.slice e)) (z : Value) (hinfo : (Tryz.prog.info? e).map (fun i => (i.zero, i.size, i.bytes)) = some (some z, size, bytes)) (hzs : z.cells.size = size) (hsz : 0 < size)
    (x : α) (cs : List Value) (hcs : cs.length = size) (hone : ∀ u ∈ cs, u.oneCell' = true) (hx : E (fun k => w0.heap.size ≤ k) w x cs) (hlen : (l.length + 1) * bytes ≤ 140737488355328) (hmax : l.length + 1 ≤ maxLen) :
    ∃ A c w', (∀ ty, (Builtin.append_ #[t, t] ty #[v, .slice (some ⟨w.heap.size, 0, none⟩) 1 1]).run Tryz.prog (w.alloc (.cells cs.toArray e)) = .ok (.slice A (l.length + 1) c) w') ∧ Grow b e size E w' (.slice A (l.length + 1) c) (l ++ [x]) ∧
      Fr (fun k => v.ownBlock = some k) w w' ∧ (∀ k, (Value.slice A (l.length + 1) c).ownBlock = some k → k < w'.heap.size) := by
  obtain ⟨K, xs, ho, hel, hK⟩ := h
  obtain ⟨i0, hi, hz0, hz1, hz2⟩ := info_parts hinfo
  have hfa : Fr No w (w.alloc (.cells cs.toArray e)) := (Fr.refl No w).alloc _
  have ho' : (w.alloc (.cells cs.toArray e)).ownsRow b e size v l.length xs := own_of ho fun k hk => hfa.block k (ho.lt k hk).2 id
  have hnews : ∀ j u, cs[j]? = some u → (w.alloc (.cells cs.toArray e)).cell? ((⟨w.heap.size, 0, none⟩ : Addr).add j) = some u := by
    intro j u hu
    rw [Addr.add_lit, Nat.zero_add]
    exact ((Blk.new w e cs.toArray).cell j).trans (by simpa using hu)
  obtain ⟨v', w', hr, how, hgr, hnil, hat⟩ := run_append_own_at (P := Tryz.prog) (w.alloc (.cells cs.toArray e)) b t 0 e i0 z size bytes ht hi hz0 hz1 hz2 hzs hsz v l.length xs ho' ⟨w.heap.size, 0, none⟩ 1 1 cs (by omega) hnews hone hmax hlen (by simp; omega)
  have hv' : ∃ A c, v' = .slice A (l.length + 1) c := by
    rcases how.2 with ⟨e1, h0⟩ | ⟨g, cap, cur, e1, _⟩
    · omega
    · exact ⟨_, _, e1⟩
  obtain ⟨A, c, rfl⟩ := hv'
  have hsize : w.heap.size < (w.alloc (.cells cs.toArray e)).heap.size := by simp
  have hfr : Fr (fun k => v.ownBlock = some k) w w' := hfa.any.grown hgr fun k hk _ => hk
  have hw' : w.heap.size < w'.heap.size := Nat.lt_of_lt_of_le hsize hgr.size
  refine ⟨A, c, w', fun ty => hr, ⟨fun k => K k ∨ (w0.heap.size ≤ k ∧ k < w.heap.size), xs ++ cs, by simpa using how, fun j hj => ?_, fun k hk => ?_⟩, hfr, fun k hk => ?_⟩
  · rw [List.length_append, List.length_singleton] at hj
    by_cases hjl : j < l.length
    · obtain ⟨cs', h1, h2, h3⟩ := hel j hjl
      refine ⟨cs', h1, fun i hi' => ?_, ?_⟩
      · have hlt : j * size + i < xs.length := by
          rw [ho.1]
          have := Nat.mul_le_mul_right size (show j + 1 ≤ l.length by omega)
          rw [Nat.add_mul, Nat.one_mul] at this
          omega
        rw [List.getElem?_append_left hlt]; exact h2 i hi'
      · rw [List.getElem_append_left hjl]
        exact hE.mono _ _ _ _ _ _ h3 fun k hk hlt => ⟨.inl hk, hfr.block k hlt (hK k hk).2.2⟩
    · obtain rfl : j = l.length := by omega
      refine ⟨cs, hcs, fun i hi' => ?_, ?_⟩
      · rw [List.getElem?_append_right (by rw [ho.1]; omega), ho.1, Nat.add_sub_cancel_left]
      · rw [List.getElem_append_right (by omega)]
        simp only [Nat.sub_self, List.getElem_cons_zero]
        exact hE.mono _ _ _ _ _ _ hx fun k hk hlt => ⟨.inr ⟨hk, hlt⟩, hfr.block k hlt fun e => by have := hv0 k e; omega⟩
  · have hatk : ∀ j, (Value.slice A (l.length + 1) c).ownBlock = some j → v.ownBlock = some j ∨ j = (w.alloc (.cells cs.toArray e)).heap.size := fun j hj => by
      rcases hat with e1 | e1
      · exact .inl (e1 ▸ hj)
      · rw [hj] at e1; exact .inr (Option.some.inj e1)
    rcases hk with hk | hk
    · obtain ⟨h1, h2, h3⟩ := hK k hk
      refine ⟨h1, by omega, fun e1 => ?_⟩
      rcases hatk k e1 with e2 | e2
      · exact h3 e2
      · omega
    · refine ⟨by omega, by omega, fun e1 => ?_⟩
      rcases hatk k e1 with e2 | e2
      · have := hv0 k e2; omega
      · omega
  · exact (how.lt k hk).2
/-- What was built, read as any row. -/
theorem Grow.row {b e size : Nat} {E : (Nat → Prop) → World → α → List Value → Prop} (hE : Elem E) {w : World} {v : Value} {l : List α} (h : Grow b e size E w v l) : RowE (fun k => b ≤ k) w size (E (fun k => b ≤ k) w) v l := by
  obtain ⟨K, xs, ho, hel, hK⟩ := h
  rcases ho.2 with ⟨e1, h0'⟩ | ⟨g, cap, cur, e1, hg, hh, hn, hcm, hcs, htk⟩
  · exact ⟨none, 0, by rw [h0']; exact e1, by omega, by decide, fun h0 => by omega⟩
  · refine ⟨_, cap, e1, hn, hcm, fun h0 => ⟨g, 0, rfl, hg, (ho.lt g (by rw [e1]; rfl)).2, fun j hj => ?_⟩⟩
    obtain ⟨cs, h1, h2, h3⟩ := hel j hj
    refine ⟨cs, h1, fun i hi => ?_, hE.mono _ _ _ _ _ _ h3 fun k hk hlt => ⟨(hK k hk).1, rfl⟩⟩
    rw [cell_of_row w g _ cur e (0, 0) hh, ← h2 i hi, ← htk, List.getElem?_take, Nat.zero_add]
    have hlt : j * size + i < l.length * size := by
      have := Nat.mul_le_mul_right size (show j + 1 ≤ l.length by omega)
      rw [Nat.add_mul, Nat.one_mul] at this
      omega
    rw [if_pos hlt]
    simp
end

/-! ### a query's parts -/
abbrev EG (α : Type) := (Nat → Prop) → World → α → List Value → Prop
def strG (_ : Nat → Prop) (_ : World) (t : Tx) (cs : List Value) : Prop := cs = [sv t] ∧ t.length ≤ maxLen
def itG (_ : Nat → Prop) (_ : World) (i : It) (cs : List Value) : Prop := cs = [.int .i64 i.kind, sv i.col] ∧ i.col.length ≤ maxLen ∧ i64 i.kind
def vlG (_ : Nat → Prop) (_ : World) (v : Vl) (cs : List Value) : Prop := cs = [.bool v.isText, sv v.text, .int .i64 v.int] ∧ v.text.length ≤ maxLen ∧ i64 v.int
def lsG (K : Nat → Prop) (w : World) (l : List Tx) (cs : List Value) : Prop := ∃ v, cs = [v] ∧ v.oneCell' = true ∧ RowE K w 1 (strG K w) v l
def gpG (K : Nat → Prop) (w : World) (e : Gp) (cs : List Value) : Prop := ∃ a b, cs = [.int .i64 e.kind, a, b] ∧ i64 e.kind ∧ RowE K w 1 (strG K w) a e.cols ∧ RowE K w 1 (lsG K w) b e.sets
theorem strG_elem : Elem strG := ⟨fun _ _ _ _ _ _ h _ => h⟩
theorem itG_elem : Elem itG := ⟨fun _ _ _ _ _ _ h _ => h⟩
theorem vlG_elem : Elem vlG := ⟨fun _ _ _ _ _ _ h _ => h⟩
theorem lsG_elem : Elem lsG := ⟨fun K K' w w' x cs ⟨v, h1, h2, h3⟩ hk => ⟨v, h1, h2, h3.mono hk fun _ _ h => h⟩⟩
theorem gpG_elem : Elem gpG := ⟨fun K K' w w' x cs ⟨a, b, h1, h2, h3, h4⟩ hk => ⟨a, b, h1, h2, h3.mono hk fun _ _ h => h, h4.mono hk fun _ _ h => lsG_elem.mono _ _ _ _ _ _ h hk⟩⟩
def CdAt (K : Nat → Prop) (w : World) : Cd → Value → Prop
  | .none, v => v = .pointer none
  | .node k l r col op vals, v => ∃ g o L R V, v = .pointer (some ⟨g, o, none⟩) ∧ K g ∧ g < w.heap.size ∧ w.cell? ⟨g, o, none⟩ = some (.int .i64 k) ∧ w.cell? ⟨g, o + 1, none⟩ = some L ∧ w.cell? ⟨g, o + 2, none⟩ = some R ∧
      w.cell? ⟨g, o + 3, none⟩ = some (sv col) ∧ w.cell? ⟨g, o + 4, none⟩ = some (.int .i64 op) ∧ w.cell? ⟨g, o + 5, none⟩ = some V ∧ CdAt K w l L ∧ CdAt K w r R ∧ RowE K w 3 (vlG K w) V vals ∧ col.length ≤ maxLen ∧ i64 k ∧ i64 op
theorem CdAt.mono {K K' : Nat → Prop} {w w' : World} (hk : ∀ k, K k → k < w.heap.size → K' k ∧ w'.heap[k]? = w.heap[k]?) : ∀ {c : Cd} {v : Value}, CdAt K w c v → CdAt K' w' c v
  | .none, v, h => h
  | .node k l r col op vals, v, h => by
    obtain ⟨g, o, L, R, V, h1, h2, h3, c0, c1, c2, c3, c4, c5, hl, hr, hv, h4⟩ := h
    obtain ⟨k1, k2⟩ := hk g h2 h3
    have hlt : g < w'.heap.size := by
      rcases Nat.lt_or_ge g w'.heap.size with h3 | h3
      · exact h3
      · rw [Array.getElem?_eq_none h3, Array.getElem?_eq_getElem (by assumption)] at k2; cases k2
    exact ⟨g, o, L, R, V, h1, k1, hlt, by rw [cell_of_heap k2]; exact c0, by rw [cell_of_heap k2]; exact c1, by rw [cell_of_heap k2]; exact c2, by rw [cell_of_heap k2]; exact c3, by rw [cell_of_heap k2]; exact c4, by rw [cell_of_heap k2]; exact c5, hl.mono hk, hr.mono hk, hv.mono hk (fun _ _ h => h), h4⟩
def QyAt (K : Nat → Prop) (w : World) (q : Qy) (v : Value) : Prop :=
  ∃ a C G, v = .agg #[a, sv q.table, C, .bool q.grouped, G] ∧ RowE K w 2 (itG K w) a q.items ∧ q.table.length ≤ maxLen ∧ CdAt K w q.cond C ∧ RowE K w 3 (gpG K w) G q.groups
theorem QyAt.mono {K K' : Nat → Prop} {w w' : World} (hk : ∀ k, K k → k < w.heap.size → K' k ∧ w'.heap[k]? = w.heap[k]?) {q : Qy} {v : Value} (h : QyAt K w q v) : QyAt K' w' q v := by
  obtain ⟨a, C, G, h1, h2, h3, h4, h5⟩ := h
  exact ⟨a, C, G, h1, h2.mono hk fun _ _ h => h, h3, h4.mono hk, h5.mono hk fun _ _ h => gpG_elem.mono _ _ _ _ _ _ h hk⟩

/-! ### a reader -/
/-- A reader's block, the block and room of its words, and the words. -/
structure Cx where
  d : Nat
  g : Nat
  c : Nat
  ws : List Wd
def Cx.val (C : Cx) : Value := .slice (some ⟨C.g, 0, none⟩) C.ws.length C.c
structure Rd (C : Cx) (w : World) (r : List Wd) (m : Bool) : Prop where
  pv : Pv w
  blk : Blk w C.d 57 #[C.val, .int .i64 ((C.ws.length - r.length : Nat) : Int), .bool m]
  suf : ∃ a, C.ws = a ++ r
  cells : ∀ k x, C.ws[k]? = some x → w.cell? ⟨C.g, k * 3, none⟩ = some (.int .i64 (x.kind : Nat)) ∧ w.cell? ⟨C.g, k * 3 + 1, none⟩ = some (sv x.text) ∧ w.cell? ⟨C.g, k * 3 + 2, none⟩ = some (.int .i64 (x.pos : Nat))
  ne : C.g ≠ C.d
  glt : C.g < w.heap.size
  d11 : 11 < C.d
  len : C.ws.length ≤ C.c ∧ C.c ≤ maxLen ∧ C.ws.length ≤ 100000
  txt : ∀ x ∈ C.ws, x.text.length ≤ 8192 ∧ x.kind ≤ 6 ∧ x.pos ≤ 100000
def Only (d : Nat) (k : Nat) : Prop := k = d
theorem Rd.lt {C : Cx} {w : World} {r : List Wd} {m : Bool} (h : Rd C w r m) : C.d < w.heap.size := h.blk.lt
theorem cells_keep {C : Cx} {w w' : World} (e : w'.heap[C.g]? = w.heap[C.g]?) (h : ∀ k x, C.ws[k]? = some x → w.cell? ⟨C.g, k * 3, none⟩ = some (.int .i64 (x.kind : Nat)) ∧ w.cell? ⟨C.g, k * 3 + 1, none⟩ = some (sv x.text) ∧ w.cell? ⟨C.g, k * 3 + 2, none⟩ = some (.int .i64 (x.pos : Nat))) :
    ∀ k x, C.ws[k]? = some x → w'.cell? ⟨C.g, k * 3, none⟩ = some (.int .i64 (x.kind : Nat)) ∧ w'.cell? ⟨C.g, k * 3 + 1, none⟩ = some (sv x.text) ∧ w'.cell? ⟨C.g, k * 3 + 2, none⟩ = some (.int .i64 (x.pos : Nat)) := fun k x hx => by
  rw [cell_of_heap e, cell_of_heap e, cell_of_heap e]
  exact h k x hx
theorem Rd.keep {C : Cx} {w w' : World} {r : List Wd} {m : Bool} (h : Rd C w r m) (hf : Fr No w w') : Rd C w' r m :=
  { h with pv := h.pv.no hf, blk := h.blk.of (hf.block _ h.blk.lt id), glt := Nat.lt_of_lt_of_le h.glt hf.size, cells := cells_keep (hf.block _ h.glt id) h.cells }
/-- The reader's block alone has turned. -/
theorem Rd.turn {C : Cx} {w w' : World} {r r' : List Wd} {m m' : Bool} (h : Rd C w r m) (hf : Fr (Only C.d) w w') (hb : Blk w' C.d 57 #[C.val, .int .i64 ((C.ws.length - r'.length : Nat) : Int), .bool m']) (hs : ∃ a, C.ws = a ++ r') : Rd C w' r' m' :=
  { h with pv := h.pv.keep hf (fun k hk => by rw [show k = C.d from hk]; exact h.d11), blk := hb, suf := hs, glt := Nat.lt_of_lt_of_le h.glt hf.size, cells := cells_keep (hf.block _ h.glt h.ne) h.cells }
theorem fr_set {w w' : World} {y i : Nat} {u : Value} (h : Fr (fun k => k = y) w w') : Fr (fun k => k = y) w (w'.setCell ⟨y, i, none⟩ u) := h.setCell (p := ⟨y, i, none⟩) (fun _ => rfl) u
/-- A block that is new. -/
theorem fr_new {F : Nat → Prop} {w w' : World} {y i : Nat} {u : Value} (h : Fr F w w') (hy : w.heap.size ≤ y) : Fr F w (w'.setCell ⟨y, i, none⟩ u) := h.setCell (p := ⟨y, i, none⟩) (fun hh => absurd hh (by show ¬ y < _; omega)) u
/-- A block that is none of the reader's has turned. -/
theorem Rd.past {C : Cx} {w w' : World} {r : List Wd} {m : Bool} {y : Nat} (h : Rd C w r m) (hf : Fr (fun k => k = y) w w') (hd : C.d < y) (hg : C.g < y) : Rd C w' r m :=
  { h with pv := h.pv.keep hf (fun k hk => by have := h.d11; have hk : k = y := hk; omega), blk := h.blk.of (hf.block _ h.blk.lt (fun e => by have e : C.d = y := e; omega)), glt := Nat.lt_of_lt_of_le h.glt hf.size, cells := cells_keep (hf.block _ h.glt (fun e => by have e : C.g = y := e; omega)) h.cells }
theorem Rd.at {C : Cx} {w : World} {x : Wd} {r : List Wd} {m : Bool} (h : Rd C w (x :: r) m) : C.ws[C.ws.length - (x :: r).length]? = some x ∧ C.ws.length - (x :: r).length < C.ws.length ∧ (∃ a, C.ws = a ++ r) ∧ C.ws.length - r.length = C.ws.length - (x :: r).length + 1 ∧ x.text.length ≤ 8192 ∧ x.kind ≤ 6 ∧ x.pos ≤ 100000 := by
  obtain ⟨a, e⟩ := h.suf
  have hx := h.txt x (by rw [e]; simp)
  have hl : C.ws.length = a.length + (r.length + 1) := by rw [e]; simp
  refine ⟨?_, by simp only [List.length_cons]; omega, ⟨a ++ [x], by rw [e]; simp⟩, by simp only [List.length_cons]; omega, hx⟩
  rw [show C.ws.length - (x :: r).length = a.length by rw [hl]; simp]
  rw [e, List.getElem?_append_right (Nat.le_refl _), Nat.sub_self]; rfl
abbrev rp (C : Cx) : Value := .pointer (some ⟨C.d, 0, none⟩)
/-- What is given up with. -/
def flt (c p : Nat) : Value := .iface 30 (.agg #[.int .i64 (c : Nat), .int .i64 (p : Nat)])
abbrev VR (α : Type) := (Nat → Prop) → World → Value → α → Prop
/-- What a call of the reader comes to. -/
def RdP {α : Type} (C : Cx) (w : World) (R : VR α) (x : PR α) (e : Ending) (w' : World) : Prop :=
  Fr (Only C.d) w w' ∧ match x with
    | .ok a r m => (∃ v, e = .returned v ∧ R (fun k => w.heap.size ≤ k) w' v a) ∧ Rd C w' r m
    | .bad c p => e = .panicked [{ v := flt c p, recovered := false }]
def unitR : VR Unit := fun _ _ v _ => v = .tuple #[]
def strR : VR Tx := fun _ _ v t => v = sv t ∧ t.length ≤ 8192
def wdR : VR Wd := fun _ _ v x => v = .agg #[.int .i64 (x.kind : Nat), sv x.text, .int .i64 (x.pos : Nat)] ∧ x.text.length ≤ 8192 ∧ x.kind ≤ 6 ∧ x.pos ≤ 100000
end Go.Proofs.YtkcnbmgaeompjaaGreatDoor
/- Whether a query may be: values, items, lists. -/
namespace Go.Proofs.YtkcnbmgaeompjaaGreatDoor
open Go.RowKit Go.Maps
set_option linter.unusedVariables false

theorem nameB_eq (l : Tx) : nameB l = isNameB l := by
  rw [Bool.eq_iff_iff]
  unfold nameB isNameB
  have hr : runB goB l = l.length ↔ ∀ b ∈ l, goB b = true := by
    constructor
    · intro h b hb
      have := runB_take goB l b
      rw [h, List.take_length] at this
      exact this hb
    · intro h
      have := runB_app goB l [] h (fun b hb => by cases hb)
      rwa [List.append_nil] at this
  simp only [decide_eq_true_eq, Bool.and_eq_true, beq_iff_eq, List.all_eq_true, List.isEmpty_iff, kwOf_nil_iff]
  rw [hr]
  exact ⟨fun ⟨a, b, c, d⟩ => ⟨⟨⟨b, c⟩, d⟩, a⟩, fun ⟨⟨⟨b, c⟩, d⟩, a⟩ => ⟨a, b, c, d⟩⟩
/-- A call that tells a Boolean, and makes memory alone. -/
def TellsB (b : Bool) (w : World) (e : Ending) (w' : World) : Prop := e = .returned (.bool b) ∧ Fr No w w'
theorem iname_any (t : Tx) (w : World) (hp : Lr w) (ht : t.length ≤ maxLen) : Calls Tryz.prog 40 #[sv t] w (TellsB (isNameB t) w) := by
  refine (isName_any ⟨t.toArray⟩ w hp (by rw [sz]; exact ht)).mono ?_
  rintro e w' ⟨h1, n, rfl⟩
  refine ⟨?_, (Fr.refl No w).drewN n⟩
  rw [h1, ← nameB_eq]
theorem Lr.no {w w' : World} (h : Lr w) (f : Fr No w w') : Lr w' := h.keep (B := 6) (by omega) (f.below.mono (by have := h.lt; omega))
theorem rvalue_any (v : Vl) (w : World) : Calls Tryz.prog 139 #[.agg #[.bool v.isText, sv v.text, .int .i64 v.int]] w (TellsB (rightV v) w) := by
  obtain ⟨it, t, n⟩ := v
  unfold rightV
  simp only
  obtain ⟨w1, hw1⟩ : ∃ w1, w.alloc (.cells #[.bool it, sv t, .int .i64 n] 47) = w1 := ⟨_, rfl⟩
  obtain ⟨y, hy⟩ : ∃ y, w.heap.size = y := ⟨_, rfl⟩
  have f1 : Fr No w w1 := by rw [← hw1]; exact (Fr.refl No w).alloc _
  have hb : Blk w1 y 47 #[.bool it, sv t, .int .i64 n] := by rw [← hw1, ← hy]; exact Blk.new w 47 _
  have c0 : w1.cell? ⟨y, 0, none⟩ = some (.bool it) := hb.cell 0
  have c1 : w1.cell? ⟨y, 1, none⟩ = some (sv t) := hb.cell 1
  have c2 : w1.cell? ⟨y, 2, none⟩ = some (.int .i64 n) := hb.cell 2
  have F1 := Lib.hid f1
  have HW1 := Lib.hid hw1
  have HY := Lib.hid hy
  clear f1 hb hw1 hy
  have HSZ := Lib.hid (sz t)
  go_enter Tryz.func139, Tryz.ntmps139
  go_upto_region 1 with fail
  rw [HW1.out, HY.out]
  go_wp2_with fail
  all_goals
    go_ret
    exact ⟨(by first | rfl | (simp; done) | (simp_all; done) | (simp_all; omega) | (simp; omega)), F1.out⟩
theorem ritem_any (v : It) (w : World) (hp : Lr w) (ht : v.col.length ≤ maxLen) : Calls Tryz.prog 91 #[.agg #[.int .i64 v.kind, sv v.col]] w (TellsB (rightI v) w) := by
  obtain ⟨n, t⟩ := v
  unfold rightI
  simp only at ht ⊢
  obtain ⟨w1, hw1⟩ : ∃ w1, w.alloc (.cells #[.int .i64 n, sv t] 45) = w1 := ⟨_, rfl⟩
  obtain ⟨y, hy⟩ : ∃ y, w.heap.size = y := ⟨_, rfl⟩
  have f1 : Fr No w w1 := by rw [← hw1]; exact (Fr.refl No w).alloc _
  have hb : Blk w1 y 45 #[.int .i64 n, sv t] := by rw [← hw1, ← hy]; exact Blk.new w 45 _
  have c0 : w1.cell? ⟨y, 0, none⟩ = some (.int .i64 n) := hb.cell 0
  have c1 : w1.cell? ⟨y, 1, none⟩ = some (sv t) := hb.cell 1
  have F1 := Lib.hid f1
  have HW1 := Lib.hid hw1
  have HY := Lib.hid hy
  have HC := Lib.hid (iname_any t w1 (hp.no f1) ht)
  clear f1 hb hw1 hy hp ht
  go_enter Tryz.func91, Tryz.ntmps91
  go_upto_region 1 with fail
  rw [HW1.out, HY.out]
  by_cases h2 : n = 2
  · subst h2
    go_wp2_with fail
    go_ret
    exact ⟨(by first | rfl | (simp; done) | (simp_all; done) | (simp_all; omega) | (simp; omega)), F1.out⟩
  · have hn2 : (n == 2) = false := by simpa using h2
    rw [if_neg h2]
    by_cases h3 : 1 ≤ n
    · by_cases h4 : n ≤ 6
      · rw [decide_eq_true h3, decide_eq_true h4, Bool.true_and, Bool.true_and]
        go_wp2_with fail
        refine HC.out.mono ?_
        rintro e w2 ⟨rfl, f2⟩
        have F2 := Lib.hid (F1.out.trans f2 fun _ _ h => h)
        clear f2
        go_wp2_with fail
        go_ret
        exact ⟨rfl, F2.out⟩
      · rw [decide_eq_true h3, decide_eq_false h4]
        go_wp2_with fail
        go_ret
        exact ⟨(by first | rfl | (simp; done) | (simp_all; done) | (simp_all; omega) | (simp; omega)), F1.out⟩
    · rw [decide_eq_false h3]
      go_wp2_with fail
      go_ret
      exact ⟨(by first | rfl | (simp; done) | (simp_all; done) | (simp_all; omega) | (simp; omega)), F1.out⟩
end Go.Proofs.YtkcnbmgaeompjaaGreatDoor
/- Whether a query may be: lists. -/
namespace Go.Proofs.YtkcnbmgaeompjaaGreatDoor
open Go.RowKit Go.Maps
set_option linter.unusedVariables false

theorem take_all {α : Type} {l : List α} {p : α → Bool} {j : Nat} (h : j < l.length) (ha : (l.take j).all p = true) : (l.take (j + 1)).all p = p l[j] := by
  rw [List.take_succ_eq_append_getElem h, List.all_append, ha]
  simp
theorem take_bad {α : Type} {l : List α} {p : α → Bool} {j : Nat} (h : j < l.length) (hx : p l[j] = false) : l.all p = false := by
  rw [Bool.eq_false_iff]
  intro ha
  have := List.all_eq_true.1 ha l[j] (List.getElem_mem h)
  rw [hx] at this
  cases this

set_option maxRecDepth 100000 in
theorem rl90_any {K : Nat → Prop} {l : List It} {v : Value} (least most : Nat) {la ma : Int} (hla : la = (least : Nat)) (hma : ma = (most : Nat)) (w : World) (hp : Lr w) (h : RowE K w 2 (itG K w) v l) :
    Calls Tryz.prog 90 #[v, .int .i64 la, .int .i64 ma, .func (.func 91) #[] #[]] w (TellsB (rightL l least most rightI) w) := by
  obtain ⟨A, c, rfl, hlc, hcm, hrow⟩ := h
  obtain ⟨n, hn⟩ : ∃ n, l.length = n := ⟨_, rfl⟩
  unfold rightL
  rw [hn] at hlc ⊢
  have HROW := Lib.hid hrow
  have HN := Lib.hid hn
  have HP := Lib.hid hp
  unfold maxLen at hcm
  clear hrow hp hn
  subst hla hma
  go_enter Tryz.func90, Tryz.ntmps90
  by_cases h1 : least ≤ n
  · by_cases h2 : n ≤ most
    · have k1 : (n < least) = False := eq_false (by omega)
      have k2 : (most < n) = False := eq_false (by omega)
      have HV : Hid ((decide (least ≤ n) && decide (n ≤ most) && l.all rightI) = l.all rightI) := Lib.hid (by rw [decide_eq_true h1, decide_eq_true h2]; rfl)
      rw [HV.out]
      go_wp2_with fail
      go_loopg [10, 23] n (fun k r10 r23 wr => Hid (∃ j : Nat, r23 = .int .i64 (j : Nat) ∧ j + k = n ∧ Fr No w wr ∧ (l.take j).all rightI = true))
      case atStart => exact Lib.hid ⟨0, rfl, by omega, Fr.refl _ _, rfl⟩
      case round =>
      obtain ⟨j, rfl, hjn, hf, hall⟩ := hrel.out
      have HALL := Lib.hid hall
      clear hrel hall
      by_cases hj : j < n
      · have hji : (j : Int) < (n : Int) := by omega
        have hjl : j < l.length := by rw [HN.out]; exact hj
        obtain ⟨g, off, rfl, hK, hg, hel⟩ := HROW.out (by omega)
        obtain ⟨cs, hcl, hcs, hE⟩ := hel j hjl
        obtain ⟨x, hx⟩ : ∃ x, l[j] = x := ⟨_, rfl⟩
        have HX := Lib.hid hx
        rw [hx] at hE
        obtain ⟨hE, hxl, _⟩ := hE
        have e0 : wr.cell? ⟨g, off + j * 2, none⟩ = some (.int .i64 x.kind) := (cell_of_heap (hf.block g hg id)).trans (by have := hcs 0 (by decide); rw [hE] at this; simpa using this)
        have e1 : wr.cell? ⟨g, off + j * 2 + 1, none⟩ = some (sv x.col) := (cell_of_heap (hf.block g hg id)).trans (by have := hcs 1 (by decide); rw [hE] at this; simpa using this)
        obtain ⟨wn, hwn⟩ : ∃ wn, wr.alloc (.cells #[.int .i64 x.kind, sv x.col] 45) = wn := ⟨_, rfl⟩
        obtain ⟨y, hy⟩ : ∃ y, wr.heap.size = y := ⟨_, rfl⟩
        have f1 : Fr No wr wn := by rw [← hwn]; exact (Fr.refl No wr).alloc _
        have hb : Blk wn y 45 #[.int .i64 x.kind, sv x.col] := by rw [← hwn, ← hy]; exact Blk.new wr 45 _
        have c0 : wn.cell? ⟨y, 0, none⟩ = some (.int .i64 x.kind) := hb.cell 0
        have c1 : wn.cell? ⟨y, 1, none⟩ = some (sv x.col) := hb.cell 1
        have HWN := Lib.hid hwn
        have HY := Lib.hid hy
        have HFN := Lib.hid (hf.trans f1 fun _ _ h => h)
        clear hb hwn hy f1
        have HC := Lib.hid (ritem_any x wn (HP.out.no HFN.out) hxl)
        clear hcs hcl hel hK hf hE
        go_upto_region 6 with fail
        rw [HY.out, HWN.out]
        go_wp2_with fail
        refine HC.out.mono ?_
        rintro e w5 ⟨rfl, f5⟩
        have HF5 := Lib.hid (HFN.out.trans f5 fun _ _ h => h)
        clear f5
        cases hb : rightI x with
        | true =>
          have HT : Hid ((l.take (j + 1)).all rightI = true) := Lib.hid (by rw [take_all hjl HALL.out, HX.out, hb])
          clear hb
          go_wp2_with fail
          obtain ⟨g1, rfl⟩ : ∃ g1, gk = g1 + 1 := ⟨gk - 1, by omega⟩
          go_roundg g1
          case rel => exact Lib.hid ⟨j + 1, by go_num, by omega, HF5.out, HT.out⟩
          all_goals omega
        | false =>
          have HT : Hid (l.all rightI = false) := Lib.hid (take_bad hjl (by rw [HX.out]; exact hb))
          clear hb
          go_wp2_with fail
          go_ret
          exact ⟨by rw [HT.out]; rfl, HF5.out⟩
      · have hji : (n : Int) ≤ (j : Int) := by omega
        have HT : Hid (l.all rightI = true) := Lib.hid (by have := HALL.out; rwa [List.take_of_length_le (by rw [HN.out]; omega)] at this)
        have HFE := Lib.hid hf
        clear hf
        go_wp2_with fail
        go_ret
        exact ⟨by rw [HT.out]; rfl, HFE.out⟩
    · have k1 : (n < least) = False := eq_false (by omega)
      have k2 : (most < n) = True := eq_true (by omega)
      rw [decide_eq_false h2, Bool.and_false, Bool.false_and]
      go_wp2_with fail
      go_ret
      exact ⟨rfl, Fr.refl _ _⟩
  · have k1 : (n < least) = True := eq_true (by omega)
    rw [decide_eq_false h1, Bool.false_and, Bool.false_and]
    go_wp2_with fail
    go_ret
    exact ⟨rfl, Fr.refl _ _⟩

set_option maxRecDepth 100000 in
theorem rl138_any {K : Nat → Prop} {l : List Vl} {v : Value} (least most : Nat) {la ma : Int} (hla : la = (least : Nat)) (hma : ma = (most : Nat)) (w : World) (hp : Lr w) (h : RowE K w 3 (vlG K w) v l) :
    Calls Tryz.prog 138 #[v, .int .i64 la, .int .i64 ma, .func (.func 139) #[] #[]] w (TellsB (rightL l least most rightV) w) := by
  obtain ⟨A, c, rfl, hlc, hcm, hrow⟩ := h
  obtain ⟨n, hn⟩ : ∃ n, l.length = n := ⟨_, rfl⟩
  unfold rightL
  rw [hn] at hlc ⊢
  have HROW := Lib.hid hrow
  have HN := Lib.hid hn
  have HP := Lib.hid hp
  unfold maxLen at hcm
  clear hrow hp hn
  subst hla hma
  go_enter Tryz.func138, Tryz.ntmps138
  by_cases h1 : least ≤ n
  · by_cases h2 : n ≤ most
    · have k1 : (n < least) = False := eq_false (by omega)
      have k2 : (most < n) = False := eq_false (by omega)
      have HV : Hid ((decide (least ≤ n) && decide (n ≤ most) && l.all rightV) = l.all rightV) := Lib.hid (by rw [decide_eq_true h1, decide_eq_true h2]; rfl)
      rw [HV.out]
      go_wp2_with fail
      go_loopg [10, 23] n (fun k r10 r23 wr => Hid (∃ j : Nat, r23 = .int .i64 (j : Nat) ∧ j + k = n ∧ Fr No w wr ∧ (l.take j).all rightV = true))
      case atStart => exact Lib.hid ⟨0, rfl, by omega, Fr.refl _ _, rfl⟩
      case round =>
      obtain ⟨j, rfl, hjn, hf, hall⟩ := hrel.out
      have HALL := Lib.hid hall
      clear hrel hall
      by_cases hj : j < n
      · have hji : (j : Int) < (n : Int) := by omega
        have hjl : j < l.length := by rw [HN.out]; exact hj
        obtain ⟨g, off, rfl, hK, hg, hel⟩ := HROW.out (by omega)
        obtain ⟨cs, hcl, hcs, hE⟩ := hel j hjl
        obtain ⟨x, hx⟩ : ∃ x, l[j] = x := ⟨_, rfl⟩
        have HX := Lib.hid hx
        rw [hx] at hE
        obtain ⟨hE, hxl, _⟩ := hE
        have e0 : wr.cell? ⟨g, off + j * 3, none⟩ = some (.bool x.isText) := (cell_of_heap (hf.block g hg id)).trans (by have := hcs 0 (by decide); rw [hE] at this; simpa using this)
        have e1 : wr.cell? ⟨g, off + j * 3 + 1, none⟩ = some (sv x.text) := (cell_of_heap (hf.block g hg id)).trans (by have := hcs 1 (by decide); rw [hE] at this; simpa using this)
        have e2 : wr.cell? ⟨g, off + j * 3 + 2, none⟩ = some (.int .i64 x.int) := (cell_of_heap (hf.block g hg id)).trans (by have := hcs 2 (by decide); rw [hE] at this; simpa using this)
        obtain ⟨wn, hwn⟩ : ∃ wn, wr.alloc (.cells #[.bool x.isText, sv x.text, .int .i64 x.int] 47) = wn := ⟨_, rfl⟩
        obtain ⟨y, hy⟩ : ∃ y, wr.heap.size = y := ⟨_, rfl⟩
        have f1 : Fr No wr wn := by rw [← hwn]; exact (Fr.refl No wr).alloc _
        have hb : Blk wn y 47 #[.bool x.isText, sv x.text, .int .i64 x.int] := by rw [← hwn, ← hy]; exact Blk.new wr 47 _
        have c0 : wn.cell? ⟨y, 0, none⟩ = some (.bool x.isText) := hb.cell 0
        have c1 : wn.cell? ⟨y, 1, none⟩ = some (sv x.text) := hb.cell 1
        have c2 : wn.cell? ⟨y, 2, none⟩ = some (.int .i64 x.int) := hb.cell 2
        have HWN := Lib.hid hwn
        have HY := Lib.hid hy
        have HFN := Lib.hid (hf.trans f1 fun _ _ h => h)
        clear hb hwn hy f1
        have HC := Lib.hid (rvalue_any x wn)
        clear hcs hcl hel hK hf hE
        go_upto_region 6 with fail
        rw [HY.out, HWN.out]
        go_wp2_with fail
        refine HC.out.mono ?_
        rintro e w5 ⟨rfl, f5⟩
        have HF5 := Lib.hid (HFN.out.trans f5 fun _ _ h => h)
        clear f5
        cases hb : rightV x with
        | true =>
          have HT : Hid ((l.take (j + 1)).all rightV = true) := Lib.hid (by rw [take_all hjl HALL.out, HX.out, hb])
          clear hb
          go_wp2_with fail
          obtain ⟨g1, rfl⟩ : ∃ g1, gk = g1 + 1 := ⟨gk - 1, by omega⟩
          go_roundg g1
          case rel => exact Lib.hid ⟨j + 1, by go_num, by omega, HF5.out, HT.out⟩
          all_goals omega
        | false =>
          have HT : Hid (l.all rightV = false) := Lib.hid (take_bad hjl (by rw [HX.out]; exact hb))
          clear hb
          go_wp2_with fail
          go_ret
          exact ⟨by rw [HT.out]; rfl, HF5.out⟩
      · have hji : (n : Int) ≤ (j : Int) := by omega
        have HT : Hid (l.all rightV = true) := Lib.hid (by have := HALL.out; rwa [List.take_of_length_le (by rw [HN.out]; omega)] at this)
        have HFE := Lib.hid hf
        clear hf
        go_wp2_with fail
        go_ret
        exact ⟨by rw [HT.out]; rfl, HFE.out⟩
    · have k1 : (n < least) = False := eq_false (by omega)
      have k2 : (most < n) = True := eq_true (by omega)
      rw [decide_eq_false h2, Bool.and_false, Bool.false_and]
      go_wp2_with fail
      go_ret
      exact ⟨rfl, Fr.refl _ _⟩
  · have k1 : (n < least) = True := eq_true (by omega)
    rw [decide_eq_false h1, Bool.false_and, Bool.false_and]
    go_wp2_with fail
    go_ret
    exact ⟨rfl, Fr.refl _ _⟩

set_option maxRecDepth 100000 in
theorem rl140_any {K : Nat → Prop} {l : List Tx} {v : Value} (least most : Nat) {la ma : Int} (hla : la = (least : Nat)) (hma : ma = (most : Nat)) (w : World) (hp : Lr w) (h : RowE K w 1 (strG K w) v l) :
    Calls Tryz.prog 140 #[v, .int .i64 la, .int .i64 ma, .func (.func 40) #[] #[]] w (TellsB (rightL l least most isNameB) w) := by
  obtain ⟨A, c, rfl, hlc, hcm, hrow⟩ := h
  obtain ⟨n, hn⟩ : ∃ n, l.length = n := ⟨_, rfl⟩
  unfold rightL
  rw [hn] at hlc ⊢
  have HROW := Lib.hid hrow
  have HN := Lib.hid hn
  have HP := Lib.hid hp
  unfold maxLen at hcm
  clear hrow hp hn
  subst hla hma
  go_enter Tryz.func140, Tryz.ntmps140
  by_cases h1 : least ≤ n
  · by_cases h2 : n ≤ most
    · have k1 : (n < least) = False := eq_false (by omega)
      have k2 : (most < n) = False := eq_false (by omega)
      have HV : Hid ((decide (least ≤ n) && decide (n ≤ most) && l.all isNameB) = l.all isNameB) := Lib.hid (by rw [decide_eq_true h1, decide_eq_true h2]; rfl)
      rw [HV.out]
      go_wp2_with fail
      go_loopg [10, 23] n (fun k r10 r23 wr => Hid (∃ j : Nat, r23 = .int .i64 (j : Nat) ∧ j + k = n ∧ Fr No w wr ∧ (l.take j).all isNameB = true))
      case atStart => exact Lib.hid ⟨0, rfl, by omega, Fr.refl _ _, rfl⟩
      case round =>
      obtain ⟨j, rfl, hjn, hf, hall⟩ := hrel.out
      have HALL := Lib.hid hall
      clear hrel hall
      by_cases hj : j < n
      · have hji : (j : Int) < (n : Int) := by omega
        have hjl : j < l.length := by rw [HN.out]; exact hj
        obtain ⟨g, off, rfl, hK, hg, hel⟩ := HROW.out (by omega)
        obtain ⟨cs, hcl, hcs, hE⟩ := hel j hjl
        obtain ⟨x, hx⟩ : ∃ x, l[j] = x := ⟨_, rfl⟩
        have HX := Lib.hid hx
        rw [hx] at hE
        obtain ⟨hE, hxl⟩ := hE
        have e0 : wr.cell? ⟨g, off + j, none⟩ = some (sv x) := (cell_of_heap (hf.block g hg id)).trans (by have := hcs 0 (by decide); rw [hE] at this; simpa using this)
        have HFN : Hid (Fr No w wr) := Lib.hid hf
        have HC := Lib.hid (iname_any x wr (HP.out.no HFN.out) hxl)
        clear hcs hcl hel hK hf hE
        go_wp2_with fail
        refine HC.out.mono ?_
        rintro e w5 ⟨rfl, f5⟩
        have HF5 := Lib.hid (HFN.out.trans f5 fun _ _ h => h)
        clear f5
        cases hb : isNameB x with
        | true =>
          have HT : Hid ((l.take (j + 1)).all isNameB = true) := Lib.hid (by rw [take_all hjl HALL.out, HX.out, hb])
          clear hb
          go_wp2_with fail
          obtain ⟨g1, rfl⟩ : ∃ g1, gk = g1 + 1 := ⟨gk - 1, by omega⟩
          go_roundg g1
          case rel => exact Lib.hid ⟨j + 1, by go_num, by omega, HF5.out, HT.out⟩
          all_goals omega
        | false =>
          have HT : Hid (l.all isNameB = false) := Lib.hid (take_bad hjl (by rw [HX.out]; exact hb))
          clear hb
          go_wp2_with fail
          go_ret
          exact ⟨by rw [HT.out]; rfl, HF5.out⟩
      · have hji : (n : Int) ≤ (j : Int) := by omega
        have HT : Hid (l.all isNameB = true) := Lib.hid (by have := HALL.out; rwa [List.take_of_length_le (by rw [HN.out]; omega)] at this)
        have HFE := Lib.hid hf
        clear hf
        go_wp2_with fail
        go_ret
        exact ⟨by rw [HT.out]; rfl, HFE.out⟩
    · have k1 : (n < least) = False := eq_false (by omega)
      have k2 : (most < n) = True := eq_true (by omega)
      rw [decide_eq_false h2, Bool.and_false, Bool.false_and]
      go_wp2_with fail
      go_ret
      exact ⟨rfl, Fr.refl _ _⟩
  · have k1 : (n < least) = True := eq_true (by omega)
    rw [decide_eq_false h1, Bool.false_and, Bool.false_and]
    go_wp2_with fail
    go_ret
    exact ⟨rfl, Fr.refl _ _⟩
end Go.Proofs.YtkcnbmgaeompjaaGreatDoor
/- Whether a query may be: sets, elements. -/
namespace Go.Proofs.YtkcnbmgaeompjaaGreatDoor
open Go.RowKit Go.Maps
set_option linter.unusedVariables false

theorem RowE.at_ {α : Type} {K : Nat → Prop} {w w' : World} {size : Nat} {E : EG α} (hE : Elem E) {v : Value} {l : List α} (h : RowE K w size (E K w) v l) (f : Fr No w w') : RowE K w' size (E K w') v l :=
  h.mono (fun k hk hkl => ⟨hk, f.block k hkl id⟩) fun _ _ hx => hE.mono _ _ _ _ _ _ hx fun k hk hkl => ⟨hk, f.block k hkl id⟩
def setB (s : List Tx) : Bool := rightL s 0 16 isNameB
theorem rset_any {K : Nat → Prop} {l : List Tx} {v : Value} (w : World) (hp : Lr w) (h : RowE K w 1 (strG K w) v l) : Calls Tryz.prog 142 #[v] w (TellsB (setB l) w) := by
  have HC := Lib.hid (rl140_any 0 16 (la := 0) (ma := 16) rfl rfl w hp h)
  obtain ⟨A, c, rfl, _⟩ := h
  go_enter Tryz.func142, Tryz.ntmps142
  go_wp2_with fail
  refine HC.out.mono ?_
  rintro e w5 ⟨rfl, f5⟩
  have HF5 := Lib.hid f5
  clear f5
  go_wp2_with fail
  go_ret
  exact ⟨rfl, HF5.out⟩

set_option maxRecDepth 100000 in
theorem rl141_any {K : Nat → Prop} {l : List (List Tx)} {v : Value} (least most : Nat) {la ma : Int} (hla : la = (least : Nat)) (hma : ma = (most : Nat)) (w : World) (hp : Lr w) (h : RowE K w 1 (lsG K w) v l) :
    Calls Tryz.prog 141 #[v, .int .i64 la, .int .i64 ma, .func (.func 142) #[] #[]] w (TellsB (rightL l least most setB) w) := by
  obtain ⟨A, c, rfl, hlc, hcm, hrow⟩ := h
  obtain ⟨n, hn⟩ : ∃ n, l.length = n := ⟨_, rfl⟩
  unfold rightL
  rw [hn] at hlc ⊢
  have HROW := Lib.hid hrow
  have HN := Lib.hid hn
  have HP := Lib.hid hp
  unfold maxLen at hcm
  clear hrow hp hn
  subst hla hma
  go_enter Tryz.func141, Tryz.ntmps141
  by_cases h1 : least ≤ n
  · by_cases h2 : n ≤ most
    · have k1 : (n < least) = False := eq_false (by omega)
      have k2 : (most < n) = False := eq_false (by omega)
      have HV : Hid ((decide (least ≤ n) && decide (n ≤ most) && l.all setB) = l.all setB) := Lib.hid (by rw [decide_eq_true h1, decide_eq_true h2]; rfl)
      rw [HV.out]
      go_wp2_with fail
      go_loopg [10, 23] n (fun k r10 r23 wr => Hid (∃ j : Nat, r23 = .int .i64 (j : Nat) ∧ j + k = n ∧ Fr No w wr ∧ (l.take j).all setB = true))
      case atStart => exact Lib.hid ⟨0, rfl, by omega, Fr.refl _ _, rfl⟩
      case round =>
      obtain ⟨j, rfl, hjn, hf, hall⟩ := hrel.out
      have HALL := Lib.hid hall
      clear hrel hall
      by_cases hj : j < n
      · have hji : (j : Int) < (n : Int) := by omega
        have hjl : j < l.length := by rw [HN.out]; exact hj
        obtain ⟨g, off, rfl, hK, hg, hel⟩ := HROW.out (by omega)
        obtain ⟨cs, hcl, hcs, hE⟩ := hel j hjl
        obtain ⟨x, hx⟩ : ∃ x, l[j] = x := ⟨_, rfl⟩
        have HX := Lib.hid hx
        rw [hx] at hE
        obtain ⟨v0, hE, _, hR⟩ := hE
        obtain ⟨A1, n1, c1, rfl⟩ : ∃ A1 n1 c1, v0 = .slice A1 n1 c1 := by obtain ⟨A1, c1, e, _⟩ := hR; exact ⟨_, _, _, e⟩
        have e0 : wr.cell? ⟨g, off + j, none⟩ = some (.slice A1 n1 c1) := (cell_of_heap (hf.block g hg id)).trans (by have := hcs 0 (by decide); rw [hE] at this; simpa using this)
        have HFN : Hid (Fr No w wr) := Lib.hid hf
        have HC := Lib.hid (rset_any wr (HP.out.no HFN.out) (hR.at_ strG_elem HFN.out))
        clear hcs hcl hel hK hf hE hR
        go_wp2_with fail
        refine HC.out.mono ?_
        rintro e w5 ⟨rfl, f5⟩
        have HF5 := Lib.hid (HFN.out.trans f5 fun _ _ h => h)
        clear f5
        cases hb : setB x with
        | true =>
          have HT : Hid ((l.take (j + 1)).all setB = true) := Lib.hid (by rw [take_all hjl HALL.out, HX.out, hb])
          clear hb
          go_wp2_with fail
          obtain ⟨g1, rfl⟩ : ∃ g1, gk = g1 + 1 := ⟨gk - 1, by omega⟩
          go_roundg g1
          case rel => exact Lib.hid ⟨j + 1, by go_num, by omega, HF5.out, HT.out⟩
          all_goals omega
        | false =>
          have HT : Hid (l.all setB = false) := Lib.hid (take_bad hjl (by rw [HX.out]; exact hb))
          clear hb
          go_wp2_with fail
          go_ret
          exact ⟨by rw [HT.out]; rfl, HF5.out⟩
      · have hji : (n : Int) ≤ (j : Int) := by omega
        have HT : Hid (l.all setB = true) := Lib.hid (by have := HALL.out; rwa [List.take_of_length_le (by rw [HN.out]; omega)] at this)
        have HFE := Lib.hid hf
        clear hf
        go_wp2_with fail
        go_ret
        exact ⟨by rw [HT.out]; rfl, HFE.out⟩
    · have k1 : (n < least) = False := eq_false (by omega)
      have k2 : (most < n) = True := eq_true (by omega)
      rw [decide_eq_false h2, Bool.and_false, Bool.false_and]
      go_wp2_with fail
      go_ret
      exact ⟨rfl, Fr.refl _ _⟩
  · have k1 : (n < least) = True := eq_true (by omega)
    rw [decide_eq_false h1, Bool.false_and, Bool.false_and]
    go_wp2_with fail
    go_ret
    exact ⟨rfl, Fr.refl _ _⟩
end Go.Proofs.YtkcnbmgaeompjaaGreatDoor
/- Whether a query may be: elements, lists of them. -/
namespace Go.Proofs.YtkcnbmgaeompjaaGreatDoor
open Go.RowKit Go.Maps
set_option linter.unusedVariables false

set_option maxRecDepth 100000 in
theorem rgroup_any {K : Nat → Prop} (v : Gp) {a b : Value} (w : World) (hp : Lr w) (hA : RowE K w 1 (strG K w) a v.cols) (hB : RowE K w 1 (lsG K w) b v.sets) : Calls Tryz.prog 98 #[.agg #[.int .i64 v.kind, a, b]] w (TellsB (rightG v) w) := by
  obtain ⟨kind, cols, sets⟩ := v
  simp only at hA hB ⊢
  obtain ⟨A1, c1, rfl⟩ : ∃ A1 c1, a = .slice A1 cols.length c1 := by obtain ⟨A1, c1, e, _⟩ := hA; exact ⟨_, _, e⟩
  obtain ⟨A2, c2, rfl⟩ : ∃ A2 c2, b = .slice A2 sets.length c2 := by obtain ⟨A2, c2, e, _⟩ := hB; exact ⟨_, _, e⟩
  obtain ⟨w1, hw1⟩ : ∃ w1, w.alloc (.cells #[.int .i64 kind, .slice A1 cols.length c1, .slice A2 sets.length c2] 66) = w1 := ⟨_, rfl⟩
  obtain ⟨y, hy⟩ : ∃ y, w.heap.size = y := ⟨_, rfl⟩
  have f1 : Fr No w w1 := by rw [← hw1]; exact (Fr.refl No w).alloc _
  have hb : Blk w1 y 66 #[.int .i64 kind, .slice A1 cols.length c1, .slice A2 sets.length c2] := by rw [← hw1, ← hy]; exact Blk.new w 66 _
  have d0 : w1.cell? ⟨y, 0, none⟩ = some (.int .i64 kind) := hb.cell 0
  have d1 : w1.cell? ⟨y, 1, none⟩ = some (.slice A1 cols.length c1) := hb.cell 1
  have d2 : w1.cell? ⟨y, 2, none⟩ = some (.slice A2 sets.length c2) := hb.cell 2
  have F1 := Lib.hid f1
  have HW1 := Lib.hid hw1
  have HY := Lib.hid hy
  have HC1 := Lib.hid (rl140_any 1 1 (la := 1) (ma := 1) rfl rfl w1 (hp.no f1) (hA.at_ strG_elem f1))
  have HC2 := Lib.hid (rl140_any 1 16 (la := 1) (ma := 16) rfl rfl w1 (hp.no f1) (hA.at_ strG_elem f1))
  have HC3 := Lib.hid (rl141_any 1 64 (la := 1) (ma := 64) rfl rfl w1 (hp.no f1) (hB.at_ lsG_elem f1))
  have HEND : Hid (∀ (bb : Bool) e w2, rightG ⟨kind, cols, sets⟩ = bb → e = .returned (.bool bb) → Fr No w1 w2 → TellsB (rightG ⟨kind, cols, sets⟩) w e w2) := Lib.hid fun bb e w2 h1 h2 h3 => ⟨by rw [h2, h1], f1.trans h3 fun _ _ h => h⟩
  clear f1 hb hw1 hy hp hA hB
  go_enter Tryz.func98, Tryz.ntmps98
  go_upto_region 1 with fail
  rw [HW1.out, HY.out]
  by_cases k1 : kind = 1
  · subst k1
    cases sets with
    | nil =>
      have HV : Hid (rightG ⟨1, cols, []⟩ = rightL cols 1 1 isNameB) := Lib.hid (by unfold rightG; simp)
      go_wp2_with fail
      refine HC1.out.mono ?_
      rintro e w5 ⟨rfl, f5⟩
      have HF5 := Lib.hid f5
      clear f5
      go_wp2_with fail
      go_ret
      exact HEND.out _ _ _ HV.out rfl HF5.out
    | cons s sets =>
      have HV : Hid (rightG ⟨1, cols, s :: sets⟩ = false) := Lib.hid (by unfold rightG; simp)
      have z0 : ((((s :: sets).length : Nat) : Int) == 0) = false := by simp; omega
      go_wp2_with fail
      go_ret
      exact HEND.out _ _ _ HV.out rfl (Fr.refl _ _)
  · have k1' : (kind == 1) = false := by simpa using k1
    by_cases k2 : kind = 2
    · subst k2
      cases sets with
      | nil =>
        have HV : Hid (rightG ⟨2, cols, []⟩ = rightL cols 1 16 isNameB) := Lib.hid (by unfold rightG; simp)
        go_wp2_with fail
        refine HC2.out.mono ?_
        rintro e w5 ⟨rfl, f5⟩
        have HF5 := Lib.hid f5
        clear f5
        go_wp2_with fail
        go_ret
        exact HEND.out _ _ _ HV.out rfl HF5.out
      | cons s sets =>
        have HV : Hid (rightG ⟨2, cols, s :: sets⟩ = false) := Lib.hid (by unfold rightG; simp)
        have z0 : ((((s :: sets).length : Nat) : Int) == 0) = false := by simp; omega
        go_wp2_with fail
        go_ret
        exact HEND.out _ _ _ HV.out rfl (Fr.refl _ _)
    · have k2' : (kind == 2) = false := by simpa using k2
      by_cases k3 : kind = 3
      · subst k3
        cases sets with
        | nil =>
          have HV : Hid (rightG ⟨3, cols, []⟩ = rightL cols 1 16 isNameB) := Lib.hid (by unfold rightG; simp)
          go_wp2_with fail
          refine HC2.out.mono ?_
          rintro e w5 ⟨rfl, f5⟩
          have HF5 := Lib.hid f5
          clear f5
          go_wp2_with fail
          go_ret
          exact HEND.out _ _ _ HV.out rfl HF5.out
        | cons s sets =>
          have HV : Hid (rightG ⟨3, cols, s :: sets⟩ = false) := Lib.hid (by unfold rightG; simp)
          have z0 : ((((s :: sets).length : Nat) : Int) == 0) = false := by simp; omega
          go_wp2_with fail
          go_ret
          exact HEND.out _ _ _ HV.out rfl (Fr.refl _ _)
      · have k3' : (kind == 3) = false := by simpa using k3
        by_cases k4 : kind = 4
        · subst k4
          cases cols with
          | nil =>
            have HV : Hid (rightG ⟨4, [], sets⟩ = rightL sets 1 64 setB) := Lib.hid (by unfold rightG; simp; rfl)
            go_wp2_with fail
            refine HC3.out.mono ?_
            rintro e w5 ⟨rfl, f5⟩
            have HF5 := Lib.hid f5
            clear f5
            go_wp2_with fail
            go_ret
            exact HEND.out _ _ _ HV.out rfl HF5.out
          | cons s cols =>
            have HV : Hid (rightG ⟨4, s :: cols, sets⟩ = false) := Lib.hid (by unfold rightG; simp)
            have z0 : ((((s :: cols).length : Nat) : Int) == 0) = false := by simp; omega
            go_wp2_with fail
            go_ret
            exact HEND.out _ _ _ HV.out rfl (Fr.refl _ _)
        · have k4' : (kind == 4) = false := by simpa using k4
          have HV : Hid (rightG ⟨kind, cols, sets⟩ = false) := Lib.hid (by unfold rightG; simp [k1, k2, k3, k4])
          go_wp2_with fail
          go_ret
          exact HEND.out _ _ _ HV.out rfl (Fr.refl _ _)

set_option maxRecDepth 100000 in
theorem rl97_any {K : Nat → Prop} {l : List Gp} {v : Value} (least most : Nat) {la ma : Int} (hla : la = (least : Nat)) (hma : ma = (most : Nat)) (w : World) (hp : Lr w) (h : RowE K w 3 (gpG K w) v l) :
    Calls Tryz.prog 97 #[v, .int .i64 la, .int .i64 ma, .func (.func 98) #[] #[]] w (TellsB (rightL l least most rightG) w) := by
  obtain ⟨A, c, rfl, hlc, hcm, hrow⟩ := h
  obtain ⟨n, hn⟩ : ∃ n, l.length = n := ⟨_, rfl⟩
  unfold rightL
  rw [hn] at hlc ⊢
  have HROW := Lib.hid hrow
  have HN := Lib.hid hn
  have HP := Lib.hid hp
  unfold maxLen at hcm
  clear hrow hp hn
  subst hla hma
  go_enter Tryz.func97, Tryz.ntmps97
  by_cases h1 : least ≤ n
  · by_cases h2 : n ≤ most
    · have k1 : (n < least) = False := eq_false (by omega)
      have k2 : (most < n) = False := eq_false (by omega)
      have HV : Hid ((decide (least ≤ n) && decide (n ≤ most) && l.all rightG) = l.all rightG) := Lib.hid (by rw [decide_eq_true h1, decide_eq_true h2]; rfl)
      rw [HV.out]
      go_wp2_with fail
      go_loopg [10, 23] n (fun k r10 r23 wr => Hid (∃ j : Nat, r23 = .int .i64 (j : Nat) ∧ j + k = n ∧ Fr No w wr ∧ (l.take j).all rightG = true))
      case atStart => exact Lib.hid ⟨0, rfl, by omega, Fr.refl _ _, rfl⟩
      case round =>
      obtain ⟨j, rfl, hjn, hf, hall⟩ := hrel.out
      have HALL := Lib.hid hall
      clear hrel hall
      by_cases hj : j < n
      · have hji : (j : Int) < (n : Int) := by omega
        have hjl : j < l.length := by rw [HN.out]; exact hj
        obtain ⟨g, off, rfl, hK, hg, hel⟩ := HROW.out (by omega)
        obtain ⟨cs, hcl, hcs, hE⟩ := hel j hjl
        obtain ⟨x, hx⟩ : ∃ x, l[j] = x := ⟨_, rfl⟩
        have HX := Lib.hid hx
        rw [hx] at hE
        obtain ⟨a0, b0, hE, _, hRA, hRB⟩ := hE
        obtain ⟨A1, c1, rfl⟩ : ∃ A1 c1, a0 = .slice A1 x.cols.length c1 := by obtain ⟨A1, c1, e, _⟩ := hRA; exact ⟨_, _, e⟩
        obtain ⟨A2, c2, rfl⟩ : ∃ A2 c2, b0 = .slice A2 x.sets.length c2 := by obtain ⟨A2, c2, e, _⟩ := hRB; exact ⟨_, _, e⟩
        have e0 : wr.cell? ⟨g, off + j * 3, none⟩ = some (.int .i64 x.kind) := (cell_of_heap (hf.block g hg id)).trans (by have := hcs 0 (by decide); rw [hE] at this; simpa using this)
        have e1 : wr.cell? ⟨g, off + j * 3 + 1, none⟩ = some (.slice A1 x.cols.length c1) := (cell_of_heap (hf.block g hg id)).trans (by have := hcs 1 (by decide); rw [hE] at this; simpa using this)
        have e2 : wr.cell? ⟨g, off + j * 3 + 2, none⟩ = some (.slice A2 x.sets.length c2) := (cell_of_heap (hf.block g hg id)).trans (by have := hcs 2 (by decide); rw [hE] at this; simpa using this)
        obtain ⟨wn, hwn⟩ : ∃ wn, wr.alloc (.cells #[.int .i64 x.kind, .slice A1 x.cols.length c1, .slice A2 x.sets.length c2] 66) = wn := ⟨_, rfl⟩
        obtain ⟨y, hy⟩ : ∃ y, wr.heap.size = y := ⟨_, rfl⟩
        have f1 : Fr No wr wn := by rw [← hwn]; exact (Fr.refl No wr).alloc _
        have hb : Blk wn y 66 #[.int .i64 x.kind, .slice A1 x.cols.length c1, .slice A2 x.sets.length c2] := by rw [← hwn, ← hy]; exact Blk.new wr 66 _
        have m0 : wn.cell? ⟨y, 0, none⟩ = some (.int .i64 x.kind) := hb.cell 0
        have m1 : wn.cell? ⟨y, 1, none⟩ = some (.slice A1 x.cols.length c1) := hb.cell 1
        have m2 : wn.cell? ⟨y, 2, none⟩ = some (.slice A2 x.sets.length c2) := hb.cell 2
        have HWN := Lib.hid hwn
        have HY := Lib.hid hy
        have HFN := Lib.hid (hf.trans f1 fun _ _ h => h)
        clear hb hwn hy f1
        have HC := Lib.hid (rgroup_any x wn (HP.out.no HFN.out) (hRA.at_ strG_elem HFN.out) (hRB.at_ lsG_elem HFN.out))
        clear hcs hcl hel hK hf hE hRA hRB
        go_upto_region 6 with fail
        rw [HY.out, HWN.out]
        go_wp2_with fail
        refine HC.out.mono ?_
        rintro e w5 ⟨rfl, f5⟩
        have HF5 := Lib.hid (HFN.out.trans f5 fun _ _ h => h)
        clear f5
        cases hb : rightG x with
        | true =>
          have HT : Hid ((l.take (j + 1)).all rightG = true) := Lib.hid (by rw [take_all hjl HALL.out, HX.out, hb])
          clear hb
          go_wp2_with fail
          obtain ⟨g1, rfl⟩ : ∃ g1, gk = g1 + 1 := ⟨gk - 1, by omega⟩
          go_roundg g1
          case rel => exact Lib.hid ⟨j + 1, by go_num, by omega, HF5.out, HT.out⟩
          all_goals omega
        | false =>
          have HT : Hid (l.all rightG = false) := Lib.hid (take_bad hjl (by rw [HX.out]; exact hb))
          clear hb
          go_wp2_with fail
          go_ret
          exact ⟨by rw [HT.out]; rfl, HF5.out⟩
      · have hji : (n : Int) ≤ (j : Int) := by omega
        have HT : Hid (l.all rightG = true) := Lib.hid (by have := HALL.out; rwa [List.take_of_length_le (by rw [HN.out]; omega)] at this)
        have HFE := Lib.hid hf
        clear hf
        go_wp2_with fail
        go_ret
        exact ⟨by rw [HT.out]; rfl, HFE.out⟩
    · have k1 : (n < least) = False := eq_false (by omega)
      have k2 : (most < n) = True := eq_true (by omega)
      rw [decide_eq_false h2, Bool.and_false, Bool.false_and]
      go_wp2_with fail
      go_ret
      exact ⟨rfl, Fr.refl _ _⟩
  · have k1 : (n < least) = True := eq_true (by omega)
    rw [decide_eq_false h1, Bool.false_and, Bool.false_and]
    go_wp2_with fail
    go_ret
    exact ⟨rfl, Fr.refl _ _⟩

theorem ritems_any {K : Nat → Prop} {l : List It} {v : Value} (w : World) (hp : Lr w) (h : RowE K w 2 (itG K w) v l) : Calls Tryz.prog 39 #[v] w (TellsB (rightL l 1 16 rightI) w) := by
  have HC := Lib.hid (rl90_any 1 16 (la := 1) (ma := 16) rfl rfl w hp h)
  obtain ⟨A, c, rfl, _⟩ := h
  go_enter Tryz.func39, Tryz.ntmps39
  go_wp2_with fail
  refine HC.out.mono ?_
  rintro e w5 ⟨rfl, f5⟩
  have HF5 := Lib.hid f5
  clear f5
  go_wp2_with fail
  go_ret
  exact ⟨rfl, HF5.out⟩
theorem rgroups_any {K : Nat → Prop} {A1 px : Option Addr} {n1 c1 : Nat} {t : Tx} {g : Bool} {gs : List Gp} {G : Value} (w : World) (hp : Lr w) (hgr : RowE K w 3 (gpG K w) G gs) : Calls Tryz.prog 42 #[.agg #[.slice A1 n1 c1, sv t, .pointer px, .bool g, G]] w (TellsB (if g then rightL gs 1 16 rightG else gs.isEmpty) w) := by
  obtain ⟨A2, c2, rfl⟩ : ∃ A2 c2, G = .slice A2 gs.length c2 := by obtain ⟨A2, c2, e, _⟩ := hgr; exact ⟨_, _, e⟩
  obtain ⟨w1, hw1⟩ : ∃ w1, w.alloc (.cells #[.slice A1 n1 c1, sv t, .pointer px, .bool g, .slice A2 gs.length c2] 27) = w1 := ⟨_, rfl⟩
  obtain ⟨y, hy⟩ : ∃ y, w.heap.size = y := ⟨_, rfl⟩
  have f1 : Fr No w w1 := by rw [← hw1]; exact (Fr.refl No w).alloc _
  have hb : Blk w1 y 27 #[.slice A1 n1 c1, sv t, .pointer px, .bool g, .slice A2 gs.length c2] := by rw [← hw1, ← hy]; exact Blk.new w 27 _
  have d0 : w1.cell? ⟨y, 0, none⟩ = some (.slice A1 n1 c1) := hb.cell 0
  have d1 : w1.cell? ⟨y, 1, none⟩ = some (sv t) := hb.cell 1
  have d2 : w1.cell? ⟨y, 2, none⟩ = some (.pointer px) := hb.cell 2
  have d3 : w1.cell? ⟨y, 3, none⟩ = some (.bool g) := hb.cell 3
  have d4 : w1.cell? ⟨y, 4, none⟩ = some (.slice A2 gs.length c2) := hb.cell 4
  have F1 := Lib.hid f1
  have HW1 := Lib.hid hw1
  have HY := Lib.hid hy
  have HC := Lib.hid (rl97_any 1 16 (la := 1) (ma := 16) rfl rfl w1 (hp.no f1) (hgr.at_ gpG_elem f1))
  have HF1 := Lib.hid f1
  clear f1 hb hw1 hy hp hgr
  go_enter Tryz.func42, Tryz.ntmps42
  go_upto_region 1 with fail
  rw [HW1.out, HY.out]
  cases g with
  | true =>
    go_wp2_with fail
    refine HC.out.mono ?_
    rintro e w5 ⟨rfl, f5⟩
    have HF5 := Lib.hid (HF1.out.trans f5 fun _ _ h => h)
    clear f5
    go_wp2_with fail
    go_ret
    exact ⟨rfl, HF5.out⟩
  | false =>
    go_wp2_with fail
    go_ret
    exact ⟨by cases gs with | nil => simp | cons a l => simp; omega, HF1.out⟩
end Go.Proofs.YtkcnbmgaeompjaaGreatDoor
/- Whether a condition may be: its nodes' own. -/
namespace Go.Proofs.YtkcnbmgaeompjaaGreatDoor
open Go.RowKit Go.Maps
set_option linter.unusedVariables false

/-- A node's cells. -/
structure NodeC (w : World) (g o : Nat) (k : Int) (L R : Value) (col : Tx) (op : Int) (V : Value) : Prop where
  c0 : w.cell? ⟨g, o, none⟩ = some (.int .i64 k)
  c1 : w.cell? ⟨g, o + 1, none⟩ = some L
  c2 : w.cell? ⟨g, o + 2, none⟩ = some R
  c3 : w.cell? ⟨g, o + 3, none⟩ = some (sv col)
  c4 : w.cell? ⟨g, o + 4, none⟩ = some (.int .i64 op)
  c5 : w.cell? ⟨g, o + 5, none⟩ = some V
theorem NodeC.of {w w' : World} {g o : Nat} {k : Int} {L R : Value} {col : Tx} {op : Int} {V : Value} (h : NodeC w g o k L R col op V) (e : w'.heap[g]? = w.heap[g]?) : NodeC w' g o k L R col op V := by
  obtain ⟨c0, c1, c2, c3, c4, c5⟩ := h
  refine ⟨?_, ?_, ?_, ?_, ?_, ?_⟩ <;> rw [cell_of_heap e] <;> assumption
set_option maxRecDepth 100000 in
theorem bare_any {w : World} {g o : Nat} {k : Int} {L R : Value} {col : Tx} {op : Int} {A : Option Addr} {c : Nat} {vals : List Vl} (h : NodeC w g o k L R col op (.slice A vals.length c)) : Calls Tryz.prog 95 #[.pointer (some ⟨g, o, none⟩)] w (TellsB (bareC col op vals) w) := by
  obtain ⟨c0, c1, c2, c3, c4, c5⟩ := h
  unfold bareC
  clear c0 c1 c2
  cases col with
  | cons b col =>
    go_enter Tryz.func95, Tryz.ntmps95
    go_wp2_with fail
    go_ret
    exact ⟨by simp, Fr.refl _ _⟩
  | nil =>
    by_cases ho : op = 0
    · subst ho
      cases vals with
      | nil =>
        go_enter Tryz.func95, Tryz.ntmps95
        go_wp2_with fail
        go_ret
        exact ⟨by simp, Fr.refl _ _⟩
      | cons x vals =>
        have z0 : ((((x :: vals).length : Nat) : Int) == 0) = false := by simp; omega
        go_enter Tryz.func95, Tryz.ntmps95
        go_wp2_with fail
        go_ret
        exact ⟨by simp; omega, Fr.refl _ _⟩
    · have z0 : (op == 0) = false := by simpa using ho
      go_enter Tryz.func95, Tryz.ntmps95
      go_wp2_with fail
      go_ret
      exact ⟨by simp [z0], Fr.refl _ _⟩
set_option maxRecDepth 100000 in
theorem rtest_any {K : Nat → Prop} {w : World} {g o : Nat} {k : Int} {L R : Value} {col : Tx} {op : Int} {V : Value} {vals : List Vl} (hp : Lr w) (h : NodeC w g o k L R col op V) (hr : RowE K w 3 (vlG K w) V vals) (hg : g < w.heap.size) (hcl : col.length ≤ maxLen) :
    Calls Tryz.prog 96 #[.pointer (some ⟨g, o, none⟩)] w (TellsB (testR k col op vals) w) := by
  obtain ⟨A, c, rfl⟩ : ∃ A c, V = .slice A vals.length c := by obtain ⟨A, c, e, _⟩ := hr; exact ⟨_, _, e⟩
  have HR := Lib.hid hr
  have HN := Lib.hid h
  have HI := Lib.hid (iname_any col w hp hcl)
  have HP := Lib.hid hp
  have HG := Lib.hid hg
  have HEND : Hid (∀ (bb : Bool) e w2, testR k col op vals = bb → e = .returned (.bool bb) → Fr No w w2 → TellsB (testR k col op vals) w e w2) := Lib.hid fun bb e w2 h1 h2 h3 => ⟨by rw [h2, h1], h3⟩
  obtain ⟨c0, c1, c2, c3, c4, c5⟩ := h
  clear c1 c2 hr hp
  go_enter Tryz.func96, Tryz.ntmps96
  by_cases k4 : k = 4
  · subst k4
    go_wp2_with fail
    refine HI.out.mono ?_
    rintro e w5 ⟨rfl, f5⟩
    have HF5 := Lib.hid f5
    have HN5 := Lib.hid (HN.out.of (f5.block g HG.out id))
    have HC := Lib.hid (rl138_any 1 1 (la := 1) (ma := 1) rfl rfl w5 (HP.out.no f5) (HR.out.at_ vlG_elem f5))
    have d4 := HN5.out.c4
    have d5 := HN5.out.c5
    clear f5 c0 c3 c4 c5
    cases hn : isNameB col with
    | false =>
      have HV : Hid (testR 4 col op vals = false) := Lib.hid (by unfold testR; rw [if_pos rfl, hn]; rfl)
      go_wp2_with fail
      go_ret
      exact HEND.out _ _ _ HV.out rfl HF5.out
    | true =>
      by_cases o1 : 1 ≤ op
      · by_cases o2 : op ≤ 6
        · have HV : Hid (testR 4 col op vals = rightL vals 1 1 rightV) := Lib.hid (by unfold testR; rw [if_pos rfl, hn, decide_eq_true o1, decide_eq_true o2]; rfl)
          go_wp2_with fail
          refine HC.out.mono ?_
          rintro e w6 ⟨rfl, f6⟩
          have HF6 := Lib.hid (HF5.out.trans f6 fun _ _ h => h)
          clear f6
          go_wp2_with fail
          go_ret
          exact HEND.out _ _ _ HV.out rfl HF6.out
        · have HV : Hid (testR 4 col op vals = false) := Lib.hid (by unfold testR; rw [if_pos rfl, hn, decide_eq_false o2]; simp)
          have o2' : (op ≤ 6) = False := eq_false o2
          go_wp2_with fail
          go_ret
          exact HEND.out _ _ _ HV.out (by first | rfl | simp [o2]) HF5.out
      · have HV : Hid (testR 4 col op vals = false) := Lib.hid (by unfold testR; rw [if_pos rfl, hn, decide_eq_false o1]; simp)
        have o1' : (1 ≤ op) = False := eq_false o1
        go_wp2_with fail
        go_ret
        exact HEND.out _ _ _ HV.out (by first | rfl | simp [o1]) HF5.out
  · have k4' : (k == 4) = false := by simpa using k4
    by_cases k5 : k = 5
    · subst k5
      go_wp2_with fail
      refine HI.out.mono ?_
      rintro e w5 ⟨rfl, f5⟩
      have HF5 := Lib.hid f5
      have HN5 := Lib.hid (HN.out.of (f5.block g HG.out id))
      have HC := Lib.hid (rl138_any 1 64 (la := 1) (ma := 64) rfl rfl w5 (HP.out.no f5) (HR.out.at_ vlG_elem f5))
      have d4 := HN5.out.c4
      have d5 := HN5.out.c5
      clear f5 c0 c3 c4 c5
      cases hn : isNameB col with
      | false =>
        have HV : Hid (testR 5 col op vals = false) := Lib.hid (by unfold testR; rw [if_neg (by decide), if_pos rfl, hn]; rfl)
        go_wp2_with fail
        go_ret
        exact HEND.out _ _ _ HV.out rfl HF5.out
      | true =>
        by_cases o1 : op = 0
        · subst o1
          have HV : Hid (testR 5 col 0 vals = rightL vals 1 64 rightV) := Lib.hid (by unfold testR; rw [if_neg (by decide), if_pos rfl, hn]; rfl)
          go_wp2_with fail
          refine HC.out.mono ?_
          rintro e w6 ⟨rfl, f6⟩
          have HF6 := Lib.hid (HF5.out.trans f6 fun _ _ h => h)
          clear f6
          go_wp2_with fail
          go_ret
          exact HEND.out _ _ _ HV.out rfl HF6.out
        · have o1' : (op == 0) = false := by simpa using o1
          have HV : Hid (testR 5 col op vals = false) := Lib.hid (by unfold testR; rw [if_neg (by decide), if_pos rfl, hn, o1']; rfl)
          go_wp2_with fail
          go_ret
          exact HEND.out _ _ _ HV.out rfl HF5.out
    · have k5' : (k == 5) = false := by simpa using k5
      have HV : Hid (testR k col op vals = false) := Lib.hid (by unfold testR; rw [if_neg k4, if_neg k5])
      go_wp2_with fail
      go_ret
      exact HEND.out _ _ _ HV.out rfl (Fr.refl _ _)
/-- One more node: what is left goes down by one. -/
theorem one_any {w : World} {b : Nat} {n : Int} (hb : Blk w b 77 #[.int .i64 n]) (h1 : -10 ≤ n) (h2 : n ≤ 100000) : Calls Tryz.prog 94 #[.pointer (some ⟨b, 0, none⟩)] w fun e w' => e = .returned (.bool (decide (1 ≤ n))) ∧ Blk w' b 77 #[.int .i64 (n - 1)] ∧ Fr (fun k => k = b) w w' := by
  have c0 : w.cell? ⟨b, 0, none⟩ = some (.int .i64 n) := hb.cell 0
  have x0 : w.frozen? ⟨b, 0, none⟩ = false := hb.frozen 0
  have HEND : Hid (Blk (w.setCell ⟨b, 0, none⟩ (.int .i64 (n - 1))) b 77 #[.int .i64 (n - 1)] ∧ Fr (fun k => k = b) w (w.setCell ⟨b, 0, none⟩ (.int .i64 (n - 1)))) := Lib.hid ⟨hb.set_ 0 _, fr_set (Fr.refl _ w)⟩
  have hwrap : IntKind.i64.wrap (n - 1) = n - 1 := IntWalk.i64_in _ (by omega)
  clear hb
  go_enter Tryz.func94, Tryz.ntmps94
  go_wp2_with fail
  go_ret
  exact ⟨by first | rfl | (simp; done) | (simp; omega), HEND.out⟩
end Go.Proofs.YtkcnbmgaeompjaaGreatDoor
/- Whether a condition may be. -/
namespace Go.Proofs.YtkcnbmgaeompjaaGreatDoor
open Go.RowKit Go.Maps
set_option linter.unusedVariables false

/-- A condition, down to so deep. -/
def CdTo (K : Nat → Prop) (w : World) : Nat → Cd → Value → Prop
  | _, .none, v => v = .pointer none
  | 0, .node .., v => ∃ g o, v = .pointer (some ⟨g, o, none⟩)
  | d + 1, .node k l r col op vals, v => ∃ g o L R V, v = .pointer (some ⟨g, o, none⟩) ∧ K g ∧ g < w.heap.size ∧ NodeC w g o k L R col op V ∧ CdTo K w d l L ∧ CdTo K w d r R ∧ RowE K w 3 (vlG K w) V vals ∧ col.length ≤ maxLen ∧ i64 k ∧ i64 op
theorem cdTo_of {K : Nat → Prop} {w : World} : ∀ (c : Cd) (d : Nat) (v : Value), CdAt K w c v → CdTo K w d c v
  | .none, 0, v, h => h
  | .none, d + 1, v, h => h
  | .node .., 0, v, h => by obtain ⟨g, o, _, _, _, e, _⟩ := h; exact ⟨g, o, e⟩
  | .node k l r col op vals, d + 1, v, h => by
    obtain ⟨g, o, L, R, V, h1, h2, h3, c0, c1, c2, c3, c4, c5, hl, hr, hv, h4, h5, h6⟩ := h
    exact ⟨g, o, L, R, V, h1, h2, h3, ⟨c0, c1, c2, c3, c4, c5⟩, cdTo_of l d L hl, cdTo_of r d R hr, hv, h4, h5, h6⟩
theorem CdTo.mono {K K' : Nat → Prop} {w w' : World} (hk : ∀ k, K k → k < w.heap.size → K' k ∧ w'.heap[k]? = w.heap[k]?) : ∀ {d : Nat} {c : Cd} {v : Value}, CdTo K w d c v → CdTo K' w' d c v
  | 0, .none, v, h => h
  | d + 1, .none, v, h => h
  | 0, .node .., v, h => h
  | d + 1, .node k l r col op vals, v, h => by
    obtain ⟨g, o, L, R, V, h1, h2, h3, hn, hl, hr, hv, h4⟩ := h
    obtain ⟨k1, k2⟩ := hk g h2 h3
    refine ⟨g, o, L, R, V, h1, k1, ?_, hn.of k2, CdTo.mono hk hl, CdTo.mono hk hr, hv.mono hk fun _ _ h => h, h4⟩
    rcases Nat.lt_or_ge g w'.heap.size with h5 | h5
    · exact h5
    · rw [Array.getElem?_eq_none h5, Array.getElem?_eq_getElem h3] at k2; cases k2
theorem CdTo.ptr {K : Nat → Prop} {w : World} {d : Nat} {c : Cd} {v : Value} (h : CdTo K w d c v) : (c = .none ∧ v = .pointer none) ∨ (c ≠ .none ∧ ∃ g o, v = .pointer (some ⟨g, o, none⟩)) := by
  cases c with
  | none => cases d <;> exact .inl ⟨rfl, h⟩
  | node k l r col op vals =>
    cases d with
    | zero => exact .inr ⟨(by intro e; cases e), h⟩
    | succ d => obtain ⟨g, o, _, _, _, e, _⟩ := h; exact .inr ⟨(by intro e; cases e), g, o, e⟩
/-- What counting down comes to. -/
def RightP (b : Nat) (x : Option Nat) (w : World) (e : Ending) (w' : World) : Prop := e = .returned (.bool x.isSome) ∧ Fr (fun k => k = b) w w' ∧ ∀ m : Nat, x = some m → Blk w' b 77 #[.int .i64 (m : Nat)]
theorem right_le : ∀ (c : Cd) (deep n m : Nat), rightC c deep n = some m → m ≤ n
  | .none, _, _, _, h => by cases h
  | .node k l r col op vals, deep, n, m, h => by
    unfold rightC at h
    split at h
    · cases h
    split at h
    · split at h
      · obtain ⟨a, h1, h2⟩ := Option.bind_eq_some_iff.1 h
        have := right_le l _ _ _ h1
        have := right_le r _ _ _ h2
        omega
      · cases h
    split at h
    · split at h
      · have := right_le l _ _ _ h
        omega
      · cases h
    split at h
    · cases h; omega
    · cases h
theorem right_none (deep n : Nat) : rightC .none deep n = none := by unfold rightC; rfl
theorem rc_zero (k : Int) (l r : Cd) (col : Tx) (op : Int) (vals : List Vl) (deep : Nat) : rightC (.node k l r col op vals) deep 0 = none := by unfold rightC; rw [if_pos (.inr rfl)]
theorem rc_two {k : Int} (hk : k = 1 ∨ k = 2) (l r : Cd) (col : Tx) (op : Int) (vals : List Vl) (deep n : Nat) : rightC (.node k l r col op vals) (deep + 1) (n + 1) = if bareC col op vals then (rightC l deep n).bind fun m => rightC r deep m else none := by
  conv => lhs; unfold rightC
  rw [if_neg (by omega), if_pos hk]; rfl
theorem rc_not (l r : Cd) (col : Tx) (op : Int) (vals : List Vl) (deep n : Nat) : rightC (.node 3 l r col op vals) (deep + 1) (n + 1) = if bareC col op vals ∧ r = .none then rightC l deep n else none := by
  conv => lhs; unfold rightC
  rw [if_neg (by omega), if_neg (by decide), if_pos rfl]; rfl
theorem rc_test {k : Int} (h1 : k ≠ 1) (h2 : k ≠ 2) (h3 : k ≠ 3) (l r : Cd) (col : Tx) (op : Int) (vals : List Vl) (deep n : Nat) : rightC (.node k l r col op vals) (deep + 1) (n + 1) = if l = .none ∧ r = .none ∧ testR k col op vals = true then some n else none := by
  conv => lhs; unfold rightC
  rw [if_neg (by omega), if_neg (by omega), if_neg h3]; rfl
set_option maxRecDepth 100000 in
set_option maxHeartbeats 4000000 in
theorem right_any (K : Nat → Prop) (b : Nat) (hKb : ∀ k, K k → k ≠ b) (hb6 : 6 ≤ b) : ∀ (d : Nat) (c : Cd) (v : Value) (w : World) (deep n : Nat) (di : Int), di = (deep : Nat) → deep ≤ d → c ≠ .none → CdTo K w d c v → Lr w → Blk w b 77 #[.int .i64 (n : Nat)] → n ≤ 100000 → deep ≤ 1000 →
    Calls Tryz.prog 41 #[.pointer (some ⟨b, 0, none⟩), v, .int .i64 di] w (RightP b (rightC c deep n) w)
  | d, c, v, w, 0, n, di, hdi, hd, hc, hA, hp, hb, hn, hdd => by
    obtain ⟨g, o, rfl⟩ : ∃ g o, v = .pointer (some ⟨g, o, none⟩) := by
      rcases hA.ptr with h | h
      · exact absurd h.1 hc
      · exact h.2
    obtain rfl : di = 0 := hdi
    have HV : Hid (rightC c 0 n = none) := Lib.hid (by
      cases c with
      | none => exact absurd rfl hc
      | node => unfold rightC; rw [if_pos (.inl rfl)])
    clear hA hp hb hn hc
    go_enter Tryz.func41, Tryz.ntmps41
    go_wp2_with fail
    go_ret
    exact ⟨by rw [HV.out]; rfl, Fr.refl _ _, fun m h => by rw [HV.out] at h; cases h⟩
  | d, .none, v, w, deep + 1, n, di, hdi, hd, hc, hA, hp, hb, hn, hdd => absurd rfl hc
  | 0, .node .., v, w, deep + 1, n, di, hdi, hd, hc, hA, hp, hb, hn, hdd => by omega
  | d + 1, .node k l r col op vals, v, w, deep + 1, n, di, hdi, hd, hc, hA, hp, hb, hn, hdd => by
    obtain ⟨g, o, L, R, V, rfl, hK, hg, hN, hl, hr, hv, hcl, _, _⟩ := hA
    have hgb := hKb g hK
    have HONE := Lib.hid (one_any hb (by omega) (by omega))
    have hz : (di == 0) = false := by simp; omega
    have HDI : Hid (di = ((deep + 1 : Nat) : Int)) := Lib.hid hdi
    have HN := Lib.hid hN
    have HL := Lib.hid hl
    have HR := Lib.hid hr
    have HV := Lib.hid hv
    have HP := Lib.hid hp
    have HG := Lib.hid hg
    have HGB := Lib.hid hgb
    have HCL := Lib.hid hcl
    clear hb hN hl hr hv hp hg hgb hcl hdi hK
    go_enter Tryz.func41, Tryz.ntmps41
    go_wp2_with fail
    refine HONE.out.mono ?_
    rintro e w1 ⟨rfl, hb1, f1⟩
    have HB1 := Lib.hid hb1
    have HF1 := Lib.hid f1
    have HN1 := Lib.hid (HN.out.of (f1.block g HG.out HGB.out))
    clear hb1 f1 HONE
    have HAT : Hid (∀ w2, Fr (fun k => k = b) w w2 → Lr w2 ∧ NodeC w2 g o k L R col op V ∧ CdTo K w2 d l L ∧ CdTo K w2 d r R ∧ RowE K w2 3 (vlG K w2) V vals ∧ g < w2.heap.size) := Lib.hid fun w2 f2 =>
      have hk : ∀ k, K k → k < w.heap.size → K k ∧ w2.heap[k]? = w.heap[k]? := fun k h1 h2 => ⟨h1, f2.block k h2 (hKb k h1)⟩
      ⟨HP.out.keep (B := 6) (by omega) (f2.below_of (by have := HP.out.lt; omega) fun k e => by have e : k = b := e; omega), HN.out.of (f2.block g HG.out HGB.out), HL.out.mono hk, HR.out.mono hk, HV.out.mono hk fun _ _ h => h, Nat.lt_of_lt_of_le HG.out f2.size⟩
    have HEND : Hid (∀ (x : Option Nat) e w', rightC (.node k l r col op vals) (deep + 1) n = x → e = .returned (.bool x.isSome) → Fr (fun k => k = b) w w' → (∀ m : Nat, x = some m → Blk w' b 77 #[.int .i64 (m : Nat)]) → RightP b (rightC (.node k l r col op vals) (deep + 1) n) w e w') := Lib.hid fun x e w' h1 h2 h3 h4 => by rw [h1]; exact ⟨h2, h3, h4⟩
    have HFX := HF1
    cases n with
    | zero =>
      have hn1 : (1 : Int) ≤ ((0 : Nat) : Int) ↔ False := by simp
      go_wp2_with fail
      go_ret
      exact HEND.out none _ _ (rc_zero _ _ _ _ _ _ _) rfl HFX.out (fun m h => by cases h)
    | succ n =>
    have hn1 : ((1 : Int) ≤ (n : Int) + 1) = True := eq_true (by omega)
    have e1 : (((n + 1 : Nat) : Int) - 1) = ((n : Nat) : Int) := by omega
    rw [e1] at HB1
    clear e1
    obtain ⟨A, c, rfl⟩ : ∃ A c, V = .slice A vals.length c := by obtain ⟨A, c, e, _⟩ := HV.out; exact ⟨_, _, e⟩
    have HBARE := Lib.hid (fun w2 f2 => bare_any ((HAT.out w2 f2).2.1))
    have d0 := HN1.out.c0
    have d1 := HN1.out.c1
    have d2 := HN1.out.c2
    have HDD : Hid (deep ≤ d ∧ deep ≤ 1000 ∧ n ≤ 100000) := Lib.hid (by omega)
    have hdi : IntKind.i64.wrap (di - 1) = ((deep : Nat) : Int) := by rw [HDI.out, IntWalk.i64_in _ (by omega)]; omega
    by_cases k1 : k = 1
    · subst k1
      go_wp2_with fail
      refine (HBARE.out w1 HF1.out).mono ?_
      rintro e w2 ⟨rfl, f2⟩
      have HF2 := Lib.hid (HF1.out.trans f2.any fun _ _ h => h)
      have HB2 := Lib.hid (HB1.out.of (f2.block b HB1.out.lt id))
      have HFX := HF2
      obtain ⟨hp2, hn2, hl2, hr2, hv2, hg2⟩ := HAT.out w2 HF2.out
      have d0 := hn2.c0
      have d1 := hn2.c1
      have d2 := hn2.c2
      have HL2 := Lib.hid hl2
      have HP2 := Lib.hid hp2
      clear f2 hp2 hn2 hl2 hr2 hv2 hg2
      cases hbb : bareC col op vals with
      | false =>
        go_wp2_with fail
        go_ret
        exact HEND.out none _ _ (by rw [rc_two (.inl rfl), hbb]; rfl) rfl HFX.out (fun m h => by cases h)
      | true =>
      rcases HL.out.ptr with ⟨hl0, rfl⟩ | ⟨hl0, gl, ol, rfl⟩
      · have HV2 : Hid (rightC (.node 1 l r col op vals) (deep + 1) (n + 1) = none) := Lib.hid (by rw [rc_two (.inl rfl), hbb, hl0, right_none]; rfl)
        clear hl0
        go_wp2_with fail
        go_ret
        exact HEND.out none _ _ (HV2.out) rfl HFX.out (fun m h => by cases h)
      rcases HR.out.ptr with ⟨hr0, rfl⟩ | ⟨hr0, gr, or, rfl⟩
      · have HV2 : Hid (rightC (.node 1 l r col op vals) (deep + 1) (n + 1) = none) := Lib.hid (by rw [rc_two (.inl rfl), hbb, hr0]; cases rightC l deep n with | none => rfl | some m => exact right_none deep m)
        clear hr0
        go_wp2_with fail
        go_ret
        exact HEND.out none _ _ (HV2.out) rfl HFX.out (fun m h => by cases h)
      have HIH := Lib.hid (right_any K b hKb hb6 d l _ w2 deep n _ rfl HDD.out.1 hl0 HL2.out HP2.out HB2.out HDD.out.2.2 HDD.out.2.1)
      have HR0 := Lib.hid hr0
      have HL0 := Lib.hid hl0
      clear hl0 hr0
      go_wp2_with fail
      refine HIH.out.mono ?_
      clear HIH
      rintro e w3 ⟨rfl, f3, hb3⟩
      have HF3 := Lib.hid (HF2.out.trans f3 fun _ _ h => h)
      have HFX := HF3
      obtain ⟨hp3, hn3, hl3, hr3, hv3, hg3⟩ := HAT.out w3 HF3.out
      have d0 := hn3.c0
      have d1 := hn3.c1
      have d2 := hn3.c2
      cases hx : rightC l deep n with
      | none =>
        have HV2 : Hid (rightC (.node 1 l r col op vals) (deep + 1) (n + 1) = none) := Lib.hid (by rw [rc_two (.inl rfl), hbb, hx]; rfl)
        clear f3 hb3 hp3 hn3 hl3 hr3 hv3 hg3 hx
        go_wp2_with fail
        go_ret
        exact HEND.out none _ _ (HV2.out) rfl HFX.out (fun m h => by cases h)
      | some m =>
        have HV2 : Hid (rightC (.node 1 l r col op vals) (deep + 1) (n + 1) = rightC r deep m) := Lib.hid (by rw [rc_two (.inl rfl), hbb, hx]; rfl)
        have hm := right_le l _ _ _ hx
        have HIH := Lib.hid (right_any K b hKb hb6 d r _ w3 deep m _ rfl HDD.out.1 HR0.out hr3 hp3 (hb3 m hx) (by have := HDD.out.2.2; omega) HDD.out.2.1)
        clear f3 hb3 hp3 hn3 hl3 hr3 hv3 hg3 hx
        go_wp2_with fail
        refine HIH.out.mono ?_
        clear HIH
        rintro e w4 ⟨rfl, f4, hb4⟩
        have HF4 := Lib.hid (HF3.out.trans f4 fun _ _ h => h)
        have HB4 := Lib.hid hb4
        clear f4 hb4
        go_wp2_with fail
        go_ret
        exact HEND.out _ _ _ HV2.out rfl HF4.out HB4.out
    have k1' : (k == 1) = false := by simpa using k1
    by_cases k2 : k = 2
    · subst k2
      go_wp2_with fail
      refine (HBARE.out w1 HF1.out).mono ?_
      rintro e w2 ⟨rfl, f2⟩
      have HF2 := Lib.hid (HF1.out.trans f2.any fun _ _ h => h)
      have HB2 := Lib.hid (HB1.out.of (f2.block b HB1.out.lt id))
      have HFX := HF2
      obtain ⟨hp2, hn2, hl2, hr2, hv2, hg2⟩ := HAT.out w2 HF2.out
      have d0 := hn2.c0
      have d1 := hn2.c1
      have d2 := hn2.c2
      have HL2 := Lib.hid hl2
      have HP2 := Lib.hid hp2
      clear f2 hp2 hn2 hl2 hr2 hv2 hg2
      cases hbb : bareC col op vals with
      | false =>
        go_wp2_with fail
        go_ret
        exact HEND.out none _ _ (by rw [rc_two (.inr rfl), hbb]; rfl) rfl HFX.out (fun m h => by cases h)
      | true =>
      rcases HL.out.ptr with ⟨hl0, rfl⟩ | ⟨hl0, gl, ol, rfl⟩
      · have HV2 : Hid (rightC (.node 2 l r col op vals) (deep + 1) (n + 1) = none) := Lib.hid (by rw [rc_two (.inr rfl), hbb, hl0, right_none]; rfl)
        clear hl0
        go_wp2_with fail
        go_ret
        exact HEND.out none _ _ (HV2.out) rfl HFX.out (fun m h => by cases h)
      rcases HR.out.ptr with ⟨hr0, rfl⟩ | ⟨hr0, gr, or, rfl⟩
      · have HV2 : Hid (rightC (.node 2 l r col op vals) (deep + 1) (n + 1) = none) := Lib.hid (by rw [rc_two (.inr rfl), hbb, hr0]; cases rightC l deep n with | none => rfl | some m => exact right_none deep m)
        clear hr0
        go_wp2_with fail
        go_ret
        exact HEND.out none _ _ (HV2.out) rfl HFX.out (fun m h => by cases h)
      have HIH := Lib.hid (right_any K b hKb hb6 d l _ w2 deep n _ rfl HDD.out.1 hl0 HL2.out HP2.out HB2.out HDD.out.2.2 HDD.out.2.1)
      have HR0 := Lib.hid hr0
      have HL0 := Lib.hid hl0
      clear hl0 hr0
      go_wp2_with fail
      refine HIH.out.mono ?_
      clear HIH
      rintro e w3 ⟨rfl, f3, hb3⟩
      have HF3 := Lib.hid (HF2.out.trans f3 fun _ _ h => h)
      have HFX := HF3
      obtain ⟨hp3, hn3, hl3, hr3, hv3, hg3⟩ := HAT.out w3 HF3.out
      have d0 := hn3.c0
      have d1 := hn3.c1
      have d2 := hn3.c2
      cases hx : rightC l deep n with
      | none =>
        have HV2 : Hid (rightC (.node 2 l r col op vals) (deep + 1) (n + 1) = none) := Lib.hid (by rw [rc_two (.inr rfl), hbb, hx]; rfl)
        clear f3 hb3 hp3 hn3 hl3 hr3 hv3 hg3 hx
        go_wp2_with fail
        go_ret
        exact HEND.out none _ _ (HV2.out) rfl HFX.out (fun m h => by cases h)
      | some m =>
        have HV2 : Hid (rightC (.node 2 l r col op vals) (deep + 1) (n + 1) = rightC r deep m) := Lib.hid (by rw [rc_two (.inr rfl), hbb, hx]; rfl)
        have hm := right_le l _ _ _ hx
        have HIH := Lib.hid (right_any K b hKb hb6 d r _ w3 deep m _ rfl HDD.out.1 HR0.out hr3 hp3 (hb3 m hx) (by have := HDD.out.2.2; omega) HDD.out.2.1)
        clear f3 hb3 hp3 hn3 hl3 hr3 hv3 hg3 hx
        go_wp2_with fail
        refine HIH.out.mono ?_
        clear HIH
        rintro e w4 ⟨rfl, f4, hb4⟩
        have HF4 := Lib.hid (HF3.out.trans f4 fun _ _ h => h)
        have HB4 := Lib.hid hb4
        clear f4 hb4
        go_wp2_with fail
        go_ret
        exact HEND.out _ _ _ HV2.out rfl HF4.out HB4.out
    have k2' : (k == 2) = false := by simpa using k2
    by_cases k3 : k = 3
    · subst k3
      go_wp2_with fail
      refine (HBARE.out w1 HF1.out).mono ?_
      rintro e w2 ⟨rfl, f2⟩
      have HF2 := Lib.hid (HF1.out.trans f2.any fun _ _ h => h)
      have HB2 := Lib.hid (HB1.out.of (f2.block b HB1.out.lt id))
      have HFX := HF2
      obtain ⟨hp2, hn2, hl2, hr2, hv2, hg2⟩ := HAT.out w2 HF2.out
      have d0 := hn2.c0
      have d1 := hn2.c1
      have d2 := hn2.c2
      have HL2 := Lib.hid hl2
      have HP2 := Lib.hid hp2
      clear f2 hp2 hn2 hl2 hr2 hv2 hg2
      cases hbb : bareC col op vals with
      | false =>
        go_wp2_with fail
        go_ret
        exact HEND.out none _ _ (by rw [rc_not, hbb]; rfl) rfl HFX.out (fun m h => by cases h)
      | true =>
      rcases HL.out.ptr with ⟨hl0, rfl⟩ | ⟨hl0, gl, ol, rfl⟩
      · have HV2 : Hid (rightC (.node 3 l r col op vals) (deep + 1) (n + 1) = none) := Lib.hid (by rw [rc_not, hl0, right_none]; split <;> rfl)
        clear hl0
        go_wp2_with fail
        go_ret
        exact HEND.out none _ _ (HV2.out) rfl HFX.out (fun m h => by cases h)
      rcases HR.out.ptr with ⟨hr0, rfl⟩ | ⟨hr0, gr, or, rfl⟩
      · have HV2 : Hid (rightC (.node 3 l r col op vals) (deep + 1) (n + 1) = rightC l deep n) := Lib.hid (by rw [rc_not, if_pos ⟨hbb, hr0⟩])
        have HIH := Lib.hid (right_any K b hKb hb6 d l _ w2 deep n _ rfl HDD.out.1 hl0 HL2.out HP2.out HB2.out HDD.out.2.2 HDD.out.2.1)
        clear hl0 hr0
        go_wp2_with fail
        refine HIH.out.mono ?_
        clear HIH
        rintro e w4 ⟨rfl, f4, hb4⟩
        have HF4 := Lib.hid (HF2.out.trans f4 fun _ _ h => h)
        have HB4 := Lib.hid hb4
        clear f4 hb4
        go_wp2_with fail
        go_ret
        exact HEND.out _ _ _ HV2.out rfl HF4.out HB4.out
      · have HV2 : Hid (rightC (.node 3 l r col op vals) (deep + 1) (n + 1) = none) := Lib.hid (by rw [rc_not, if_neg (fun h => hr0 h.2)])
        clear hl0 hr0
        go_wp2_with fail
        go_ret
        exact HEND.out none _ _ (HV2.out) rfl HFX.out (fun m h => by cases h)
    have k3' : (k == 3) = false := by simpa using k3
    rcases HL.out.ptr with ⟨hl0, rfl⟩ | ⟨hl0, gl, ol, rfl⟩
    · rcases HR.out.ptr with ⟨hr0, rfl⟩ | ⟨hr0, gr, or, rfl⟩
      · have HV2 : Hid (rightC (.node k l r col op vals) (deep + 1) (n + 1) = if testR k col op vals = true then some n else none) := Lib.hid (by rw [rc_test k1 k2 k3]; simp only [hl0, hr0, true_and])
        obtain ⟨hp2, hn2, hl2, hr2, hv2, hg2⟩ := HAT.out w1 HF1.out
        have HRT := Lib.hid (rtest_any hp2 hn2 hv2 hg2 HCL.out)
        clear hl0 hr0 hp2 hn2 hl2 hr2 hv2 hg2
        go_wp2_with fail
        refine HRT.out.mono ?_
        clear HRT
        rintro e w4 ⟨rfl, f4⟩
        have HF4 := Lib.hid (HF1.out.trans f4.any fun _ _ h => h)
        have HB4 := Lib.hid (HB1.out.of (f4.block b HB1.out.lt id))
        clear f4
        cases ht : testR k col op vals with
        | true =>
          rw [ht, if_pos rfl] at HV2
          go_wp2_with fail
          go_ret
          exact HEND.out _ _ _ HV2.out rfl HF4.out (fun m h => by cases h; exact HB4.out)
        | false =>
          rw [ht, if_neg (by decide)] at HV2
          go_wp2_with fail
          go_ret
          exact HEND.out _ _ _ HV2.out rfl HF4.out (fun m h => by cases h)
      · have HV2 : Hid (rightC (.node k l r col op vals) (deep + 1) (n + 1) = none) := Lib.hid (by rw [rc_test k1 k2 k3, if_neg (fun h => hr0 h.2.1)])
        clear hl0 hr0
        go_wp2_with fail
        go_ret
        exact HEND.out none _ _ (HV2.out) rfl HFX.out (fun m h => by cases h)
    · have HV2 : Hid (rightC (.node k l r col op vals) (deep + 1) (n + 1) = none) := Lib.hid (by rw [rc_test k1 k2 k3, if_neg (fun h => hl0 h.1)])
      clear hl0
      go_wp2_with fail
      go_ret
      exact HEND.out none _ _ (HV2.out) rfl HFX.out (fun m h => by cases h)
end Go.Proofs.YtkcnbmgaeompjaaGreatDoor
