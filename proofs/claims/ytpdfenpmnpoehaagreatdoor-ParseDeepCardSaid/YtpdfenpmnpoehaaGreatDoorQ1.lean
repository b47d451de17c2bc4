/- Reading a query, in memory: the program's tables, rows, conditions, a reader. -/
import Derived.Test.YtpdfenpmnpoehaaGreatDoorXC1
import Derived.Test.YtpdfenpmnpoehaaGreatDoorXC2
import Derived.Test.YtpdfenpmnpoehaaGreatDoorP7
import Derived.Lib.LaidTab
import Derived.Lib.ItoaNum
namespace Go.Proofs.YtpdfenpmnpoehaaGreatDoor
open Go.RowKit Go.Maps
set_option linter.unusedVariables false

abbrev sv (l : Tx) : Value := .string ⟨l.toArray⟩
theorem sz (l : Tx) : (⟨l.toArray⟩ : ByteArray).size = l.length := by simp [ByteArray.size]
def i64 (n : Int) : Prop := -9223372036854775808 ≤ n ∧ n ≤ 9223372036854775807

/-! ### the program's variables -/
theorem gTab : Tryz.prog.globalNamed "internal/strconv.uint64pow10" = some 4 := by kernel_rfl
theorem var_of {w w' : World} {n : String} {g : Nat} {cs : Array Value} (hg : Tryz.prog.globalNamed n = some g) (hk : w'.heap[g]? = w.heap[g]?) (hv : w.var? Tryz.prog n = some cs) : w'.var? Tryz.prog n = some cs := by
  unfold World.var? at hv ⊢
  simp only [hg, Option.bind_some] at hv ⊢
  rw [hk]; exact hv
theorem cell_of_heap {w w' : World} {g o : Nat} (h : w'.heap[g]? = w.heap[g]?) : w'.cell? ⟨g, o, none⟩ = w.cell? ⟨g, o, none⟩ := by
  simp [World.cell?, h]
/-- The program's tables, and the library's variables that are read. -/
structure Pv (w : World) : Prop where
  lr : Lr w
  calls : ∀ k, k < 7 → w.cell? ⟨0, k, none⟩ = some (sv (callsT.getD k []))
  signs : ∀ k, k < 7 → w.cell? ⟨3, k, none⟩ = some (sv (signsT.getD k []))
  p10 : Lib.TabIs Tryz.prog w "internal/strconv.uint64pow10" .u64 Lib.pow10Tab
  es : ∃ a b, w.cell? ⟨10, 0, none⟩ = some (.iface a b)
  er : ∃ a b, w.cell? ⟨11, 0, none⟩ = some (.iface a b)
theorem Pv.lt {w : World} (h : Pv w) : 11 < w.heap.size := by
  obtain ⟨a, b, h⟩ := h.er
  exact World.block_lt_of_cell? (a := ⟨11, 0, none⟩) _ h
theorem Pv.keep {w w' : World} {F : Nat → Prop} (h : Pv w) (hf : Fr F w w') (hF : ∀ k, F k → 11 < k) : Pv w' := by
  have hl := h.lt
  have hk : ∀ k, k ≤ 11 → w'.heap[k]? = w.heap[k]? := fun k hk => hf.block k (by omega) fun hh => by have := hF k hh; omega
  refine ⟨h.lr.keep (B := 12) (by omega) ⟨hf.os, hf.tape, hf.output, hf.size, fun k h12 => hk k (by omega)⟩, fun k h7 => ?_, fun k h7 => ?_, var_of gTab (hk 4 (by omega)) h.p10, ?_, ?_⟩
  · rw [cell_of_heap (hk 0 (by omega))]; exact h.calls k h7
  · rw [cell_of_heap (hk 3 (by omega))]; exact h.signs k h7
  · obtain ⟨a, b, h1⟩ := h.es
    exact ⟨a, b, by rw [cell_of_heap (hk 10 (by omega))]; exact h1⟩
  · obtain ⟨a, b, h1⟩ := h.er
    exact ⟨a, b, by rw [cell_of_heap (hk 11 (by omega))]; exact h1⟩
theorem Pv.no {w w' : World} (h : Pv w) (hf : Fr No w w') : Pv w' := h.keep hf fun _ h => h.elim

/-! ### rows of anything -/
/-- v reads as l: elements of so many cells, in blocks of which K speaks. -/
def RowE {α : Type} (K : Nat → Prop) (w : World) (size : Nat) (E : α → List Value → Prop) (v : Value) (l : List α) : Prop :=
  ∃ A c, v = .slice A l.length c ∧ l.length ≤ c ∧ c ≤ maxLen ∧ (0 < l.length → ∃ g off, A = some ⟨g, off, none⟩ ∧ K g ∧ g < w.heap.size ∧ ∀ j (h : j < l.length), ∃ cs : List Value, cs.length = size ∧ (∀ i, i < size → w.cell? ⟨g, off + j * size + i, none⟩ = cs[i]?) ∧ E l[j] cs)
theorem RowE.mono {α : Type} {K K' : Nat → Prop} {w w' : World} {size : Nat} {E E' : α → List Value → Prop} {v : Value} {l : List α} (h : RowE K w size E v l) (hk : ∀ k, K k → k < w.heap.size → K' k ∧ w'.heap[k]? = w.heap[k]?) (hE : ∀ x cs, E x cs → E' x cs) : RowE K' w' size E' v l := by
  obtain ⟨A, c, e, hm, hc, h⟩ := h
  refine ⟨A, c, e, hm, hc, fun hl => ?_⟩
  obtain ⟨g, off, e1, hg, hgl, h⟩ := h hl
  obtain ⟨k1, k2⟩ := hk g hg hgl
  refine ⟨g, off, e1, k1, ?_, fun j hj => ?_⟩
  · rcases Nat.lt_or_ge g w'.heap.size with h3 | h3
    · exact h3
    · rw [Array.getElem?_eq_none h3, Array.getElem?_eq_getElem hgl] at k2; cases k2
  · obtain ⟨cs, h1, h2, h3⟩ := h j hj
    exact ⟨cs, h1, fun i hi => by rw [cell_of_heap k2]; exact h2 i hi, hE _ _ h3⟩
theorem RowE.nil {α : Type} (K : Nat → Prop) (w : World) (size : Nat) (E : α → List Value → Prop) : RowE K w size E (.slice none 0 0) [] := ⟨none, 0, rfl, Nat.le_refl _, by decide, fun h => absurd h (by simp)⟩
section
variable {α : Type}
/-- What an element's cells mean may hang on blocks of its own: K says which. -/
structure Elem (E : (Nat → Prop) → World → α → List Value → Prop) : Prop where
  mono : ∀ K K' w w' x cs, E K w x cs → (∀ k, K k → k < w.heap.size → K' k ∧ w'.heap[k]? = w.heap[k]?) → E K' w' x cs
/-- v is a row of one's own in blocks from b on, and reads as l. -/
def Grow (b e size : Nat) (E : (Nat → Prop) → World → α → List Value → Prop) (w : World) (v : Value) (l : List α) : Prop :=
  ∃ (K : Nat → Prop) (xs : List Value), w.ownsRow b e size v l.length xs ∧ (∀ j (h : j < l.length), ∃ cs : List Value, cs.length = size ∧ (∀ i, i < size → xs[j * size + i]? = cs[i]?) ∧ E K w l[j] cs) ∧ (∀ k, K k → b ≤ k ∧ k < w.heap.size ∧ v.ownBlock ≠ some k)
theorem Grow.len {b e size : Nat} {E : (Nat → Prop) → World → α → List Value → Prop} {w : World} {v : Value} {l : List α} (h : Grow b e size E w v l) : ∃ A c, v = .slice A l.length c := by
  obtain ⟨K, xs, ho, _⟩ := h
  rcases ho.2 with ⟨e1, h0⟩ | ⟨g, cap, cur, e1, _⟩
  · exact ⟨_, _, by rw [h0]; exact e1⟩
  · exact ⟨_, _, e1⟩
/-- The reader's block, and what is new, are none of the row's. -/
theorem Grow.keep {b e size : Nat} {E : (Nat → Prop) → World → α → List Value → Prop} (hE : Elem E) {w w' : World} {v : Value} {l : List α} (h : Grow b e size E w v l) {F : Nat → Prop} (hf : Fr F w w') (hF : ∀ k, F k → k < b) : Grow b e size E w' v l := by
  obtain ⟨K, xs, ho, hel, hK⟩ := h
  refine ⟨K, xs, own_of ho fun k hk => ?_, fun j hj => ?_, fun k hk => ?_⟩
  · have := ho.lt k hk
    exact hf.block k this.2 fun hF' => by have := hF k hF'; omega
  · obtain ⟨cs, h1, h2, h3⟩ := hel j hj
    exact ⟨cs, h1, h2, hE.mono _ _ _ _ _ _ h3 fun k hk hlt => ⟨hk, hf.block k hlt fun hF' => by have := hF k hF'; have := (hK k hk).1; omega⟩⟩
  · obtain ⟨h1, h2, h3⟩ := hK k hk
    exact ⟨h1, Nat.lt_of_lt_of_le h2 hf.size, h3⟩
theorem Grow.lt {b e size : Nat} {E : (Nat → Prop) → World → α → List Value → Prop} {w : World} {v : Value} {l : List α} (h : Grow b e size E w v l) : ∀ k, v.ownBlock = some k → b ≤ k ∧ k < w.heap.size := by
  obtain ⟨K, xs, ho, _⟩ := h
  intro k hk
  exact ho.lt k hk
/-- One element in a block of its own. -/
theorem Grow.single {b e size : Nat} {E : (Nat → Prop) → World → α → List Value → Prop} (hE : Elem E) {w0 w : World} (hb : b ≤ w0.heap.size) (hw : w0.heap.size ≤ w.heap.size) (x : α) (cs : List Value) (hcs : cs.length = size) (hx : E (fun k => w0.heap.size ≤ k) w x cs) (hs : 0 < size) :
    Grow b e size E (w.alloc (.cells cs.toArray e)) (.slice (some ⟨w.heap.size, 0, none⟩) 1 1) [x] := by
  have hfa : Fr No w (w.alloc (.cells cs.toArray e)) := (Fr.refl No w).alloc _
  refine ⟨fun k => w0.heap.size ≤ k ∧ k < w.heap.size, cs, ⟨by simp [hcs], .inr ⟨w.heap.size, 1, cs.toArray, rfl, by omega, heap_alloc_new w _, Nat.le_refl _, by decide, by simp [hcs], by simp [← hcs]⟩⟩, fun j hj => ?_, fun k hk => ?_⟩
  · obtain rfl : j = 0 := by simpa using hj
    refine ⟨cs, hcs, fun i hi => by simp, ?_⟩
    exact hE.mono _ _ _ _ _ _ hx fun k hk hlt => ⟨⟨hk, hlt⟩, hfa.block k hlt id⟩
  · refine ⟨by omega, by simp; omega, fun e1 => ?_⟩
    simp [Value.ownBlock] at e1; omega
/-- One more, laid ahead in a block of its own. -/
theorem Grow.more {b e size bytes : Nat} {E : (Nat → Prop) → World → α → List Value → Prop} (hE : Elem E) {w0 w : World} {v : Value} {l : List α} (h : Grow b e size E w v l) (hb : b ≤ w0.heap.size) (hw0 : w0.heap.size ≤ w.heap.size) (hv0 : ∀ k, v.ownBlock = some k → k < w0.heap.size)
    (t : TypeId) (ht : Tryz.prog.underlying t = some (.slice e)) (z : Value) (hinfo : (Tryz.prog.info? e).map (fun i => (i.zero, i.size, i.bytes)) = some (some z, size, bytes)) (hzs : z.cells.size = size) (hsz : 0 < size)
    (x : α) (cs : List Value) (hcs : cs.length = size) (hone : ∀ u ∈ cs, u.oneCell' = true) (hx : E (fun k => w0.heap.size ≤ k) w x cs) (hlen : (l.length + 1) * bytes ≤ 140737488355328) (hmax : l.length + 1 ≤ maxLen) :
    ∃ A c w', (∀ ty, (Builtin.append_ #[t, t] ty #[v, .slice (some ⟨w.heap.size, 0, none⟩) 1 1]).run Tryz.prog (w.alloc (.cells cs.toArray e)) = .ok (.slice A (l.length + 1) c) w') ∧ Grow b e size E w' (.slice A (l.length + 1) c) (l ++ [x]) ∧
      Fr (fun k => v.ownBlock = some k) w w' ∧ (∀ k, (Value.slice A (l.length + 1) c).ownBlock = some k → k < w'.heap.size) := by
  obtain ⟨K, xs, ho, hel, hK⟩ := h
  obtain ⟨i0, hi, hz0, hz1, hz2⟩ := info_parts hinfo
  have hfa : Fr No w (w.alloc (.cells cs.toArray e)) := (Fr.refl No w).alloc _
  have ho' : (w.alloc (.cells cs.toArray e)).ownsRow b e size v l.length xs := own_of ho fun k hk => hfa.block k (ho.lt k hk).2 id
  have hnews : ∀ j u, cs[j]? = some u → (w.alloc (.cells cs.toArray e)).cell? ((⟨w.heap.size, 0, none⟩ : Addr).add j) = some u := by
    intro j u hu
    rw [Addr.add_lit, Nat.zero_add]
    exact ((Blk.new w e cs.toArray).cell j).trans (by simpa using hu)
  obtain ⟨v', w', hr, how, hgr, hnil, hat⟩ := run_append_own_at (P := Tryz.prog) (w.alloc (.cells cs.toArray e)) b t 0 e i0 z size bytes ht hi hz0 hz1 hz2 hzs hsz v l.length xs ho' ⟨w.heap.size, 0, none⟩ 1 1 cs (by omega) hnews hone hmax hlen (by simp; omega)
  have hv' : ∃ A c, v' = .slice A (l.length + 1) c := by
    rcases how.2 with ⟨e1, h0⟩ | ⟨g, cap, cur, e1, _⟩
    · omega
    · exact ⟨_, _, e1⟩
  obtain ⟨A, c, rfl⟩ := hv'
  have hsize : w.heap.size < (w.alloc (.cells cs.toArray e)).heap.size := by simp
  have hfr : Fr (fun k => v.ownBlock = some k) w w' := hfa.any.grown hgr fun k hk _ => hk
  have hw' : w.heap.size < w'.heap.size := Nat.lt_of_lt_of_le hsize hgr.size
  refine ⟨A, c, w', fun ty => hr, ⟨fun k => K k ∨ (w0.heap.size ≤ k ∧ k < w.heap.size), xs ++ cs, by simpa using how, fun j hj => ?_, fun k hk => ?_⟩, hfr, fun k hk => ?_⟩
  · rw [List.length_append, List.length_singleton] at hj
    by_cases hjl : j < l.length
    · obtain ⟨cs', h1, h2, h3⟩ := hel j hjl
      refine ⟨cs', h1, fun i hi' => ?_, ?_⟩
      · have hlt : j * size + i < xs.length := by
          rw [ho.1]
          have := Nat.mul_le_mul_right size (show j + 1 ≤ l.length by omega)
          rw [Nat.add_mul, Nat.one_mul] at this
          omega
        rw [List.getElem?_append_left hlt]; exact h2 i hi'
      · rw [List.getElem_append_left hjl]
        exact hE.mono _ _ _ _ _ _ h3 fun k hk hlt => ⟨.inl hk, hfr.block k hlt (hK k hk).2.2⟩
    · obtain rfl : j = l.length := by omega
      refine ⟨cs, hcs, fun i hi' => ?_, ?_⟩
      · rw [List.getElem?_append_right (by rw [ho.1]; omega), ho.1, Nat.add_sub_cancel_left]
      · rw [List.getElem_append_right (by omega)]
        simp only [Nat.sub_self, List.getElem_cons_zero]
        exact hE.mono _ _ _ _ _ _ hx fun k hk hlt => ⟨.inr ⟨hk, hlt⟩, hfr.block k hlt fun e => by have := hv0 k e; omega⟩
  · have hatk : ∀ j, (Value.slice A (l.length + 1) c).ownBlock = some j → v.ownBlock = some j ∨ j = (w.alloc (.cells cs.toArray e)).heap.size := fun j hj => by
      rcases hat with e1 | e1
      · exact .inl (e1 ▸ hj)
      · rw [hj] at e1; exact .inr (Option.some.inj e1)
    rcases hk with hk | hk
    · obtain ⟨h1, h2, h3⟩ := hK k hk
      refine ⟨h1, by omega, fun e1 => ?_⟩
      rcases hatk k e1 with e2 | e2
      · exact h3 e2
      · omega
    · refine ⟨by omega, by omega, fun e1 => ?_⟩
      rcases hatk k e1 with e2 | e2
      · have := hv0 k e2; omega
      · omega
  · exact (how.lt k hk).2
/-- What was built, read as any row. -/
theorem Grow.row {b e size : Nat} {E : (Nat → Prop) → World → α → List Value → Prop} (hE : Elem E) {w : World} {v : Value} {l : List α} (h : Grow b e size E w v l) : RowE (fun k => b ≤ k) w size (E (fun k => b ≤ k) w) v l := by
  obtain ⟨K, xs, ho, hel, hK⟩ := h
  rcases ho.2 with ⟨e1, h0'⟩ | ⟨g, cap, cur, e1, hg, hh, hn, hcm, hcs, htk⟩
  · exact ⟨none, 0, by rw [h0']; exact e1, by omega, by decide, fun h0 => by omega⟩
  · refine ⟨_, cap, e1, hn, hcm, fun h0 => ⟨g, 0, rfl, hg, (ho.lt g (by rw [e1]; rfl)).2, fun j hj => ?_⟩⟩
    obtain ⟨cs, h1, h2, h3⟩ := hel j hj
    refine ⟨cs, h1, fun i hi => ?_, hE.mono _ _ _ _ _ _ h3 fun k hk hlt => ⟨(hK k hk).1, rfl⟩⟩
    rw [cell_of_row w g _ cur e (0, 0) hh, ← h2 i hi, ← htk, List.getElem?_take, Nat.zero_add]
    have hlt : j * size + i < l.length * size := by
      have := Nat.mul_le_mul_right size (show j + 1 ≤ l.length by omega)
      rw [Nat.add_mul, Nat.one_mul] at this
      omega
    rw [if_pos hlt]
    simp
end

/-! ### a query's parts -/
abbrev EG (α : Type) := (Nat → Prop) → World → α → List Value → Prop
def strG (_ : Nat → Prop) (_ : World) (t : Tx) (cs : List Value) : Prop := cs = [sv t] ∧ t.length ≤ maxLen
def itG (_ : Nat → Prop) (_ : World) (i : It) (cs : List Value) : Prop := cs = [.int .i64 i.kind, sv i.col] ∧ i.col.length ≤ maxLen ∧ i64 i.kind
def vlG (_ : Nat → Prop) (_ : World) (v : Vl) (cs : List Value) : Prop := cs = [.bool v.isText, sv v.text, .int .i64 v.int] ∧ v.text.length ≤ maxLen ∧ i64 v.int
def lsG (K : Nat → Prop) (w : World) (l : List Tx) (cs : List Value) : Prop := ∃ v, cs = [v] ∧ v.oneCell' = true ∧ RowE K w 1 (strG K w) v l
def gpG (K : Nat → Prop) (w : World) (e : Gp) (cs : List Value) : Prop := ∃ a b, cs = [.int .i64 e.kind, a, b] ∧ i64 e.kind ∧ RowE K w 1 (strG K w) a e.cols ∧ RowE K w 1 (lsG K w) b e.sets
theorem strG_elem : Elem strG := ⟨fun _ _ _ _ _ _ h _ => h⟩
theorem itG_elem : Elem itG := ⟨fun _ _ _ _ _ _ h _ => h⟩
theorem vlG_elem : Elem vlG := ⟨fun _ _ _ _ _ _ h _ => h⟩
theorem lsG_elem : Elem lsG := ⟨fun K K' w w' x cs ⟨v, h1, h2, h3⟩ hk => ⟨v, h1, h2, h3.mono hk fun _ _ h => h⟩⟩
theorem gpG_elem : Elem gpG := ⟨fun K K' w w' x cs ⟨a, b, h1, h2, h3, h4⟩ hk => ⟨a, b, h1, h2, h3.mono hk fun _ _ h => h, h4.mono hk fun _ _ h => lsG_elem.mono _ _ _ _ _ _ h hk⟩⟩
def CdAt (K : Nat → Prop) (w : World) : Cd → Value → Prop
  | .none, v => v = .pointer none
  | .node k l r col op vals, v => ∃ g o L R V, v = .pointer (some ⟨g, o, none⟩) ∧ K g ∧ g < w.heap.size ∧ w.cell? ⟨g, o, none⟩ = some (.int .i64 k) ∧ w.cell? ⟨g, o + 1, none⟩ = some L ∧ w.cell? ⟨g, o + 2, none⟩ = some R ∧
      w.cell? ⟨g, o + 3, none⟩ = some (sv col) ∧ w.cell? ⟨g, o + 4, none⟩ = some (.int .i64 op) ∧ w.cell? ⟨g, o + 5, none⟩ = some V ∧ CdAt K w l L ∧ CdAt K w r R ∧ RowE K w 3 (vlG K w) V vals ∧ col.length ≤ maxLen ∧ i64 k ∧ i64 op
theorem CdAt.mono {K K' : Nat → Prop} {w w' : World} (hk : ∀ k, K k → k < w.heap.size → K' k ∧ w'.heap[k]? = w.heap[k]?) : ∀ {c : Cd} {v : Value}, CdAt K w c v → CdAt K' w' c v
  | .none, v, h => h
  | .node k l r col op vals, v, h => by
    obtain ⟨g, o, L, R, V, h1, h2, h3, c0, c1, c2, c3, c4, c5, hl, hr, hv, h4⟩ := h
    obtain ⟨k1, k2⟩ := hk g h2 h3
    have hlt : g < w'.heap.size := by
      rcases Nat.lt_or_ge g w'.heap.size with h3 | h3
      · exact h3
      · rw [Array.getElem?_eq_none h3, Array.getElem?_eq_getElem (by assumption)] at k2; cases k2
    exact ⟨g, o, L, R, V, h1, k1, hlt, by rw [cell_of_heap k2]; exact c0, by rw [cell_of_heap k2]; exact c1, by rw [cell_of_heap k2]; exact c2, by rw [cell_of_heap k2]; exact c3, by rw [cell_of_heap k2]; exact c4, by rw [cell_of_heap k2]; exact c5, hl.mono hk, hr.mono hk, hv.mono hk (fun _ _ h => h), h4⟩
def QyAt (K : Nat → Prop) (w : World) (q : Qy) (v : Value) : Prop :=
  ∃ a C G, v = .agg #[a, sv q.table, C, .bool q.grouped, G] ∧ RowE K w 2 (itG K w) a q.items ∧ q.table.length ≤ maxLen ∧ CdAt K w q.cond C ∧ RowE K w 3 (gpG K w) G q.groups
theorem QyAt.mono {K K' : Nat → Prop} {w w' : World} (hk : ∀ k, K k → k < w.heap.size → K' k ∧ w'.heap[k]? = w.heap[k]?) {q : Qy} {v : Value} (h : QyAt K w q v) : QyAt K' w' q v := by
  obtain ⟨a, C, G, h1, h2, h3, h4, h5⟩ := h
  exact ⟨a, C, G, h1, h2.mono hk fun _ _ h => h, h3, h4.mono hk, h5.mono hk fun _ _ h => gpG_elem.mono _ _ _ _ _ _ h hk⟩

/-! ### a reader -/
/-- A reader's block, the block and room of its words, and the words. -/
structure Cx where
  d : Nat
  g : Nat
  c : Nat
  ws : List Wd
def Cx.val (C : Cx) : Value := .slice (some ⟨C.g, 0, none⟩) C.ws.length C.c
structure Rd (C : Cx) (w : World) (r : List Wd) (m : Bool) : Prop where
  pv : Pv w
  blk : Blk w C.d 57 #[C.val, .int .i64 ((C.ws.length - r.length : Nat) : Int), .bool m]
  suf : ∃ a, C.ws = a ++ r
  cells : ∀ k x, C.ws[k]? = some x → w.cell? ⟨C.g, k * 3, none⟩ = some (.int .i64 (x.kind : Nat)) ∧ w.cell? ⟨C.g, k * 3 + 1, none⟩ = some (sv x.text) ∧ w.cell? ⟨C.g, k * 3 + 2, none⟩ = some (.int .i64 (x.pos : Nat))
  ne : C.g ≠ C.d
  glt : C.g < w.heap.size
  d11 : 11 < C.d
  len : C.ws.length ≤ C.c ∧ C.c ≤ maxLen ∧ C.ws.length ≤ 100000
  txt : ∀ x ∈ C.ws, x.text.length ≤ 8192 ∧ x.kind ≤ 6 ∧ x.pos ≤ 100000
def Only (d : Nat) (k : Nat) : Prop := k = d
theorem Rd.lt {C : Cx} {w : World} {r : List Wd} {m : Bool} (h : Rd C w r m) : C.d < w.heap.size := h.blk.lt
theorem cells_keep {C : Cx} {w w' : World} (e : w'.heap[C.g]? = w.heap[C.g]?) (h : ∀ k x, C.ws[k]? = some x → w.cell? ⟨C.g, k * 3, none⟩ = some (.int .i64 (x.kind : Nat)) ∧ w.cell? ⟨C.g, k * 3 + 1, none⟩ = some (sv x.text) ∧ w.cell? ⟨C.g, k * 3 + 2, none⟩ = some (.int .i64 (x.pos : Nat))) :
    ∀ k x, C.ws[k]? = some x → w'.cell? ⟨C.g, k * 3, none⟩ = some (.int .i64 (x.kind : Nat)) ∧ w'.cell? ⟨C.g, k * 3 + 1, none⟩ = some (sv x.text) ∧ w'.cell? ⟨C.g, k * 3 + 2, none⟩ = some (.int .i64 (x.pos : Nat)) := fun k x hx => by
  rw [cell_of_heap e, cell_of_heap e, cell_of_heap e]
  exact h k x hx
theorem Rd.keep {C : Cx} {w w' : World} {r : List Wd} {m : Bool} (h : Rd C w r m) (hf : Fr No w w') : Rd C w' r m :=
  { h with pv := h.pv.no hf, blk := h.blk.of (hf.block _ h.blk.lt id), glt := Nat.lt_of_lt_of_le h.glt hf.size, cells := cells_keep (hf.block _ h.glt id) h.cells }
/-- The reader's block alone has turned. -/
theorem Rd.turn {C : Cx} {w w' : World} {r r' : List Wd} {m m' : Bool} (h : Rd C w r m) (hf : Fr (Only C.d) w w') (hb : Blk w' C.d 57 #[C.val, .int .i64 ((C.ws.length - r'.length : Nat) : Int), .bool m']) (hs : ∃ a, C.ws = a ++ r') : Rd C w' r' m' :=
  { h with pv := h.pv.keep hf (fun k hk => by rw [show k = C.d from hk]; exact h.d11), blk := hb, suf := hs, glt := Nat.lt_of_lt_of_le h.glt hf.size, cells := cells_keep (hf.block _ h.glt h.ne) h.cells }
theorem fr_set {w w' : World} {y i : Nat} {u : Value} (h : Fr (fun k => k = y) w w') : Fr (fun k => k = y) w (w'.setCell ⟨y, i, none⟩ u) := h.setCell (p := ⟨y, i, none⟩) (fun _ => rfl) u
/-- A block that is new. -/
theorem fr_new {F : Nat → Prop} {w w' : World} {y i : Nat} {u : Value} (h : Fr F w w') (hy : w.heap.size ≤ y) : Fr F w (w'.setCell ⟨y, i, none⟩ u) := h.setCell (p := ⟨y, i, none⟩) (fun hh => absurd hh (by show ¬ y < _; omega)) u
/-- A block that is none of the reader's has turned. -/
theorem Rd.past {C : Cx} {w w' : World} {r : List Wd} {m : Bool} {y : Nat} (h : Rd C w r m) (hf : Fr (fun k => k = y) w w') (hd : C.d < y) (hg : C.g < y) : Rd C w' r m :=
  { h with pv := h.pv.keep hf (fun k hk => by have := h.d11; have hk : k = y := hk; omega), blk := h.blk.of (hf.block _ h.blk.lt (fun e => by have e : C.d = y := e; omega)), glt := Nat.lt_of_lt_of_le h.glt hf.size, cells := cells_keep (hf.block _ h.glt (fun e => by have e : C.g = y := e; omega)) h.cells }
theorem Rd.at {C : Cx} {w : World} {x : Wd} {r : List Wd} {m : Bool} (h : Rd C w (x :: r) m) : C.ws[C.ws.length - (x :: r).length]? = some x ∧ C.ws.length - (x :: r).length < C.ws.length ∧ (∃ a, C.ws = a ++ r) ∧ C.ws.length - r.length = C.ws.length - (x :: r).length + 1 ∧ x.text.length ≤ 8192 ∧ x.kind ≤ 6 ∧ x.pos ≤ 100000 := by
  obtain ⟨a, e⟩ := h.suf
  have hx := h.txt x (by rw [e]; simp)
  have hl : C.ws.length = a.length + (r.length + 1) := by rw [e]; simp
  refine ⟨?_, by simp only [List.length_cons]; omega, ⟨a ++ [x], by rw [e]; simp⟩, by simp only [List.length_cons]; omega, hx⟩
  rw [show C.ws.length - (x :: r).length = a.length by rw [hl]; simp]
  rw [e, List.getElem?_append_right (Nat.le_refl _), Nat.sub_self]; rfl
abbrev rp (C : Cx) : Value := .pointer (some ⟨C.d, 0, none⟩)
/-- What is given up with. -/
def flt (c p : Nat) : Value := .iface 30 (.agg #[.int .i64 (c : Nat), .int .i64 (p : Nat)])
abbrev VR (α : Type) := (Nat → Prop) → World → Value → α → Prop
/-- What a call of the reader comes to. -/
def RdP {α : Type} (C : Cx) (w : World) (R : VR α) (x : PR α) (e : Ending) (w' : World) : Prop :=
  Fr (Only C.d) w w' ∧ match x with
    | .ok a r m => (∃ v, e = .returned v ∧ R (fun k => w.heap.size ≤ k) w' v a) ∧ Rd C w' r m
    | .bad c p => e = .panicked [{ v := flt c p, recovered := false }]
def unitR : VR Unit := fun _ _ v _ => v = .tuple #[]
def strR : VR Tx := fun _ _ v t => v = sv t ∧ t.length ≤ 8192
def wdR : VR Wd := fun _ _ v x => v = .agg #[.int .i64 (x.kind : Nat), sv x.text, .int .i64 (x.pos : Nat)] ∧ x.text.length ≤ 8192 ∧ x.kind ≤ 6 ∧ x.pos ≤ 100000
end Go.Proofs.YtpdfenpmnpoehaaGreatDoor
