/- Facts as an argument, and lists of them: opened. -/
import Derived.Test.YtmaeejojmbibnaaFR
import Derived.Test.YtmaeejojmbibnaaRK
import Derived.Laws.IdiomArrays
import Derived.Deep.Slices
import Derived.Deep.Fields
namespace Go.Proofs.Ytmaeejojmbibnaa
open Go.RowKit Go.ChangeShapes Go.WideShapes Go.ChangeAt
set_option linter.unusedVariables false

theorem ra_c9 : Try.prog.cellsOf 9 = 1 := by set_option maxRecDepth 100000 in kernel_rfl
theorem ra_c2 : Try.prog.cellsOf 2 = 1 := by set_option maxRecDepth 100000 in kernel_rfl
theorem ra_c32 : Try.prog.cellsOf 32 = 1 := by set_option maxRecDepth 100000 in kernel_rfl
theorem ra_c48 : Try.prog.cellsOf 48 = 1 := by set_option maxRecDepth 100000 in kernel_rfl
theorem ra_c49 : Try.prog.cellsOf 49 = 1 := by set_option maxRecDepth 100000 in kernel_rfl
theorem ra_c51 : Try.prog.cellsOf 51 = 2 := by set_option maxRecDepth 100000 in kernel_rfl
/-- v reads as l, and its capacity is at least its length. -/
def RowC {α : Type} (K : Nat → Prop) (w : World) (size : Nat) (E : α → List Value → Prop) (v : Value) (l : List α) : Prop := RowE K w size E v l ∧ ∀ A n c, v = .slice A n c → n ≤ c
theorem RowC.of {α : Type} {K K' : Nat → Prop} {w w' : World} {size : Nat} {E E' : α → List Value → Prop} {v : Value} {l : List α} (h : RowC K w size E v l) (hs : w.heap.size ≤ w'.heap.size) (hk : ∀ k, K k → k < w.heap.size → K' k ∧ w'.heap[k]? = w.heap[k]?) (hE : ∀ x ∈ l, ∀ cs, E x cs → E' x cs) : RowC K' w' size E' v l := ⟨h.1.of hs hk hE, h.2⟩
def factC (K : Nat → Prop) (w : World) (f : FactP) (cs : List Value) : Prop := ∃ dv mv, cs = [dv, mv] ∧ RowC K w 1 strE dv f.dims ∧ RowC K w 1 intE mv f.meas
theorem factC.of {K K' : Nat → Prop} {w w' : World} {f : FactP} {cs : List Value} (h : factC K w f cs) (hs : w.heap.size ≤ w'.heap.size) (hk : ∀ k, K k → k < w.heap.size → K' k ∧ w'.heap[k]? = w.heap[k]?) : factC K' w' f cs := by
  obtain ⟨dv, mv, e, h1, h2⟩ := h
  exact ⟨dv, mv, e, h1.of hs hk fun _ _ _ h => h, h2.of hs hk fun _ _ _ h => h⟩
abbrev FactsC (K : Nat → Prop) (w : World) (v : Value) (l : List FactP) : Prop := RowC K w 2 (factC K w) v l
def batE (K : Nat → Prop) (w : World) (l : List FactP) (cs : List Value) : Prop := ∃ v, cs = [v] ∧ FactsC K w v l
abbrev BatsC (K : Nat → Prop) (w : World) (v : Value) (B : List (List FactP)) : Prop := RowC K w 1 (batE K w) v B
theorem FactsC.of {K K' : Nat → Prop} {w w' : World} {v : Value} {l : List FactP} (h : FactsC K w v l) (hs : w.heap.size ≤ w'.heap.size) (hk : ∀ k, K k → k < w.heap.size → K' k ∧ w'.heap[k]? = w.heap[k]?) : FactsC K' w' v l :=
  RowC.of h hs hk fun _ _ _ h => h.of hs hk
theorem BatsC.of {K K' : Nat → Prop} {w w' : World} {v : Value} {l : List (List FactP)} (h : BatsC K w v l) (hs : w.heap.size ≤ w'.heap.size) (hk : ∀ k, K k → k < w.heap.size → K' k ∧ w'.heap[k]? = w.heap[k]?) : BatsC K' w' v l :=
  RowC.of h hs hk fun _ _ _ h => by obtain ⟨v, e, h⟩ := h; exact ⟨v, e, FactsC.of h hs hk⟩
theorem FactsC.facts {K : Nat → Prop} {w : World} {v : Value} {l : List FactP} (h : FactsC K w v l) : Facts K w v l :=
  h.1.of (Nat.le_refl _) (fun k hk _ => ⟨hk, rfl⟩) fun _ _ _ h => by obtain ⟨dv, mv, e, h1, h2⟩ := h; exact ⟨dv, mv, e, h1.1, h2.1⟩

section
variable {H : Type} {enc : TypeId × Value → H}
/-- Any row, its elements opened by a way of their own. -/
theorem open_rowC {α : Type} [Inhabited α] {W : World} (E : α → List Value → Prop) (t e size : Nat) (ht : Try.prog.underlying t = some (.slice e)) (hsz : Try.prog.cellsOf e = size) (h0 : 0 < size)
    (hE : ∀ fuel cs x, cs.length = size → DataW.trod enc Try.prog W 0 (fun _ => true) true fuel e cs = some x → ∃ y, E y cs)
    {fuel : Nat} {cs : List Value} {x : DataW H × List MemPlace} (h : DataW.trod enc Try.prog W 0 (fun _ => true) true fuel t cs = some x) :
    ∃ v l, cs = [v] ∧ RowC (fun k => k < W.heap.size) W size E v l := by
  rcases Go.Deep.open_slice ht h with ⟨rfl, _⟩ | ⟨a, len, cap, m, n, D, Pl, rfl, hb, hl, hm, hmm, hx, hi⟩
  · exact ⟨_, [], rfl, RowE.nil _ _ _ _ _, fun A n c e => by injection e with _ e1 e2; omega⟩
  · simp only [if_true] at hmm
    rw [hsz] at hi
    have hel : ∀ i, ∃ y : α, i < len → ∃ cs' : List Value, cs'.length = size ∧ (∀ j, j < size → W.cell? ((a.add (i * size)).add j) = cs'[j]?) ∧ E y cs' := by
      intro i
      by_cases hil : i < len
      · obtain ⟨cs', hc, htr⟩ := hi i (by omega)
        obtain ⟨_, hlen, hat⟩ := World.cells?_some hc
        obtain ⟨y, hy⟩ := hE _ _ _ hlen htr
        exact ⟨y, fun _ => ⟨cs', hlen, hat, hy⟩⟩
      · exact ⟨default, fun h => absurd h hil⟩
    obtain ⟨f, hf⟩ := Classical.axiomOfChoice hel
    refine ⟨_, (List.range len).map f, rfl, ⟨some a, cap, by simp, by simp; omega, fun hl0 => ?_⟩, fun A n c e => by injection e with _ e1 e2; omega⟩
    have hlen0 : 0 < len := by simpa using hl0
    obtain ⟨cs0, hl1, hc0, _⟩ := hf 0 hlen0
    have hc00 := hc0 0 h0
    rw [List.getElem?_eq_getElem (by omega)] at hc00
    obtain ⟨b, off, spot⟩ := a
    have hspot : spot = none := by simpa [Addr.add] using World.cell?_spot hc00
    subst hspot
    have hblt : b < W.heap.size := by
      have := World.block_lt_of_cell? W _ hc00
      simpa [Addr.add] using this
    refine ⟨b, off, rfl, hblt, hblt, fun j hj => ?_⟩
    rw [List.length_map, List.length_range] at hj
    obtain ⟨cs', h1, h2, h3⟩ := hf j hj
    refine ⟨cs', h1, fun i hi' => ?_, by rw [List.getElem_map, List.getElem_range]; exact h3⟩
    have := h2 i hi'
    rw [Addr.add_lit, Addr.add_lit] at this
    exact this
variable {W : World}
theorem open_strE (fuel : Nat) (cs : List Value) (x : DataW H × List MemPlace) (hl : cs.length = 1) (h : DataW.trod enc Try.prog W 0 (fun _ => true) true fuel 9 cs = some x) : ∃ y, strE y cs := by
  obtain ⟨s, e4, r4, w4⟩ := DataW.trod_string Try.underlying9 h
  exact ⟨s.data.toList, e4, (Array.length_toList (xs := s.data)).symm ▸ w4⟩
theorem open_intE (fuel : Nat) (cs : List Value) (x : DataW H × List MemPlace) (hl : cs.length = 1) (h : DataW.trod enc Try.prog W 0 (fun _ => true) true fuel 2 cs = some x) : ∃ y, intE y cs := by
  obtain ⟨n0, e0, r0, w0⟩ := DataW.trod_int Try.underlying2 h
  exact ⟨n0, e0, wf_i64_bd w0⟩
instance : Inhabited FactP := ⟨⟨[], []⟩⟩
set_option maxRecDepth 100000 in
theorem open_factC (fuel : Nat) (cs : List Value) (x : DataW H × List MemPlace) (hl : cs.length = 2) (h : DataW.trod enc Try.prog W 0 (fun _ => true) true fuel 51 cs = some x) : ∃ y, factC (fun k => k < W.heap.size) W y cs := by
  obtain ⟨xs, n, _, hx, hlen, hxl, hg⟩ := DataW.trod_struct Try.underlying51 h
  have hx2 : xs.length = 2 := hxl
  match xs, hx2 with
  | [x0, x1], _ =>
    have g0 : DataW.trod enc Try.prog W 0 (fun _ => true) true n 48 ((cs.drop 0).take (Try.prog.cellsOf 48)) = some x0 := hg 0 _ rfl
    have g1 : DataW.trod enc Try.prog W 0 (fun _ => true) true n 49 ((cs.drop 1).take (Try.prog.cellsOf 49)) = some x1 := hg 1 _ rfl
    rw [ra_c48] at g0
    rw [ra_c49] at g1
    obtain ⟨dv, ds, e0, r0⟩ := open_rowC strE 48 9 1 Try.underlying48 ra_c9 (by omega) open_strE g0
    obtain ⟨mv, ms, e1, r1⟩ := open_rowC intE 49 2 1 Try.underlying49 ra_c2 (by omega) open_intE g1
    refine ⟨⟨ds, ms⟩, dv, mv, ?_, r0, r1⟩
    match cs, hl with
    | [a, b], _ =>
      have ea : [a] = [dv] := e0
      have eb : [b] = [mv] := e1
      injection ea with ea
      injection eb with eb
      rw [ea, eb]
theorem open_batE (fuel : Nat) (cs : List Value) (x : DataW H × List MemPlace) (hl : cs.length = 1) (h : DataW.trod enc Try.prog W 0 (fun _ => true) true fuel 32 cs = some x) : ∃ y, batE (fun k => k < W.heap.size) W y cs := by
  obtain ⟨v, l, e, r⟩ := open_rowC (factC (fun k => k < W.heap.size) W) 32 51 2 Try.underlying32 ra_c51 (by omega) open_factC h
  exact ⟨l, v, e, r⟩
set_option maxRecDepth 100000 in
/-- An argument [][]api.Fact. -/
theorem open_bats {v : Value} {d : DataW H} {ps : List MemPlace} (hval : Value.okWide Try.prog W .any 0 36 v) (h : DataW.Trod enc Try.prog W 0 (fun _ => true) true 36 v d ps) :
    ∃ B, BatsC (fun k => k < W.heap.size) W v B := by
  obtain ⟨a0, len, cap, rfl⟩ := okWide_slice Try.underlying36 hval
  obtain ⟨fuel, hf⟩ := h
  obtain ⟨v', l, e1, r⟩ := open_rowC (batE (fun k => k < W.heap.size) W) 36 32 1 Try.underlying36 ra_c32 (by omega) open_batE hf
  have e2 : v' = .slice a0 len cap := by simpa [Value.cells] using e1.symm
  subst e2
  exact ⟨l, r⟩
end
end Go.Proofs.Ytmaeejojmbibnaa
