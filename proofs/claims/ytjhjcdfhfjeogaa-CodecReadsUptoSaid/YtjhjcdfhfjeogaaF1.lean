/- A thing: what a writer lays down of it. -/
import Derived.Test.YtjhjcdfhfjeogaaC9
namespace Go.Proofs.Ytjhjcdfhfjeogaa
open Go.RowKit Go.Maps
set_option linter.unusedVariables false

structure ThingP where
  kind : Int
  n : Int
  s : List UInt8
  l : List (List UInt8)
  cells : List CellP
  facts : List FactP
  meas : List (List UInt8)
/-- Its cells, and what they lead to. -/
structure ThingAt (K : Nat → Prop) (w : World) (t : ThingP) (lv cv fv mv : Value) : Prop where
  kb : i64 t.kind
  nb : i64 t.n
  sb : t.s.length ≤ maxLen
  l : RowE K w 1 strE lv t.l
  c : RowE K w 3 cellE cv t.cells
  f : RowE K w 2 (factE K w) fv t.facts
  m : RowE K w 1 strE mv t.meas
def tcells (t : ThingP) (lv cv fv mv : Value) : List Value := [.int .i64 t.kind, .int .i64 t.n, sv t.s, lv, cv, fv, mv]
def thingE (K : Nat → Prop) (w : World) (t : ThingP) (cs : List Value) : Prop := ∃ lv cv fv mv, cs = tcells t lv cv fv mv ∧ ThingAt K w t lv cv fv mv
theorem RowE.factOf {K : Nat → Prop} {w w' : World} {v : Value} {l : List FactP} (h : RowE K w 2 (factE K w) v l) (hk : ∀ k, K k → w'.heap[k]? = w.heap[k]?) : RowE K w' 2 (factE K w') v l := h.of hk fun _ _ h => h.of hk
theorem ThingAt.of {K : Nat → Prop} {w w' : World} {t : ThingP} {lv cv fv mv : Value} (h : ThingAt K w t lv cv fv mv) (hk : ∀ k, K k → w'.heap[k]? = w.heap[k]?) : ThingAt K w' t lv cv fv mv :=
  ⟨h.kb, h.nb, h.sb, h.l.of hk fun _ _ h => h, h.c.of hk fun _ _ h => h, h.f.factOf hk, h.m.of hk fun _ _ h => h⟩
theorem thingE.of {K : Nat → Prop} {w w' : World} {t : ThingP} {cs : List Value} (h : thingE K w t cs) (hk : ∀ k, K k → w'.heap[k]? = w.heap[k]?) : thingE K w' t cs := by
  obtain ⟨lv, cv, fv, mv, e, h⟩ := h
  exact ⟨lv, cv, fv, mv, e, h.of hk⟩

/-! ### One, Any -/
def one (l : List CellP) : CellP := l.headD CellP.zero
def any (l : List FactP) : FactP := l.headD FactP.zero
set_option maxHeartbeats 1000000 in
theorem one_any (K : Nat → Prop) (cv : Value) (l : List CellP) (w : World) (h : RowE K w 3 cellE cv l) : Calls Try.prog 47 #[cv] w fun e w' => e = .returned (one l).val ∧ Below w.heap.size w w' := by
  obtain ⟨A, c, rfl, hm, hel⟩ := h
  cases l with
  | nil =>
    clear hel hm
    go_enter Try.func47, Try.ntmps47
    go_wp2
    exact bodyPost_ret (v := .agg #[.int .i64 0, .int .i64 0, sv []]) (by simp [results, Try.results47, go_sem]) rfl ⟨rfl, Fr.below ((Fr.refl No w).alloc _)⟩
  | cons x l =>
    obtain ⟨g, off, rfl, hg, hcell⟩ := hel (by simp)
    obtain ⟨cs, hl, hc, rfl, _⟩ := hcell 0 (by simp)
    have c0 : w.cell? ⟨g, off, none⟩ = some (.int .i64 x.kind) := by have := hc 0 (by omega); simpa using this
    have c1 : w.cell? ⟨g, off + 1, none⟩ = some (.int .i64 x.int) := by have := hc 1 (by omega); simpa using this
    have c2 : w.cell? ⟨g, off + 2, none⟩ = some (sv x.text) := by have := hc 2 (by omega); simpa using this
    have hlen : (0 : Int) < ((x :: l).length : Nat) := by simp only [List.length_cons]; omega
    have hne : ((((x :: l).length : Nat) : Int) == 0) = false := by rw [beq_eq_false_iff_ne]; omega
    have hgw : g < w.heap.size := World.block_lt_of_cell? _ _ c0
    unfold maxLen at hm
    have hx : (one (x :: l)).val = .agg #[.int .i64 x.kind, .int .i64 x.int, sv x.text] := rfl
    rw [hx]
    clear hel hcell hc hl hx hg
    generalize (x :: l).length = n at *
    go_enter Try.func47, Try.ntmps47
    go_wp2
    exact bodyPost_ret (v := .agg #[.int .i64 x.kind, .int .i64 x.int, sv x.text]) (by simp [results, Try.results47, go_sem]) rfl ⟨rfl, Fr.below ((Fr.refl No w).alloc _)⟩
theorem one_ok {K : Nat → Prop} {cv : Value} {l : List CellP} {w : World} (h : RowE K w 3 cellE cv l) : (one l).Ok := by
  obtain ⟨A, c, rfl, hm, hel⟩ := h
  cases l with
  | nil => exact ⟨i64_small 0 (by omega), i64_small 0 (by omega), by simp [one, CellP.zero]⟩
  | cons x l =>
    obtain ⟨g, off, rfl, hg, hcell⟩ := hel (by simp)
    obtain ⟨cs, hl, hc, _, ho⟩ := hcell 0 (by simp)
    exact ho
set_option maxHeartbeats 1000000 in
theorem any_any (K : Nat → Prop) (fv : Value) (l : List FactP) (w : World) (h : RowE K w 2 (factE K w) fv l) : Calls Try.prog 50 #[fv] w fun e w' => ∃ dv mv, e = .returned (.agg #[dv, mv]) ∧ RowE K w 1 strE dv (any l).dims ∧ RowE K w 1 intE mv (any l).meas ∧ Below w.heap.size w w' := by
  obtain ⟨A, c, rfl, hm, hel⟩ := h
  cases l with
  | nil =>
    clear hel hm
    go_enter Try.func50, Try.ntmps50
    go_wp2
    exact bodyPost_ret (v := .agg #[.slice none 0 0, .slice none 0 0]) (by simp [results, Try.results50, go_sem]) rfl ⟨_, _, rfl, RowE.nil _ _ _ _ _, RowE.nil _ _ _ _ _, Fr.below ((Fr.refl No w).alloc _)⟩
  | cons x l =>
    obtain ⟨g, off, rfl, hg, hcell⟩ := hel (by simp)
    obtain ⟨cs, hl, hc, dv, mv, rfl, rd, rm⟩ := hcell 0 (by simp)
    have c0 : w.cell? ⟨g, off, none⟩ = some dv := by have := hc 0 (by omega); simpa using this
    have c1 : w.cell? ⟨g, off + 1, none⟩ = some mv := by have := hc 1 (by omega); simpa using this
    have hlen : (0 : Int) < ((x :: l).length : Nat) := by simp only [List.length_cons]; omega
    have hne : ((((x :: l).length : Nat) : Int) == 0) = false := by rw [beq_eq_false_iff_ne]; omega
    have hgw : g < w.heap.size := World.block_lt_of_cell? _ _ c0
    unfold maxLen at hm
    have RD : Hid (RowE K w 1 strE dv (any (x :: l)).dims) := Lib.hid rd
    have RM : Hid (RowE K w 1 intE mv (any (x :: l)).meas) := Lib.hid rm
    obtain ⟨A1, n1, k1, rfl⟩ := rd.slice
    obtain ⟨A2, n2, k2, rfl⟩ := rm.slice
    generalize (any (x :: l)).dims = D at *
    generalize (any (x :: l)).meas = M at *
    clear hel hcell hc hl hg rd rm
    generalize (x :: l).length = n at *
    go_enter Try.func50, Try.ntmps50
    go_wp2
    exact bodyPost_ret (v := .agg #[.slice A1 n1 k1, .slice A2 n2 k2]) (by simp [results, Try.results50, go_sem]) rfl ⟨_, _, rfl, RD.out, RM.out, Fr.below ((Fr.refl No w).alloc _)⟩
end Go.Proofs.Ytjhjcdfhfjeogaa
