/- A query as an argument, opened. -/
import Derived.Test.YtkcnbmgaeompjaaGreatDoorRK
import Derived.SliceStrings
import Derived.Deep.Slices
namespace Go.Proofs.YtkcnbmgaeompjaaGreatDoor
open Go.RowKit Go.ChangeShapes Go.WideShapes Go.ChangeAt
set_option linter.unusedVariables false

instance : Inhabited It := ⟨⟨0, []⟩⟩
instance : Inhabited Vl := ⟨⟨false, [], 0⟩⟩
instance : Inhabited Gp := ⟨⟨0, [], []⟩⟩
theorem one_eq {a v : Value} (h : [a] = [v]) : a = v := by injection h
theorem len2 {cs : List Value} (h : cs.length = 2) : ∃ a b, cs = [a, b] := by
  match cs, h with
  | [a, b], _ => exact ⟨a, b, rfl⟩
theorem len3 {cs : List Value} (h : cs.length = 3) : ∃ a b c, cs = [a, b, c] := by
  match cs, h with
  | [a, b, c], _ => exact ⟨a, b, c, rfl⟩
theorem len6 {cs : List Value} (h : cs.length = 6) : ∃ a b c d e f, cs = [a, b, c, d, e, f] := by
  match cs, h with
  | [a, b, c, d, e, f], _ => exact ⟨a, b, c, d, e, f, rfl⟩
theorem wf_i64 {n : Int} (h : (Lit.int .i64 n).wf = true) : i64 n := by
  simp only [Lit.wf, Bool.and_eq_true, decide_eq_true_eq] at h
  simp [IntKind.min, IntKind.max, IntKind.signed, IntKind.bits] at h
  unfold i64
  omega
set_option maxRecDepth 100000 in
theorem Tryz.c2 : Tryz.prog.cellsOf 2 = 1 := by kernel_rfl
theorem Tryz.c3 : Tryz.prog.cellsOf 3 = 1 := by kernel_rfl
theorem Tryz.c4 : Tryz.prog.cellsOf 4 = 1 := by kernel_rfl
theorem Tryz.c9 : Tryz.prog.cellsOf 9 = 1 := by kernel_rfl
theorem Tryz.c23 : Tryz.prog.cellsOf 23 = 1 := by kernel_rfl
theorem Tryz.c24 : Tryz.prog.cellsOf 24 = 1 := by kernel_rfl
theorem Tryz.c25 : Tryz.prog.cellsOf 25 = 1 := by kernel_rfl
theorem Tryz.c27 : Tryz.prog.cellsOf 27 = 5 := by kernel_rfl
theorem Tryz.c45 : Tryz.prog.cellsOf 45 = 2 := by kernel_rfl
theorem Tryz.c47 : Tryz.prog.cellsOf 47 = 3 := by kernel_rfl
theorem Tryz.c48 : Tryz.prog.cellsOf 48 = 1 := by kernel_rfl
theorem Tryz.c50 : Tryz.prog.cellsOf 50 = 6 := by kernel_rfl
theorem Tryz.c52 : Tryz.prog.cellsOf 52 = 1 := by kernel_rfl
theorem Tryz.c64 : Tryz.prog.cellsOf 64 = 1 := by kernel_rfl
theorem Tryz.c66 : Tryz.prog.cellsOf 66 = 3 := by kernel_rfl
section
variable {H : Type} {enc : TypeId × Value → H}
/-- Any row, its elements opened by a way of their own, and what it weighs. -/
theorem open_rowN {α : Type} [Inhabited α] {W : World} (E : α → List Value → Prop) (t e size : Nat) (ht : Tryz.prog.underlying t = some (.slice e)) (hsz : Tryz.prog.cellsOf e = size) (h0 : 0 < size)
    (hE : ∀ fuel cs x, cs.length = size → DataW.trod enc Tryz.prog W 0 (fun _ => true) true fuel e cs = some x → ∃ y, E y cs)
    {fuel : Nat} {cs : List Value} {x : DataW H × List MemPlace} (h : DataW.trod enc Tryz.prog W 0 (fun _ => true) true fuel t cs = some x) :
    ∃ v l, cs = [v] ∧ RowE (fun k => k < W.heap.size) W size E v l := by
  rcases Go.Deep.open_slice ht h with ⟨rfl, rfl⟩ | ⟨a, len, cap, m, n, D, Pl, rfl, hbs, hl, hm, hmm, rfl, hi⟩
  · exact ⟨_, [], rfl, RowE.nil _ _ _ _⟩
  · simp only [if_true] at hmm
    rw [hsz] at hi
    have hel : ∀ i, ∃ y : α, i < len → ∃ cs' : List Value, cs'.length = size ∧ (∀ j, j < size → W.cell? ((a.add (i * size)).add j) = cs'[j]?) ∧ E y cs' := by
      intro i
      by_cases hil : i < len
      · obtain ⟨cs', hc, htr⟩ := hi i (by omega)
        obtain ⟨_, hlen, hat⟩ := World.cells?_some hc
        obtain ⟨y, hy⟩ := hE _ _ _ hlen htr
        exact ⟨y, fun _ => ⟨cs', hlen, hat, hy⟩⟩
      · exact ⟨default, fun h => absurd h hil⟩
    obtain ⟨f, hf⟩ := Classical.axiomOfChoice hel
    refine ⟨_, (List.range len).map f, rfl, ⟨some a, cap, by simp, by simp; omega, by omega, fun hl0 => ?_⟩⟩
    have hlen0 : 0 < len := by simpa using hl0
    obtain ⟨cs0, hl1, hc0, _⟩ := hf 0 hlen0
    have hc00 := hc0 0 h0
    rw [List.getElem?_eq_getElem (by omega)] at hc00
    obtain ⟨b, off, spot⟩ := a
    have hspot : spot = none := by simpa [Addr.add] using World.cell?_spot hc00
    subst hspot
    have hlt : b < W.heap.size := by
      have := World.block_lt_of_cell? W _ hc00
      simpa [Addr.add] using this
    refine ⟨b, off, rfl, hlt, hlt, fun j hj => ?_⟩
    · rw [List.length_map, List.length_range] at hj
      obtain ⟨cs', h1, h2, h3⟩ := hf j hj
      refine ⟨cs', h1, fun i hi' => ?_, by rw [List.getElem_map, List.getElem_range]; exact h3⟩
      have := h2 i hi'
      rw [Addr.add_lit, Addr.add_lit] at this
      exact this


variable {W : World}
abbrev Lt (W : World) : Nat → Prop := fun k => k < W.heap.size
abbrev TrD (H : Type) (enc : TypeId × Value → H) (W : World) (fuel : Nat) (t : TypeId) (cs : List Value) (x : DataW H × List MemPlace) : Prop := DataW.trod enc Tryz.prog W 0 (fun _ => true) true fuel t cs = some x
theorem openN_str (fuel : Nat) (cs : List Value) (x : DataW H × List MemPlace) (hl : cs.length = 1) (h : TrD H enc W fuel 9 cs x) : ∃ y, strG (Lt W) W y cs := by
  obtain ⟨s, e4, _, w4⟩ := DataW.trod_string Tryz.underlying9 h
  exact ⟨s.data.toList, e4, (Array.length_toList (xs := s.data)).symm ▸ w4⟩
theorem openN_strs {fuel : Nat} {cs : List Value} {x : DataW H × List MemPlace} (h : TrD H enc W fuel 52 cs x) : ∃ v l, cs = [v] ∧ RowE (Lt W) W 1 (strG (Lt W) W) v l := open_rowN (strG (Lt W) W) 52 9 1 Tryz.underlying52 Tryz.c9 (by omega) openN_str h
theorem openN_ls (fuel : Nat) (cs : List Value) (x : DataW H × List MemPlace) (hl : cs.length = 1) (h : TrD H enc W fuel 52 cs x) : ∃ y, lsG (Lt W) W y cs := by
  obtain ⟨v, l, e, r⟩ := openN_strs h
  refine ⟨l, v, e, ?_, r⟩
  obtain ⟨A, c, rfl, _⟩ := r
  rfl
set_option maxRecDepth 100000 in
theorem openN_item (fuel : Nat) (cs : List Value) (x : DataW H × List MemPlace) (hl : cs.length = 2) (h : TrD H enc W fuel 45 cs x) : ∃ y, itG (Lt W) W y cs := by
  obtain ⟨xs, n, _, rfl, hlen, hxl, hg⟩ := DataW.trod_struct Tryz.underlying45 h
  obtain ⟨a, b, rfl⟩ := len2 hl
  have hx3 : xs.length = 2 := hxl
  match xs, hx3 with
  | [x0, x1], _ =>
    have g0 : TrD H enc W n 3 (([a, b].drop 0).take (Tryz.prog.cellsOf 3)) x0 := hg 0 _ rfl
    have g1 : TrD H enc W n 9 (([a, b].drop 1).take (Tryz.prog.cellsOf 9)) x1 := hg 1 _ rfl
    unfold TrD at g0 g1
    rw [Tryz.c3] at g0
    rw [Tryz.c9] at g1
    obtain ⟨n0, e0, r0, w0⟩ := DataW.trod_int Tryz.underlying3 g0
    obtain ⟨s, e1, _, w1⟩ := DataW.trod_string Tryz.underlying9 g1
    obtain rfl := one_eq e0
    obtain rfl := one_eq e1
    exact ⟨⟨n0, s.data.toList⟩, rfl, (Array.length_toList (xs := s.data)).symm ▸ w1, wf_i64 w0⟩
set_option maxRecDepth 100000 in
theorem openN_value (fuel : Nat) (cs : List Value) (x : DataW H × List MemPlace) (hl : cs.length = 3) (h : TrD H enc W fuel 47 cs x) : ∃ y, vlG (Lt W) W y cs := by
  obtain ⟨xs, n, _, rfl, hlen, hxl, hg⟩ := DataW.trod_struct Tryz.underlying47 h
  obtain ⟨a, b, c, rfl⟩ := len3 hl
  have hx3 : xs.length = 3 := hxl
  match xs, hx3 with
  | [x0, x1, x2], _ =>
    have g0 : TrD H enc W n 4 (([a, b, c].drop 0).take (Tryz.prog.cellsOf 4)) x0 := hg 0 _ rfl
    have g1 : TrD H enc W n 9 (([a, b, c].drop 1).take (Tryz.prog.cellsOf 9)) x1 := hg 1 _ rfl
    have g2 : TrD H enc W n 2 (([a, b, c].drop 2).take (Tryz.prog.cellsOf 2)) x2 := hg 2 _ rfl
    unfold TrD at g0 g1 g2
    rw [Tryz.c4] at g0
    rw [Tryz.c9] at g1
    rw [Tryz.c2] at g2
    obtain ⟨b0, e0, _⟩ := DataW.trod_bool Tryz.underlying4 g0
    obtain ⟨s, e1, _, w1⟩ := DataW.trod_string Tryz.underlying9 g1
    obtain ⟨n0, e2, r0, w0⟩ := DataW.trod_int Tryz.underlying2 g2
    obtain rfl := one_eq e0
    obtain rfl := one_eq e1
    obtain rfl := one_eq e2
    exact ⟨⟨b0, s.data.toList, n0⟩, rfl, (Array.length_toList (xs := s.data)).symm ▸ w1, wf_i64 w0⟩
set_option maxRecDepth 100000 in
theorem openN_group (fuel : Nat) (cs : List Value) (x : DataW H × List MemPlace) (hl : cs.length = 3) (h : TrD H enc W fuel 66 cs x) : ∃ y, gpG (Lt W) W y cs := by
  obtain ⟨xs, n, _, rfl, hlen, hxl, hg⟩ := DataW.trod_struct Tryz.underlying66 h
  obtain ⟨a, b, c, rfl⟩ := len3 hl
  have hx3 : xs.length = 3 := hxl
  match xs, hx3 with
  | [x0, x1, x2], _ =>
    have g0 : TrD H enc W n 3 (([a, b, c].drop 0).take (Tryz.prog.cellsOf 3)) x0 := hg 0 _ rfl
    have g1 : TrD H enc W n 52 (([a, b, c].drop 1).take (Tryz.prog.cellsOf 52)) x1 := hg 1 _ rfl
    have g2 : TrD H enc W n 64 (([a, b, c].drop 2).take (Tryz.prog.cellsOf 64)) x2 := hg 2 _ rfl
    unfold TrD at g0
    rw [Tryz.c3] at g0
    rw [Tryz.c52] at g1
    rw [Tryz.c64] at g2
    obtain ⟨n0, e0, r0, w0⟩ := DataW.trod_int Tryz.underlying3 g0
    obtain ⟨v1, l1, e1, q1⟩ := openN_strs g1
    obtain ⟨v2, l2, e2, q2⟩ := open_rowN (lsG (Lt W) W) 64 52 1 Tryz.underlying64 Tryz.c52 (by omega) openN_ls g2
    obtain rfl := one_eq e0
    obtain rfl := one_eq e1
    obtain rfl := one_eq e2
    exact ⟨⟨n0, l1, l2⟩, _, _, rfl, wf_i64 w0, q1, q2⟩
set_option maxRecDepth 100000 in
theorem openN_cd : ∀ (fuel : Nat) (cs : List Value) (x : DataW H × List MemPlace), TrD H enc W fuel 24 cs x → ∃ v c, cs = [v] ∧ CdAt (Lt W) W c v := by
  intro fuel
  induction fuel using Nat.strongRecOn with
  | ind fuel ih =>
    intro cs x h
    rcases DataW.trod_pointer Tryz.underlying24 h with ⟨rfl, _⟩ | ⟨a, cs', y, m, hfu, rfl, _, hcells, hy⟩
    · exact ⟨_, .none, rfl, rfl⟩
    · obtain ⟨_, hlen, hat⟩ := World.cells?_some hcells
      rw [Tryz.c50] at hlen
      obtain ⟨c0, c1, c2, c3, c4, c5, rfl⟩ := len6 hlen
      obtain ⟨xs, n, hfn, hd, hlen2, hxl, hg⟩ := DataW.trod_struct Tryz.underlying50 hy
      have hx6 : xs.length = 6 := hxl
      match xs, hx6 with
      | [x0, x1, x2, x3, x4, x5], _ =>
        have g0 : TrD H enc W n 3 (([c0, c1, c2, c3, c4, c5].drop 0).take (Tryz.prog.cellsOf 3)) x0 := hg 0 _ rfl
        have g1 : TrD H enc W n 24 (([c0, c1, c2, c3, c4, c5].drop 1).take (Tryz.prog.cellsOf 24)) x1 := hg 1 _ rfl
        have g2 : TrD H enc W n 24 (([c0, c1, c2, c3, c4, c5].drop 2).take (Tryz.prog.cellsOf 24)) x2 := hg 2 _ rfl
        have g3 : TrD H enc W n 9 (([c0, c1, c2, c3, c4, c5].drop 3).take (Tryz.prog.cellsOf 9)) x3 := hg 3 _ rfl
        have g4 : TrD H enc W n 3 (([c0, c1, c2, c3, c4, c5].drop 4).take (Tryz.prog.cellsOf 3)) x4 := hg 4 _ rfl
        have g5 : TrD H enc W n 48 (([c0, c1, c2, c3, c4, c5].drop 5).take (Tryz.prog.cellsOf 48)) x5 := hg 5 _ rfl
        unfold TrD at g0 g3 g4
        rw [Tryz.c3] at g0 g4
        rw [Tryz.c24] at g1 g2
        rw [Tryz.c9] at g3
        rw [Tryz.c48] at g5
        obtain ⟨k, e0, _, w0⟩ := DataW.trod_int Tryz.underlying3 g0
        obtain ⟨L, l, e1, q1⟩ := ih n (by omega) _ _ g1
        obtain ⟨R, r, e2, q2⟩ := ih n (by omega) _ _ g2
        obtain ⟨s, e3, _, w3⟩ := DataW.trod_string Tryz.underlying9 g3
        obtain ⟨op, e4, _, w4⟩ := DataW.trod_int Tryz.underlying3 g4
        obtain ⟨V, vs, e5, q5⟩ := open_rowN (vlG (Lt W) W) 48 47 3 Tryz.underlying48 Tryz.c47 (by omega) openN_value g5
        obtain rfl := one_eq e0
        obtain rfl := one_eq e1
        obtain rfl := one_eq e2
        obtain rfl := one_eq e3
        obtain rfl := one_eq e4
        obtain rfl := one_eq e5
        have h0 := hat 0 (by rw [Tryz.c50]; decide)
        have h1 := hat 1 (by rw [Tryz.c50]; decide)
        have h2 := hat 2 (by rw [Tryz.c50]; decide)
        have h3 := hat 3 (by rw [Tryz.c50]; decide)
        have h4 := hat 4 (by rw [Tryz.c50]; decide)
        have h5 := hat 5 (by rw [Tryz.c50]; decide)
        obtain ⟨b, off, spot⟩ := a
        have hspot : spot = none := by simpa [Addr.add] using World.cell?_spot h0
        subst hspot
        rw [Addr.add_lit] at h0 h1 h2 h3 h4 h5
        have hlt : b < W.heap.size := World.block_lt_of_cell? W _ h0
        exact ⟨_, .node k l r s.data.toList op vs, rfl, b, off, _, _, _, rfl, hlt, hlt, h0, h1, h2, h3, h4, h5, q1, q2, q5, (Array.length_toList (xs := s.data)).symm ▸ w3, wf_i64 w0, wf_i64 w4⟩
set_option maxRecDepth 100000 in
/-- An argument api.Query. -/
theorem openN_query {v : Value} {d : DataW H} {ps : List MemPlace} {b0 : Nat} (hval : Value.okWide Tryz.prog W .any b0 27 v) (h : DataW.Trod enc Tryz.prog W 0 (fun _ => true) true 27 v d ps) : ∃ q, QyAt (Lt W) W q v := by
  obtain ⟨cs, rfl, hsz⟩ := okWide_struct Tryz.underlying27 hval
  obtain ⟨fuel, hf⟩ := h
  rw [Tryz.c27] at hsz
  obtain ⟨csl⟩ := cs
  have hl5 : csl.length = 5 := hsz
  obtain ⟨a, b, c, e, f, rfl⟩ : ∃ a b c e f, csl = [a, b, c, e, f] := by
    match csl, hl5 with
    | [a, b, c, e, f], _ => exact ⟨a, b, c, e, f, rfl⟩
  have hf' : TrD H enc W fuel 27 [a, b, c, e, f] (d, ps) := by simpa [Value.cells] using hf
  obtain ⟨xs, n, hx, hd, hlen, hxl, hg⟩ := DataW.trod_struct Tryz.underlying27 hf'
  have hx5 : xs.length = 5 := hxl
  match xs, hx5 with
  | [x0, x1, x2, x3, x4], _ =>
    have g0 : TrD H enc W n 23 (([a, b, c, e, f].drop 0).take (Tryz.prog.cellsOf 23)) x0 := hg 0 _ rfl
    have g1 : TrD H enc W n 9 (([a, b, c, e, f].drop 1).take (Tryz.prog.cellsOf 9)) x1 := hg 1 _ rfl
    have g2 : TrD H enc W n 24 (([a, b, c, e, f].drop 2).take (Tryz.prog.cellsOf 24)) x2 := hg 2 _ rfl
    have g3 : TrD H enc W n 4 (([a, b, c, e, f].drop 3).take (Tryz.prog.cellsOf 4)) x3 := hg 3 _ rfl
    have g4 : TrD H enc W n 25 (([a, b, c, e, f].drop 4).take (Tryz.prog.cellsOf 25)) x4 := hg 4 _ rfl
    unfold TrD at g1 g3
    rw [Tryz.c23] at g0
    rw [Tryz.c9] at g1
    rw [Tryz.c24] at g2
    rw [Tryz.c4] at g3
    rw [Tryz.c25] at g4
    obtain ⟨v0, is, e0, q0⟩ := open_rowN (itG (Lt W) W) 23 45 2 Tryz.underlying23 Tryz.c45 (by omega) openN_item g0
    obtain ⟨s, e1, _, w1⟩ := DataW.trod_string Tryz.underlying9 g1
    obtain ⟨v2, cd, e2, q2⟩ := openN_cd _ _ _ g2
    obtain ⟨g, e3, _⟩ := DataW.trod_bool Tryz.underlying4 g3
    obtain ⟨v4, gs, e4, q4⟩ := open_rowN (gpG (Lt W) W) 25 66 3 Tryz.underlying25 Tryz.c66 (by omega) openN_group g4
    obtain rfl := one_eq e0
    obtain rfl := one_eq e1
    obtain rfl := one_eq e2
    obtain rfl := one_eq e3
    obtain rfl := one_eq e4
    exact ⟨⟨is, s.data.toList, cd, g, gs⟩, _, _, _, rfl, q0, (Array.length_toList (xs := s.data)).symm ▸ w1, q2, q4⟩
end
end Go.Proofs.YtkcnbmgaeompjaaGreatDoor
