/- The row kit: arguments opened. -/
import Derived.Test.YtgjpdagbbljmpaaB8
import Derived.ProofKit
import Derived.SizedLaws
namespace Go.Proofs.Ytgjpdagbbljmpaa
open Go.RowKit Go.ChangeShapes Go.WideShapes Go.ChangeAt
set_option linter.unusedVariables false

theorem Try.own : ownKnob Try.prog.godebug = none := by kernel_rfl
theorem Try.laidOut : laidOutB Try.prog = true := by kernel_rfl
theorem okWide_struct {P : Program} {W : World} {t : TypeId} {fs : Array Field} {v : Value} {b0 : Nat} (ht : P.underlying t = some (.struct fs)) (h : Value.okWide P W .any b0 t v) : ∃ cs, v = .agg cs ∧ cs.size = P.cellsOf t := by
  simp only [Value.okWide, ht] at h
  obtain ⟨cs, h1, h2, _⟩ := h
  exact ⟨cs, h1, h2⟩
section
variable {H : Type} {enc : TypeId × Value → H}
theorem wf_i64_bd {n : Int} (h : (Lit.int .i64 n).wf = true) : -9223372036854775808 ≤ n ∧ n ≤ 9223372036854775807 := by
  simp only [Lit.wf, Bool.and_eq_true, decide_eq_true_eq] at h
  simp [IntKind.min, IntKind.max, IntKind.signed, IntKind.bits] at h
  omega
theorem wf_u64_bd {n : Int} (h : (Lit.int .u64 n).wf = true) : 0 ≤ n ∧ n < 18446744073709551616 := by
  simp only [Lit.wf, Bool.and_eq_true, decide_eq_true_eq] at h
  simp [IntKind.min, IntKind.max, IntKind.signed, IntKind.bits] at h
  omega
/-- What a law owes behind its walk. -/
theorem post_true {f : Func} {s : ChangeSpec} {W W' : World} {args : Array Value} {ds : List (DataW H)} {before : List MemPlace} (hsv : s.vars = [])
    (hW : DataW.Whole enc Try.prog f.params.toList s.vars false W args.toList ds [] before) (hb : Below W.heap.size W W') (hr : f.resultTypes = #[4])
    (h1 : (s.fn H (ds ++ [])).results = [.lit (.bool true)]) (h2 : (s.fn H (ds ++ [])).args = ds) (h3 : (s.fn H (ds ++ [])).vars = [])
    (ha : DataW.TrodAll enc Try.prog W' 0 (fun b => decide (b < W.heap.size)) true f.params.toList args.toList ds before) : s.post enc Try.prog f false true false false W args (.bool true) W' := by
  refine ⟨ds, [], before, [], before, [], hW, ?_, ?_, ?_, hb.frame _, fun h => by cases h⟩
  · rw [h1, hr]
    exact trodAll_mk1 (shut_bool Try.underlying4 true)
  · rw [h2]; exact ha
  · rw [hsv, h3]; rfl
theorem one_eq {a v : Value} (h : [a] = [v]) : a = v := by injection h
theorem sized_arg {ts : List TypeId} {ds : List (DataW H)} (h : (DataW.weightsEach Try.prog ts ds).all (· ≤ reachBytes) = true) {j : Nat} {t : TypeId} {d : DataW H} (ht : ts[j]? = some t) (hd : ds[j]? = some d) : ∀ n ∈ d.weights Try.prog t, n ≤ reachBytes := fun n hn => by
  have := List.all_eq_true.1 h _ (DataW.weights_mem_each ht hd n hn)
  simpa using this
theorem Try.c2 : Try.prog.cellsOf 2 = 1 := by kernel_rfl
theorem Try.c3 : Try.prog.cellsOf 3 = 1 := by kernel_rfl
theorem Try.c4 : Try.prog.cellsOf 4 = 1 := by kernel_rfl
theorem Try.c22 : Try.prog.cellsOf 22 = 1 := by kernel_rfl
theorem Try.c24 : Try.prog.cellsOf 24 = 2 := by kernel_rfl
theorem Try.c37 : Try.prog.cellsOf 37 = 1 := by kernel_rfl
theorem Try.c39 : Try.prog.cellsOf 39 = 2 := by kernel_rfl
theorem Try.c46 : Try.prog.cellsOf 46 = 5 := by kernel_rfl
variable {W : World}
theorem len2 {cs : List Value} (h : cs.length = 2) : ∃ a b, cs = [a, b] := by
  match cs, h with
  | [a, b], _ => exact ⟨a, b, rfl⟩
theorem len5 {cs : List Value} (h : cs.length = 5) : ∃ a b c d e, cs = [a, b, c, d, e] := by
  match cs, h with
  | [a, b, c, d, e], _ => exact ⟨a, b, c, d, e, rfl⟩
set_option maxRecDepth 100000 in
theorem open_sm (fuel : Nat) (cs : List Value) (x : DataW H × List MemPlace) (hl : cs.length = 2) (h : DataW.trod enc Try.prog W 0 (fun _ => true) true fuel 24 cs = some x) : ∃ s : Sm, cs = [.int .i64 s.hi, .int .u64 s.lo] ∧ s.ok := by
  obtain ⟨xs, n, _, rfl, hlen, hxl, hg⟩ := DataW.trod_struct Try.underlying24 h
  obtain ⟨a, b, rfl⟩ := len2 hl
  have hx2 : xs.length = 2 := hxl
  match xs, hx2 with
  | [x0, x1], _ =>
    have g0 : DataW.trod enc Try.prog W 0 (fun _ => true) true n 2 (([a, b].drop 0).take (Try.prog.cellsOf 2)) = some x0 := hg 0 _ rfl
    have g1 : DataW.trod enc Try.prog W 0 (fun _ => true) true n 22 (([a, b].drop 1).take (Try.prog.cellsOf 22)) = some x1 := hg 1 _ rfl
    rw [Try.c2] at g0
    rw [Try.c22] at g1
    obtain ⟨n0, e0, r0, w0⟩ := DataW.trod_int Try.underlying2 g0
    obtain ⟨n1, e1, r1, w1⟩ := DataW.trod_int Try.underlying22 g1
    obtain rfl := one_eq e0
    obtain rfl := one_eq e1
    have b0 := wf_i64_bd w0
    have b1 := wf_u64_bd w1
    exact ⟨⟨n0, n1⟩, rfl, by unfold Sm.ok; simp only; omega⟩
/-- An argument of sum's type. -/
theorem arg_sm {b0 : Nat} {v : Value} {d : DataW H} {ps : List MemPlace} (hval : Value.okWide Try.prog W .any b0 24 v) (h : DataW.Trod enc Try.prog W 0 (fun _ => true) true 24 v d ps) : ∃ s : Sm, v = smV s ∧ s.ok := by
  obtain ⟨cs, rfl, hsz⟩ := okWide_struct Try.underlying24 hval
  rw [Try.c24] at hsz
  obtain ⟨fuel, hf⟩ := h
  obtain ⟨s, e, hs⟩ := open_sm fuel cs.toList _ (by simpa using hsz) hf
  exact ⟨s, congrArg Value.agg (Array.ext' e), hs⟩
set_option maxRecDepth 100000 in
theorem open_pt (fuel : Nat) (cs : List Value) (x : DataW H × List MemPlace) (hl : cs.length = 5) (h : DataW.trod enc Try.prog W 0 (fun _ => true) true fuel 46 cs = some x) : ∃ p : Pt, cs = ptL p ∧ p.ok := by
  obtain ⟨xs, n, _, rfl, hlen, hxl, hg⟩ := DataW.trod_struct Try.underlying46 h
  obtain ⟨a, b, c, d, e, rfl⟩ := len5 hl
  have hx4 : xs.length = 4 := hxl
  match xs, hx4 with
  | [x0, x1, x2, x3], _ =>
    have g0 : DataW.trod enc Try.prog W 0 (fun _ => true) true n 4 (([a, b, c, d, e].drop 0).take (Try.prog.cellsOf 4)) = some x0 := hg 0 _ rfl
    have g1 : DataW.trod enc Try.prog W 0 (fun _ => true) true n 24 (([a, b, c, d, e].drop 1).take (Try.prog.cellsOf 24)) = some x1 := hg 1 _ rfl
    have g2 : DataW.trod enc Try.prog W 0 (fun _ => true) true n 2 (([a, b, c, d, e].drop 3).take (Try.prog.cellsOf 2)) = some x2 := hg 2 _ rfl
    have g3 : DataW.trod enc Try.prog W 0 (fun _ => true) true n 2 (([a, b, c, d, e].drop 4).take (Try.prog.cellsOf 2)) = some x3 := hg 3 _ rfl
    rw [Try.c4] at g0
    rw [Try.c24] at g1
    rw [Try.c2] at g2 g3
    obtain ⟨n0, e0, r0⟩ := DataW.trod_bool Try.underlying4 g0
    obtain ⟨s, e1, hs⟩ := open_sm n _ _ rfl g1
    obtain ⟨n2, e2, r2, w2⟩ := DataW.trod_int Try.underlying2 g2
    obtain ⟨n3, e3, r3, w3⟩ := DataW.trod_int Try.underlying2 g3
    obtain rfl := one_eq e0
    obtain rfl := one_eq e2
    obtain rfl := one_eq e3
    have e1' : [b, c] = [.int .i64 s.hi, .int .u64 s.lo] := e1
    injection e1' with e4 e5
    obtain rfl := e4
    obtain rfl := one_eq e5
    exact ⟨⟨n0, s, n2, n3⟩, rfl, hs, wf_i64_bd w2, wf_i64_bd w3⟩
/-- Any row, its elements opened by a way of their own. -/
theorem open_row {α : Type} [Inhabited α] {W : World} (E : α → List Value → Prop) (t e size : Nat) (ht : Try.prog.underlying t = some (.slice e)) (hsz : Try.prog.cellsOf e = size) (h0 : 0 < size)
    (hE : ∀ fuel cs x, cs.length = size → DataW.trod enc Try.prog W 0 (fun _ => true) true fuel e cs = some x → ∃ y, E y cs)
    {fuel : Nat} {cs : List Value} {x : DataW H × List MemPlace} (h : DataW.trod enc Try.prog W 0 (fun _ => true) true fuel t cs = some x) :
    ∃ v l, cs = [v] ∧ RowE (fun k => k < W.heap.size) W size E v l ∧ ((v = .slice none 0 0 ∧ l = []) ∨ ∃ a c el sp, v = .slice (some a) l.length c ∧ x.1 = .slice el sp ∧ el.length = l.length) := by
  rcases Go.Deep.open_slice ht h with ⟨rfl, rfl⟩ | ⟨a, len, cap, m, n, D, Pl, rfl, hbs, hl, hm, hmm, rfl, hi⟩
  · exact ⟨_, [], rfl, RowE.nil _ _ _ _, .inl ⟨rfl, rfl⟩⟩
  · simp only [if_true] at hmm
    rw [hsz] at hi
    have hel : ∀ i, ∃ y : α, i < len → ∃ cs' : List Value, cs'.length = size ∧ (∀ j, j < size → W.cell? ((a.add (i * size)).add j) = cs'[j]?) ∧ E y cs' := by
      intro i
      by_cases hil : i < len
      · obtain ⟨cs', hc, htr⟩ := hi i (by omega)
        obtain ⟨_, hlen, hat⟩ := World.cells?_some hc
        obtain ⟨y, hy⟩ := hE _ _ _ hlen htr
        exact ⟨y, fun _ => ⟨cs', hlen, hat, hy⟩⟩
      · exact ⟨default, fun h => absurd h hil⟩
    obtain ⟨f, hf⟩ := Classical.axiomOfChoice hel
    refine ⟨_, (List.range len).map f, rfl, ⟨some a, cap, by simp, by simp; omega, by omega, fun hl0 => ?_⟩, .inr ⟨a, cap, _, _, by simp, rfl, by simp⟩⟩
    have hlen0 : 0 < len := by simpa using hl0
    obtain ⟨cs0, hl1, hc0, _⟩ := hf 0 hlen0
    have hc00 := hc0 0 h0
    rw [List.getElem?_eq_getElem (by omega)] at hc00
    obtain ⟨b, off, spot⟩ := a
    have hspot : spot = none := by simpa [Addr.add] using World.cell?_spot hc00
    subst hspot
    have hlt : b < W.heap.size := by
      have := World.block_lt_of_cell? W _ hc00
      simpa [Addr.add] using this
    refine ⟨b, off, rfl, hlt, hlt, fun j hj => ?_⟩
    rw [List.length_map, List.length_range] at hj
    obtain ⟨cs', h1, h2, h3⟩ := hf j hj
    refine ⟨cs', h1, fun i hi' => ?_, by rw [List.getElem_map, List.getElem_range]; exact h3⟩
    have := h2 i hi'
    rw [Addr.add_lit, Addr.add_lit] at this
    exact this
theorem arg_slice {t e : TypeId} {b : Nat} {v : Value} {d : DataW H} {ps : List MemPlace} (ht : Try.prog.underlying t = some (.slice e)) (hval : Value.okWide Try.prog W .any b t v) (h : DataW.Trod enc Try.prog W 0 (fun _ => true) true t v d ps) : ∃ fuel, DataW.trod enc Try.prog W 0 (fun _ => true) true fuel t [v] = some (d, ps) := by
  obtain ⟨a0, len, cap, rfl⟩ := okWide_slice ht hval
  obtain ⟨fuel, hf⟩ := h
  exact ⟨fuel, by simpa [Value.cells] using hf⟩
abbrev Lt (W : World) : Nat → Prop := fun k => k < W.heap.size
theorem open_i64 (t : TypeId) (ht : Try.prog.underlying t = some (.int .i64)) (fuel : Nat) (cs : List Value) (x : DataW H × List MemPlace) (hl : cs.length = 1) (h : DataW.trod enc Try.prog W 0 (fun _ => true) true fuel t cs = some x) : ∃ y, intG (Lt W) W y cs := by
  obtain ⟨n, e, r, w⟩ := DataW.trod_int ht h
  exact ⟨n, e, wf_i64_bd w⟩
/-- An argument []int64. -/
theorem arg_i64s {b0 : Nat} {v : Value} {d : DataW H} {ps : List MemPlace} (hval : Value.okWide Try.prog W .any b0 34 v) (h : DataW.Trod enc Try.prog W 0 (fun _ => true) true 34 v d ps) : ∃ l, RowE (Lt W) W 1 (intG (Lt W) W) v l := by
  obtain ⟨fuel, hf⟩ := arg_slice Try.underlying34 hval h
  obtain ⟨v', l, e, hr, -⟩ := open_row (intG (Lt W) W) 34 2 1 Try.underlying34 Try.c2 (by decide) (open_i64 2 Try.underlying2) hf
  obtain rfl := one_eq e
  exact ⟨l, hr⟩
/-- An argument []int. -/
theorem arg_ints {b0 : Nat} {v : Value} {d : DataW H} {ps : List MemPlace} (hval : Value.okWide Try.prog W .any b0 52 v) (h : DataW.Trod enc Try.prog W 0 (fun _ => true) true 52 v d ps) : ∃ l, RowE (Lt W) W 1 (intG (Lt W) W) v l := by
  obtain ⟨fuel, hf⟩ := arg_slice Try.underlying52 hval h
  obtain ⟨v', l, e, hr, -⟩ := open_row (intG (Lt W) W) 52 3 1 Try.underlying52 Try.c3 (by decide) (open_i64 3 Try.underlying3) hf
  obtain rfl := one_eq e
  exact ⟨l, hr⟩
instance : Inhabited Pt := ⟨Pt.zero⟩
theorem open_ptG (fuel : Nat) (cs : List Value) (x : DataW H × List MemPlace) (hl : cs.length = 5) (h : DataW.trod enc Try.prog W 0 (fun _ => true) true fuel 46 cs = some x) : ∃ y, ptG (Lt W) W y cs := open_pt fuel cs x hl h
/-- Parts, and how many there may be. -/
theorem open_parts {fuel : Nat} {cs : List Value} {x : DataW H × List MemPlace} (h : DataW.trod enc Try.prog W 0 (fun _ => true) true fuel 37 cs = some x) (hsz : ∀ n ∈ x.1.weights Try.prog 37, n ≤ reachBytes) :
    ∃ v l, cs = [v] ∧ PR (Lt W) W v l ∧ Lok l := by
  obtain ⟨v, l, e, hr, hk⟩ := open_row (ptG (Lt W) W) 37 46 5 Try.underlying37 Try.c46 (by decide) open_ptG h
  refine ⟨v, l, e, ?_, ?_, ?_⟩
  · rcases hk with hk | ⟨a, c, el, sp, hv, -⟩
    · exact .inl hk
    · obtain ⟨A, c', e', h1, h2, h3⟩ := hr
      rw [hv] at e'
      injection e' with e1 e2 e3
      subst e1; subst e3
      refine .inr ⟨a, c, hv, h1, h2, fun hl => ?_⟩
      obtain ⟨g, off, ea, hg, hgl, h5⟩ := h3 hl
      injection ea with ea
      refine ⟨g, off, ea, hg, hgl, fun j hj => ?_⟩
      obtain ⟨cs', hc1, hc2, hc3, hc4⟩ := h5 j hj
      rw [hc3] at hc2
      exact ⟨hc2 0 (by decide), hc2 1 (by decide), hc2 2 (by decide), hc2 3 (by decide), hc2 4 (by decide)⟩
  · intro p hp
    obtain ⟨j, hj, rfl⟩ := List.getElem_of_mem hp
    obtain ⟨A, c', e', h1, h2, h3⟩ := hr
    obtain ⟨g, off, ea, hg, hgl, h5⟩ := h3 (by omega)
    obtain ⟨cs', hc1, hc2, hc3, hc4⟩ := h5 j hj
    exact hc4
  · rcases hk with ⟨_, rfl⟩ | ⟨a, c, el, sp, hv, hx, hel⟩
    · simp
    · have hb : Try.prog.bytesOf 46 = 40 := by kernel_rfl
      have := hsz ((el.length + sp.length) * Try.prog.bytesOf 46) (by rw [hx, DataW.weights, Try.underlying37]; simp)
      rw [hb] at this
      unfold reachBytes at this
      omega
set_option maxRecDepth 100000 in
/-- An argument of accumulator's type. -/
theorem arg_acc {b0 : Nat} {v : Value} {d : DataW H} {ps : List MemPlace} (hval : Value.okWide Try.prog W .any b0 39 v) (h : DataW.Trod enc Try.prog W 0 (fun _ => true) true 39 v d ps) (hsz : ∀ n ∈ d.weights Try.prog 39, n ≤ reachBytes) :
    ∃ c u l, v = .agg #[.int .i64 c, u] ∧ i64 c ∧ PR (Lt W) W u l ∧ Lok l := by
  obtain ⟨cs, rfl, hcs⟩ := okWide_struct Try.underlying39 hval
  rw [Try.c39] at hcs
  obtain ⟨fuel, hf⟩ := h
  have hf' : DataW.trod enc Try.prog W 0 (fun _ => true) true fuel 39 cs.toList = some (d, ps) := hf
  obtain ⟨xs, n, _, hx, hlen, hxl, hg⟩ := DataW.trod_struct Try.underlying39 hf'
  obtain ⟨a, b, hab⟩ := len2 (cs := cs.toList) (by simpa using hcs)
  rw [hab] at hg
  have hx2 : xs.length = 2 := hxl
  match xs, hx2 with
  | [x0, x1], _ =>
    have g0 : DataW.trod enc Try.prog W 0 (fun _ => true) true n 3 (([a, b].drop 0).take (Try.prog.cellsOf 3)) = some x0 := hg 0 _ rfl
    have g1 : DataW.trod enc Try.prog W 0 (fun _ => true) true n 37 (([a, b].drop 1).take (Try.prog.cellsOf 37)) = some x1 := hg 1 _ rfl
    rw [Try.c3] at g0
    rw [Try.c37] at g1
    obtain ⟨n0, e0, r0, w0⟩ := DataW.trod_int Try.underlying3 g0
    obtain ⟨v1, l, e1, q1, q2⟩ := open_parts g1 (fun k hk => hsz k (by
      have : d = .agg [x0.1, x1.1] := by injection hx
      rw [this, DataW.weights, Try.underlying39]
      exact DataW.weights_mem_each (ts := [3, 37]) (j := 1) rfl rfl k hk))
    obtain rfl := one_eq e0
    obtain rfl := one_eq e1
    exact ⟨n0, _, l, congrArg Value.agg (Array.ext' hab), wf_i64_bd w0, q1, q2⟩
end
end Go.Proofs.Ytgjpdagbbljmpaa
