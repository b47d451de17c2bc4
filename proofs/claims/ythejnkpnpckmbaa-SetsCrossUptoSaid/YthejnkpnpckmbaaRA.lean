/- Arguments opened: rows of ints, of texts, of groups, with what they weigh. -/
import Derived.Test.YthejnkpnpckmbaaC3
import Derived.ProofKit
import Derived.SizedLaws
namespace Go.Proofs.Ythejnkpnpckmbaa
open Go.RowKit Go.ChangeShapes Go.WideShapes Go.ChangeAt
set_option linter.unusedVariables false

theorem Try.own : ownKnob Try.prog.godebug = none := by kernel_rfl
theorem Try.laidOut : laidOutB Try.prog = true := by kernel_rfl

section
variable {H : Type} {enc : TypeId × Value → H}

theorem wf_i64_bd {n : Int} (h : (Lit.int .i64 n).wf = true) : -9223372036854775808 ≤ n ∧ n ≤ 9223372036854775807 := by
  simp only [Lit.wf, Bool.and_eq_true, decide_eq_true_eq] at h
  simp [IntKind.min, IntKind.max, IntKind.signed, IntKind.bits] at h
  omega

/-- What a law owes behind its walk. -/
theorem post_true {f : Func} {s : ChangeSpec} {W W' : World} {args : Array Value} {ds : List (DataW H)} {before : List MemPlace} (hsv : s.vars = [])
    (hW : DataW.Whole enc Try.prog f.params.toList s.vars false W args.toList ds [] before) (hb : Below W.heap.size W W') (hr : f.resultTypes = #[4])
    (h1 : (s.fn H (ds ++ [])).results = [.lit (.bool true)]) (h2 : (s.fn H (ds ++ [])).args = ds) (h3 : (s.fn H (ds ++ [])).vars = [])
    (ha : DataW.TrodAll enc Try.prog W' 0 (fun b => decide (b < W.heap.size)) true f.params.toList args.toList ds before) : s.post enc Try.prog f false true false false W args (.bool true) W' := by
  refine ⟨ds, [], before, [], before, [], hW, ?_, ?_, ?_, hb.frame _, fun h => by cases h⟩
  · rw [h1, hr]
    exact trodAll_mk1 (shut_bool Try.underlying4 true)
  · rw [h2]; exact ha
  · rw [hsv, h3]; rfl
end

instance : Inhabited Gp := ⟨⟨0, [], []⟩⟩
theorem one_eq {a v : Value} (h : [a] = [v]) : a = v := by injection h
theorem len3 {cs : List Value} (h : cs.length = 3) : ∃ a b c, cs = [a, b, c] := by
  match cs, h with
  | [a, b, c], _ => exact ⟨a, b, c, rfl⟩
set_option maxRecDepth 100000 in
theorem Try.c3 : Try.prog.cellsOf 3 = 1 := by kernel_rfl
theorem Try.c9 : Try.prog.cellsOf 9 = 1 := by kernel_rfl
theorem Try.c22 : Try.prog.cellsOf 22 = 1 := by kernel_rfl
theorem Try.c23 : Try.prog.cellsOf 23 = 1 := by kernel_rfl
theorem Try.c32 : Try.prog.cellsOf 32 = 1 := by kernel_rfl
theorem Try.c38 : Try.prog.cellsOf 38 = 3 := by kernel_rfl
theorem Try.c39 : Try.prog.cellsOf 39 = 1 := by kernel_rfl
section
variable {H : Type} {enc : TypeId × Value → H} {M : Nat}
theorem bulk_one (d : DataW H) : 1 ≤ Rows.uptoBulk d := by
  cases d with
  | lit l => cases l <;> simp [Rows.uptoBulk]
  | nil => simp [Rows.uptoBulk]
  | ptr d => simp [Rows.uptoBulk]
  | slice elems spare => simp [Rows.uptoBulk]
  | agg parts => simp [Rows.uptoBulk]
  | iface t d => simp [Rows.uptoBulk]
  | map entries => simp [Rows.uptoBulk]
  | held h => simp [Rows.uptoBulk]
theorem bulk_sum {α : Type} (f : Nat → α) (β : α → Nat) (D : Nat → DataW H) : ∀ L : List Nat, (∀ i ∈ L, β (f i) ≤ Rows.uptoBulk (D i)) → ((L.map f).map β).sum ≤ Rows.uptoBulkAll (L.map D)
  | [], _ => by simp
  | i :: L, h => by
    have h1 := h i (by simp)
    have h2 := bulk_sum f β D L fun j hj => h j (by simp [hj])
    simp only [List.map_cons, List.sum_cons, Rows.uptoBulkAll]
    omega
theorem bulk_part {d : DataW H} : ∀ {l : List (DataW H)}, d ∈ l → Rows.uptoBulk d ≤ Rows.uptoBulkAll l
  | [], h => by cases h
  | x :: l, h => by
    simp only [Rows.uptoBulkAll]
    rcases List.mem_cons.1 h with rfl | h
    · omega
    · have := bulk_part h; omega

/-- Any row, its elements opened by a way of their own, and what it weighs. -/
theorem open_rowB {α : Type} [Inhabited α] {W : World} (E : α → List Value → Prop) (β : α → Nat) (t e size : Nat) (ht : Try.prog.underlying t = some (.slice e)) (hsz : Try.prog.cellsOf e = size) (h0 : 0 < size)
    (hE : ∀ fuel cs x, cs.length = size → DataW.trod enc Try.prog W 0 (fun _ => true) true fuel e cs = some x → Rows.uptoBulk x.1 ≤ M → ∃ y, E y cs ∧ β y ≤ Rows.uptoBulk x.1)
    {fuel : Nat} {cs : List Value} {x : DataW H × List MemPlace} (h : DataW.trod enc Try.prog W 0 (fun _ => true) true fuel t cs = some x) (hb : Rows.uptoBulk x.1 ≤ M) :
    ∃ v l, cs = [v] ∧ RowE (fun k => k < W.heap.size) W size E v l ∧ 1 + (l.map β).sum ≤ Rows.uptoBulk x.1 := by
  rcases Go.Deep.open_slice ht h with ⟨rfl, rfl⟩ | ⟨a, len, cap, m, n, D, Pl, rfl, hbs, hl, hm, hmm, rfl, hi⟩
  · exact ⟨_, [], rfl, RowE.nil _ _ _ _, by simp [Rows.uptoBulk]⟩
  · simp only [if_true] at hmm
    rw [hsz] at hi
    simp only [Rows.uptoBulk] at hb ⊢
    have hel : ∀ i, ∃ y : α, i < len → (∃ cs' : List Value, cs'.length = size ∧ (∀ j, j < size → W.cell? ((a.add (i * size)).add j) = cs'[j]?) ∧ E y cs') ∧ β y ≤ Rows.uptoBulk (D i) := by
      intro i
      by_cases hil : i < len
      · obtain ⟨cs', hc, htr⟩ := hi i (by omega)
        obtain ⟨_, hlen, hat⟩ := World.cells?_some hc
        have hp : Rows.uptoBulk (D i) ≤ Rows.uptoBulkAll ((List.range len).map D) := bulk_part (List.mem_map.2 ⟨i, List.mem_range.2 hil, rfl⟩)
        obtain ⟨y, hy, hw⟩ := hE _ _ _ hlen htr (by show Rows.uptoBulk (D i) ≤ M; omega)
        exact ⟨y, fun _ => ⟨⟨cs', hlen, hat, hy⟩, hw⟩⟩
      · exact ⟨default, fun h => absurd h hil⟩
    obtain ⟨f, hf⟩ := Classical.axiomOfChoice hel
    refine ⟨_, (List.range len).map f, rfl, ⟨some a, cap, by simp, by simp; omega, by omega, fun hl0 => ?_⟩, ?_⟩
    · have hlen0 : 0 < len := by simpa using hl0
      obtain ⟨cs0, hl1, hc0, _⟩ := (hf 0 hlen0).1
      have hc00 := hc0 0 h0
      rw [List.getElem?_eq_getElem (by omega)] at hc00
      obtain ⟨b, off, spot⟩ := a
      have hspot : spot = none := by simpa [Addr.add] using World.cell?_spot hc00
      subst hspot
      have hlt : b < W.heap.size := by
        have := World.block_lt_of_cell? W _ hc00
        simpa [Addr.add] using this
      refine ⟨b, off, rfl, hlt, hlt, fun j hj => ?_⟩
      · rw [List.length_map, List.length_range] at hj
        obtain ⟨cs', h1, h2, h3⟩ := (hf j hj).1
        refine ⟨cs', h1, fun i hi' => ?_, by rw [List.getElem_map, List.getElem_range]; exact h3⟩
        have := h2 i hi'
        rw [Addr.add_lit, Addr.add_lit] at this
        exact this
    · have := bulk_sum f β D (List.range len) fun i hi => (hf i (List.mem_range.1 hi)).2
      omega


variable {W : World}
abbrev Lt (W : World) : Nat → Prop := fun k => k < W.heap.size
theorem openB_str (fuel : Nat) (cs : List Value) (x : DataW H × List MemPlace) (hl : cs.length = 1) (h : DataW.trod enc Try.prog W 0 (fun _ => true) true fuel 9 cs = some x) (hb : Rows.uptoBulk x.1 ≤ M) : ∃ y, strG (Lt W) W y cs ∧ (fun _ => 1) y ≤ Rows.uptoBulk x.1 := by
  obtain ⟨s, e4, rfl, w4⟩ := DataW.trod_string Try.underlying9 h
  exact ⟨s.data.toList, ⟨e4, (Array.length_toList (xs := s.data)).symm ▸ w4⟩, bulk_one _⟩
theorem openB_int (fuel : Nat) (cs : List Value) (x : DataW H × List MemPlace) (hl : cs.length = 1) (h : DataW.trod enc Try.prog W 0 (fun _ => true) true fuel 3 cs = some x) (hb : Rows.uptoBulk x.1 ≤ M) : ∃ y, intG (Lt W) W y cs ∧ (fun _ => 1) y ≤ Rows.uptoBulk x.1 := by
  obtain ⟨n, e, r, w⟩ := DataW.trod_int Try.underlying3 h
  exact ⟨n, ⟨e, wf_i64_bd w⟩, bulk_one _⟩
theorem openB_strs {fuel : Nat} {cs : List Value} {x : DataW H × List MemPlace} (h : DataW.trod enc Try.prog W 0 (fun _ => true) true fuel 23 cs = some x) (hb : Rows.uptoBulk x.1 ≤ M) : ∃ v l, cs = [v] ∧ RowE (Lt W) W 1 (strG (Lt W) W) v l ∧ 1 + l.length ≤ Rows.uptoBulk x.1 := by
  obtain ⟨v, l, e, r, hw⟩ := open_rowB (strG (Lt W) W) (fun _ => 1) 23 9 1 Try.underlying23 Try.c9 (by omega) openB_str h hb
  exact ⟨v, l, e, r, by rw [List.map_const'] at hw; simpa using hw⟩
theorem openB_ints {fuel : Nat} {cs : List Value} {x : DataW H × List MemPlace} (h : DataW.trod enc Try.prog W 0 (fun _ => true) true fuel 22 cs = some x) (hb : Rows.uptoBulk x.1 ≤ M) : ∃ v l, cs = [v] ∧ RowE (Lt W) W 1 (intG (Lt W) W) v l ∧ 1 + l.length ≤ Rows.uptoBulk x.1 := by
  obtain ⟨v, l, e, r, hw⟩ := open_rowB (intG (Lt W) W) (fun _ => 1) 22 3 1 Try.underlying22 Try.c3 (by omega) openB_int h hb
  exact ⟨v, l, e, r, by rw [List.map_const'] at hw; simpa using hw⟩
theorem openB_ls (fuel : Nat) (cs : List Value) (x : DataW H × List MemPlace) (hl : cs.length = 1) (h : DataW.trod enc Try.prog W 0 (fun _ => true) true fuel 23 cs = some x) (hb : Rows.uptoBulk x.1 ≤ M) : ∃ y, lsG (Lt W) W y cs ∧ 1 + y.length ≤ Rows.uptoBulk x.1 := by
  obtain ⟨v, l, e, r, hw⟩ := openB_strs h hb
  refine ⟨l, ⟨v, e, ?_, r⟩, hw⟩
  obtain ⟨A, c, rfl, _⟩ := r
  rfl
theorem mem_sum {α : Type} (β : α → Nat) : ∀ (l : List α) (x : α), x ∈ l → β x ≤ (l.map β).sum
  | [], x, h => by cases h
  | y :: l, x, h => by
    rw [List.map_cons, List.sum_cons]
    rcases List.mem_cons.1 h with rfl | h
    · omega
    · have := mem_sum β l x h; omega
theorem len_sum {α : Type} (β : α → Nat) (h1 : ∀ x, 1 ≤ β x) : ∀ (l : List α), l.length ≤ (l.map β).sum
  | [] => Nat.le_refl _
  | y :: l => by
    rw [List.map_cons, List.sum_cons, List.length_cons]
    have := len_sum β h1 l
    have := h1 y
    omega
def gpB (g : Gp) : Nat := 1 + g.cols.length + (1 + (g.sets.map fun s => 1 + s.length).sum)
set_option maxRecDepth 100000 in
theorem openB_gp (fuel : Nat) (cs : List Value) (x : DataW H × List MemPlace) (hl : cs.length = 3) (h : DataW.trod enc Try.prog W 0 (fun _ => true) true fuel 38 cs = some x) (hb : Rows.uptoBulk x.1 ≤ M) : ∃ y, gpG (Lt W) W y cs ∧ gpB y ≤ Rows.uptoBulk x.1 := by
  obtain ⟨xs, n, _, rfl, hlen, hxl, hg⟩ := DataW.trod_struct Try.underlying38 h
  obtain ⟨a, b, c, rfl⟩ := len3 hl
  have hx3 : xs.length = 3 := hxl
  match xs, hx3 with
  | [x0, x1, x2], _ =>
    have g0 : DataW.trod enc Try.prog W 0 (fun _ => true) true n 3 (([a, b, c].drop 0).take (Try.prog.cellsOf 3)) = some x0 := hg 0 _ rfl
    have g1 : DataW.trod enc Try.prog W 0 (fun _ => true) true n 23 (([a, b, c].drop 1).take (Try.prog.cellsOf 23)) = some x1 := hg 1 _ rfl
    have g2 : DataW.trod enc Try.prog W 0 (fun _ => true) true n 32 (([a, b, c].drop 2).take (Try.prog.cellsOf 32)) = some x2 := hg 2 _ rfl
    rw [Try.c3] at g0
    rw [Try.c23] at g1
    rw [Try.c32] at g2
    simp only [List.map_cons, List.map_nil, Rows.uptoBulk, Rows.uptoBulkAll] at hb ⊢
    obtain ⟨n0, e0, r0, w0⟩ := DataW.trod_int Try.underlying3 g0
    obtain ⟨v1, l1, e1, q1, b1⟩ := openB_strs (M := M) g1 (by omega)
    obtain ⟨v2, l2, e2, q2, b2⟩ := open_rowB (M := M) (lsG (Lt W) W) (fun s => 1 + s.length) 32 23 1 Try.underlying32 Try.c23 (by omega) openB_ls g2 (by omega)
    obtain rfl := one_eq e0
    obtain rfl := one_eq e1
    obtain rfl := one_eq e2
    refine ⟨⟨n0, l1, l2⟩, ⟨_, _, rfl, wf_i64_bd w0, q1, q2⟩, ?_⟩
    unfold gpB
    simp only
    omega
theorem openB_gps {fuel : Nat} {cs : List Value} {x : DataW H × List MemPlace} (h : DataW.trod enc Try.prog W 0 (fun _ => true) true fuel 39 cs = some x) (hb : Rows.uptoBulk x.1 ≤ M) : ∃ v l, cs = [v] ∧ RowE (Lt W) W 3 (gpG (Lt W) W) v l ∧ (∀ g ∈ l, gpB g ≤ M) ∧ l.length ≤ M := by
  obtain ⟨v, l, e, r, hw⟩ := open_rowB (gpG (Lt W) W) gpB 39 38 3 Try.underlying39 Try.c38 (by omega) openB_gp h hb
  refine ⟨v, l, e, r, fun g hg => ?_, ?_⟩
  · have := mem_sum gpB l g hg; omega
  · have := len_sum gpB (fun g => by unfold gpB; omega) l; omega
theorem gpF_of_bulk {g : Gp} (h : gpB g ≤ 1048576) : GpF g := by
  unfold gpB at h
  refine ⟨by omega, ?_, fun s hs => ?_⟩
  · have := len_sum (fun s : List Tx => 1 + s.length) (fun s => by omega) g.sets; omega
  · have := mem_sum (fun s : List Tx => 1 + s.length) g.sets s hs; omega
/-- An argument of slice type. -/
theorem arg_slice {t e : TypeId} {b : Nat} {v : Value} {d : DataW H} {ps : List MemPlace} (ht : Try.prog.underlying t = some (.slice e)) (hval : Value.okWide Try.prog W .any b t v) (h : DataW.Trod enc Try.prog W 0 (fun _ => true) true t v d ps) : ∃ fuel, DataW.trod enc Try.prog W 0 (fun _ => true) true fuel t [v] = some (d, ps) := by
  obtain ⟨a0, len, cap, rfl⟩ := okWide_slice ht hval
  obtain ⟨fuel, hf⟩ := h
  exact ⟨fuel, by simpa [Value.cells] using hf⟩
end
end Go.Proofs.Ythejnkpnpckmbaa
