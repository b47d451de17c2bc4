/- A list of things that is not too great, as an argument: opened. -/
import Derived.Test.YtcncnponhhcjhaaK5
import Derived.Test.YtcncnponhhcjhaaF5
import Derived.Test.YtcncnponhhcjhaaRows
namespace Go.Proofs.Ytcncnponhhcjhaa
open Go.RowKit Go.ChangeShapes Go.WideShapes Go.ChangeAt
set_option linter.unusedVariables false

section
variable {H : Type} {enc : TypeId × Value → H}
theorem bulk_one (d : DataW H) : 1 ≤ Rows.uptoBulk d := by
  cases d with
  | lit l => cases l <;> simp [Rows.uptoBulk]
  | nil => simp [Rows.uptoBulk]
  | ptr d => simp [Rows.uptoBulk]
  | slice elems spare => simp [Rows.uptoBulk]
  | agg parts => simp [Rows.uptoBulk]
  | iface t d => simp [Rows.uptoBulk]
  | map entries => simp [Rows.uptoBulk]
  | held h => simp [Rows.uptoBulk]
theorem bulk_sum {α : Type} (f : Nat → α) (β : α → Nat) (D : Nat → DataW H) : ∀ L : List Nat, (∀ i ∈ L, β (f i) ≤ 16 * Rows.uptoBulk (D i)) → ((L.map f).map β).sum ≤ 16 * Rows.uptoBulkAll (L.map D)
  | [], _ => by simp
  | i :: L, h => by
    have h1 := h i (by simp)
    have h2 := bulk_sum f β D L fun j hj => h j (by simp [hj])
    simp only [List.map_cons, List.sum_cons, Rows.uptoBulkAll]
    omega
theorem bulk_part {d : DataW H} : ∀ {l : List (DataW H)}, d ∈ l → Rows.uptoBulk d ≤ Rows.uptoBulkAll l
  | [], h => by cases h
  | x :: l, h => by
    simp only [Rows.uptoBulkAll]
    rcases List.mem_cons.1 h with rfl | h
    · omega
    · have := bulk_part h; omega

/-- Any row, its elements opened by a way of their own, and what it weighs. -/
theorem open_rowB {α : Type} [Inhabited α] {W : World} (E : α → List Value → Prop) (β : α → Nat) (t e size : Nat) (ht : Try.prog.underlying t = some (.slice e)) (hsz : Try.prog.cellsOf e = size) (h0 : 0 < size)
    (hE : ∀ fuel cs x, cs.length = size → DataW.trod enc Try.prog W 0 (fun _ => true) true fuel e cs = some x → Rows.uptoBulk x.1 ≤ 1048576 → ∃ y, E y cs ∧ β y ≤ 16 * Rows.uptoBulk x.1)
    {fuel : Nat} {cs : List Value} {x : DataW H × List MemPlace} (h : DataW.trod enc Try.prog W 0 (fun _ => true) true fuel t cs = some x) (hb : Rows.uptoBulk x.1 ≤ 1048576) :
    ∃ v l, cs = [v] ∧ RowE (fun k => k < W.heap.size) W size E v l ∧ (∀ A n c, v = .slice A n c → n ≤ c) ∧ 4 + (l.map β).sum ≤ 16 * Rows.uptoBulk x.1 := by
  rcases Go.Deep.open_slice ht h with ⟨rfl, rfl⟩ | ⟨a, len, cap, m, n, D, Pl, rfl, hbs, hl, hm, hmm, rfl, hi⟩
  · refine ⟨_, [], rfl, RowE.nil _ _ _ _ _, fun A n c e => ?_, by simp [Rows.uptoBulk]⟩
    injection e with e1 e2 e3; omega
  · simp only [if_true] at hmm
    rw [hsz] at hi
    simp only [Rows.uptoBulk] at hb ⊢
    have hel : ∀ i, ∃ y : α, i < len → (∃ cs' : List Value, cs'.length = size ∧ (∀ j, j < size → W.cell? ((a.add (i * size)).add j) = cs'[j]?) ∧ E y cs') ∧ β y ≤ 16 * Rows.uptoBulk (D i) := by
      intro i
      by_cases hil : i < len
      · obtain ⟨cs', hc, htr⟩ := hi i (by omega)
        obtain ⟨_, hlen, hat⟩ := World.cells?_some hc
        have hp : Rows.uptoBulk (D i) ≤ Rows.uptoBulkAll ((List.range len).map D) := bulk_part (List.mem_map.2 ⟨i, List.mem_range.2 hil, rfl⟩)
        obtain ⟨y, hy, hw⟩ := hE _ _ _ hlen htr (by show Rows.uptoBulk (D i) ≤ 1048576; omega)
        exact ⟨y, fun _ => ⟨⟨cs', hlen, hat, hy⟩, hw⟩⟩
      · exact ⟨default, fun h => absurd h hil⟩
    obtain ⟨f, hf⟩ := Classical.axiomOfChoice hel
    refine ⟨_, (List.range len).map f, rfl, ⟨some a, cap, by simp, by simp; omega, fun hl0 => ?_⟩, fun A n c e => ?_, ?_⟩
    · have hlen0 : 0 < len := by simpa using hl0
      obtain ⟨cs0, hl1, hc0, _⟩ := (hf 0 hlen0).1
      have hc00 := hc0 0 h0
      rw [List.getElem?_eq_getElem (by omega)] at hc00
      obtain ⟨b, off, spot⟩ := a
      have hspot : spot = none := by simpa [Addr.add] using World.cell?_spot hc00
      subst hspot
      refine ⟨b, off, rfl, ?_, fun j hj => ?_⟩
      · have := World.block_lt_of_cell? W _ hc00
        simpa [Addr.add] using this
      · rw [List.length_map, List.length_range] at hj
        obtain ⟨cs', h1, h2, h3⟩ := (hf j hj).1
        refine ⟨cs', h1, fun i hi' => ?_, by rw [List.getElem_map, List.getElem_range]; exact h3⟩
        have := h2 i hi'
        rw [Addr.add_lit, Addr.add_lit] at this
        exact this
    · injection e with e1 e2 e3; omega
    · have := bulk_sum f β D (List.range len) fun i hi => (hf i (List.mem_range.1 hi)).2
      omega

theorem row_bytes {α : Type} (b : α → List UInt8) (l : List α) : (bRow b l).length = 4 + (l.map fun x => (b x).length).sum := by
  unfold bRow
  rw [List.length_append, low_len]
  induction l with
  | nil => rfl
  | cons x l ih =>
    have := ih
    simp only [List.flatMap_cons, List.length_append, List.map_cons, List.sum_cons] at this ⊢
    omega
theorem flat_many {α : Type} (b : α → List UInt8) (h : ∀ x, 1 ≤ (b x).length) : ∀ l : List α, l.length ≤ (l.flatMap b).length
  | [] => by simp
  | x :: l => by
    have h1 := h x
    have h2 := flat_many b h l
    simp only [List.flatMap_cons, List.length_append, List.length_cons]
    omega
theorem bText_len (s : List UInt8) : (bText s).length = 4 + s.length := by unfold bText; rw [List.length_append, low_len]
theorem enc8_len (n : Int) : (enc8 n).length = 8 := by unfold enc8; rw [low_len]
theorem texts_fit {l : List (List UInt8)} (h : (bRow bText l).length ≤ 16777216) : okTexts l := by
  have h1 := row_bound bText l
  have h2 := flat_many bText (fun s => by rw [bText_len]; omega) l
  refine ⟨by omega, fun s hs => ?_⟩
  obtain ⟨j, hj, rfl⟩ := List.mem_iff_getElem.1 hs
  have h3 := flat_one bText l j hj
  rw [bText_len] at h3
  unfold okText
  omega
theorem fact_fits {f : FactP} (h : (bFact f).length ≤ 16777216) : okFact f := by
  unfold bFact at h
  rw [List.length_append] at h
  have h1 := row_bound enc8 f.meas
  have h2 := flat_many enc8 (fun s => by rw [enc8_len]; omega) f.meas
  exact ⟨texts_fit (by omega), by omega⟩
theorem cell_fits {c : CellP} (h : (bCell c).length ≤ 16777216) (hm : c.may = true) : okCell c := by
  refine ⟨hm, ?_⟩
  unfold okText
  rcases may_kind hm with h0 | h1 | h2
  · have ht : c.text = [] := by
      unfold CellP.may at hm; rw [h0] at hm; simp at hm; exact hm.2
    rw [ht]; simp
  · have ht : c.text = [] := by
      unfold CellP.may at hm; rw [h1] at hm; simpa using hm
    rw [ht]; simp
  · unfold bCell at h
    rw [if_neg (by omega), if_pos h2, List.length_append, bText_len] at h
    omega
theorem bCell_one (c : CellP) : 1 ≤ (bCell c).length := by
  unfold bCell
  split
  · rw [List.length_append, low_len]; omega
  split
  · rw [List.length_append, low_len]; omega
  · rw [low_len]; omega
theorem bFact_one (f : FactP) : 1 ≤ (bFact f).length := by
  unfold bFact bRow
  simp only [List.length_append, low_len]; omega
theorem things_fit {t : ThingP} (hs : (bText t.s).length ≤ 16777216) (hl : (bRow bText t.l).length ≤ 16777216) (hc : (bRow bCell t.cells).length ≤ 16777216) (hf : (bRow bFact t.facts).length ≤ 16777216) (hm : (bRow bText t.meas).length ≤ 16777216) : Fits t ∧ (bThing t).length ≤ 1152921504606846976 := by
  have c1 := row_bound bCell t.cells
  have c2 := flat_many bCell bCell_one t.cells
  have f1 := row_bound bFact t.facts
  have f2 := flat_many bFact bFact_one t.facts
  refine ⟨⟨by rw [bText_len] at hs; unfold okText; omega, texts_fit hl, ⟨by omega, fun c hcc hm => ?_⟩, ⟨by omega, fun f hff => ?_⟩, texts_fit hm⟩, ?_⟩
  · obtain ⟨j, hj, rfl⟩ := List.mem_iff_getElem.1 hcc
    exact cell_fits (Nat.le_trans (flat_one bCell t.cells j hj) (by omega)) hm
  · obtain ⟨j, hj, rfl⟩ := List.mem_iff_getElem.1 hff
    exact fact_fits (Nat.le_trans (flat_one bFact t.facts j hj) (by omega))
  · have ho : (bCell (one t.cells)).length ≤ 16777216 := by
      cases e : t.cells with
      | nil => simp [one, CellP.zero, bCell, low_len]
      | cons c cl =>
        have := flat_one bCell t.cells 0 (by rw [e]; simp)
        simp only [e, List.getElem_cons_zero] at this c1
        rw [e] at hc
        show (bCell c).length ≤ _
        omega
    have ha : (bFact (any t.facts)).length ≤ 16777216 := by
      cases e : t.facts with
      | nil => simp [any, FactP.zero, bFact, bRow, low_len]
      | cons c cl =>
        have := flat_one bFact t.facts 0 (by rw [e]; simp)
        simp only [e, List.getElem_cons_zero] at this f1
        rw [e] at hf
        show (bFact c).length ≤ _
        omega
    unfold bThing
    split
    · rw [low_len]; omega
    split
    · rw [enc8_len]; omega
    split
    · rw [low_len]; omega
    split
    · omega
    split
    · omega
    split
    · omega
    split
    · omega
    split
    · omega
    split
    · omega
    · rw [List.length_append]; omega

variable {W : World}
theorem openB_str (fuel : Nat) (cs : List Value) (x : DataW H × List MemPlace) (hl : cs.length = 1) (h : DataW.trod enc Try.prog W 0 (fun _ => true) true fuel 9 cs = some x) (hb : Rows.uptoBulk x.1 ≤ 1048576) : ∃ y, strE y cs ∧ (bText y).length ≤ 16 * Rows.uptoBulk x.1 := by
  obtain ⟨s, e4, rfl, w4⟩ := DataW.trod_string Try.underlying9 h
  refine ⟨s.data.toList, ⟨e4, (Array.length_toList (xs := s.data)).symm ▸ w4⟩, ?_⟩
  rw [bText_len]
  simp only [Rows.uptoBulk]
  omega
theorem openB_int (fuel : Nat) (cs : List Value) (x : DataW H × List MemPlace) (hl : cs.length = 1) (h : DataW.trod enc Try.prog W 0 (fun _ => true) true fuel 2 cs = some x) (hb : Rows.uptoBulk x.1 ≤ 1048576) : ∃ y, intE y cs ∧ (enc8 y).length ≤ 16 * Rows.uptoBulk x.1 := by
  obtain ⟨n, e, r, w⟩ := DataW.trod_int Try.underlying2 h
  have h1 := bulk_one x.1
  exact ⟨n, ⟨e, wf_i64_bd w⟩, by rw [enc8_len]; omega⟩
theorem openB_strs {fuel : Nat} {cs : List Value} {x : DataW H × List MemPlace} (h : DataW.trod enc Try.prog W 0 (fun _ => true) true fuel 54 cs = some x) (hb : Rows.uptoBulk x.1 ≤ 1048576) : ∃ v l, cs = [v] ∧ RowE (fun k => k < W.heap.size) W 1 strE v l ∧ (bRow bText l).length ≤ 16 * Rows.uptoBulk x.1 := by
  obtain ⟨v, l, e, r, _, hw⟩ := open_rowB strE (fun s => (bText s).length) 54 9 1 Try.underlying54 Try.c9 (by omega) openB_str h hb
  exact ⟨v, l, e, r, by rw [row_bytes]; exact hw⟩
theorem openB_ints {fuel : Nat} {cs : List Value} {x : DataW H × List MemPlace} (h : DataW.trod enc Try.prog W 0 (fun _ => true) true fuel 97 cs = some x) (hb : Rows.uptoBulk x.1 ≤ 1048576) : ∃ v l, cs = [v] ∧ RowE (fun k => k < W.heap.size) W 1 intE v l ∧ (bRow enc8 l).length ≤ 16 * Rows.uptoBulk x.1 := by
  obtain ⟨v, l, e, r, _, hw⟩ := open_rowB intE (fun s => (enc8 s).length) 97 2 1 Try.underlying97 Try.c2 (by omega) openB_int h hb
  exact ⟨v, l, e, r, by rw [row_bytes]; exact hw⟩
set_option maxRecDepth 100000 in
theorem openB_cell (fuel : Nat) (cs : List Value) (x : DataW H × List MemPlace) (hl : cs.length = 3) (h : DataW.trod enc Try.prog W 0 (fun _ => true) true fuel 93 cs = some x) (hb : Rows.uptoBulk x.1 ≤ 1048576) : ∃ y, cellE y cs ∧ (bCell y).length ≤ 16 * Rows.uptoBulk x.1 := by
  obtain ⟨xs, n, _, rfl, hlen, hxl, hg⟩ := DataW.trod_struct Try.underlying93 h
  obtain ⟨a, b, c, rfl⟩ := len3 hl
  have hx3 : xs.length = 3 := hxl
  match xs, hx3 with
  | [x0, x1, x2], _ =>
    have g0 : DataW.trod enc Try.prog W 0 (fun _ => true) true n 3 (([a, b, c].drop 0).take (Try.prog.cellsOf 3)) = some x0 := hg 0 _ rfl
    have g1 : DataW.trod enc Try.prog W 0 (fun _ => true) true n 2 (([a, b, c].drop 1).take (Try.prog.cellsOf 2)) = some x1 := hg 1 _ rfl
    have g2 : DataW.trod enc Try.prog W 0 (fun _ => true) true n 9 (([a, b, c].drop 2).take (Try.prog.cellsOf 9)) = some x2 := hg 2 _ rfl
    rw [Try.c3] at g0
    rw [Try.c2] at g1
    rw [Try.c9] at g2
    obtain ⟨n0, e0, _, w0⟩ := DataW.trod_int Try.underlying3 g0
    obtain ⟨n1, e1, _, w1⟩ := DataW.trod_int Try.underlying2 g1
    obtain ⟨s, e2, rfl, w2⟩ := DataW.trod_string Try.underlying9 g2
    obtain rfl := one_eq e0
    obtain rfl := one_eq e1
    obtain rfl := one_eq e2
    refine ⟨⟨n0, n1, s.data.toList⟩, ⟨rfl, wf_i64_bd w0, wf_i64_bd w1, (Array.length_toList (xs := s.data)).symm ▸ w2⟩, ?_⟩
    simp only [List.map_cons, List.map_nil, Rows.uptoBulk, Rows.uptoBulkAll]
    unfold bCell
    split
    · rw [List.length_append, low_len, enc8_len]; omega
    split
    · rw [List.length_append, low_len, bText_len]; simp only; omega
    · rw [low_len]; omega
set_option maxRecDepth 100000 in
theorem openB_fact (fuel : Nat) (cs : List Value) (x : DataW H × List MemPlace) (hl : cs.length = 2) (h : DataW.trod enc Try.prog W 0 (fun _ => true) true fuel 99 cs = some x) (hb : Rows.uptoBulk x.1 ≤ 1048576) : ∃ y, factE (fun k => k < W.heap.size) W y cs ∧ (bFact y).length ≤ 16 * Rows.uptoBulk x.1 := by
  obtain ⟨xs, n, _, rfl, hlen, hxl, hg⟩ := DataW.trod_struct Try.underlying99 h
  obtain ⟨a, b, rfl⟩ := len2 hl
  have hx3 : xs.length = 2 := hxl
  match xs, hx3 with
  | [x0, x1], _ =>
    have g0 : DataW.trod enc Try.prog W 0 (fun _ => true) true n 54 (([a, b].drop 0).take (Try.prog.cellsOf 54)) = some x0 := hg 0 _ rfl
    have g1 : DataW.trod enc Try.prog W 0 (fun _ => true) true n 97 (([a, b].drop 1).take (Try.prog.cellsOf 97)) = some x1 := hg 1 _ rfl
    rw [Try.c54] at g0
    rw [Try.c97] at g1
    simp only [List.map_cons, List.map_nil, Rows.uptoBulk, Rows.uptoBulkAll] at hb ⊢
    obtain ⟨v0, l0, e0, r0, b0⟩ := openB_strs g0 (by omega)
    obtain ⟨v1, l1, e1, r1, b1⟩ := openB_ints g1 (by omega)
    obtain rfl := one_eq e0
    obtain rfl := one_eq e1
    refine ⟨⟨l0, l1⟩, ⟨_, _, rfl, r0, r1⟩, ?_⟩
    unfold bFact
    rw [List.length_append]
    simp only
    omega
set_option maxRecDepth 100000 in
theorem openB_thing (fuel : Nat) (cs : List Value) (x : DataW H × List MemPlace) (hl : cs.length = 7) (h : DataW.trod enc Try.prog W 0 (fun _ => true) true fuel 58 cs = some x) (hb : Rows.uptoBulk x.1 ≤ 1048576) : ∃ y, thingE2 (fun k => k < W.heap.size) W y cs ∧ 0 ≤ 16 * Rows.uptoBulk x.1 := by
  obtain ⟨xs, n, _, rfl, hlen, hxl, hg⟩ := DataW.trod_struct Try.underlying58 h
  obtain ⟨a, b, c, d, e, f, g, rfl⟩ := len7 hl
  have hx3 : xs.length = 7 := hxl
  match xs, hx3 with
  | [x0, x1, x2, x3, x4, x5, x6], _ =>
    have g0 : DataW.trod enc Try.prog W 0 (fun _ => true) true n 3 (([a, b, c, d, e, f, g].drop 0).take (Try.prog.cellsOf 3)) = some x0 := hg 0 _ rfl
    have g1 : DataW.trod enc Try.prog W 0 (fun _ => true) true n 2 (([a, b, c, d, e, f, g].drop 1).take (Try.prog.cellsOf 2)) = some x1 := hg 1 _ rfl
    have g2 : DataW.trod enc Try.prog W 0 (fun _ => true) true n 9 (([a, b, c, d, e, f, g].drop 2).take (Try.prog.cellsOf 9)) = some x2 := hg 2 _ rfl
    have g3 : DataW.trod enc Try.prog W 0 (fun _ => true) true n 54 (([a, b, c, d, e, f, g].drop 3).take (Try.prog.cellsOf 54)) = some x3 := hg 3 _ rfl
    have g4 : DataW.trod enc Try.prog W 0 (fun _ => true) true n 55 (([a, b, c, d, e, f, g].drop 4).take (Try.prog.cellsOf 55)) = some x4 := hg 4 _ rfl
    have g5 : DataW.trod enc Try.prog W 0 (fun _ => true) true n 56 (([a, b, c, d, e, f, g].drop 5).take (Try.prog.cellsOf 56)) = some x5 := hg 5 _ rfl
    have g6 : DataW.trod enc Try.prog W 0 (fun _ => true) true n 54 (([a, b, c, d, e, f, g].drop 6).take (Try.prog.cellsOf 54)) = some x6 := hg 6 _ rfl
    rw [Try.c3] at g0
    rw [Try.c2] at g1
    rw [Try.c9] at g2
    rw [Try.c54] at g3 g6
    rw [Try.c55] at g4
    rw [Try.c56] at g5
    simp only [List.map_cons, List.map_nil, Rows.uptoBulk, Rows.uptoBulkAll] at hb
    obtain ⟨n0, e0, _, w0⟩ := DataW.trod_int Try.underlying3 g0
    obtain ⟨n1, e1, _, w1⟩ := DataW.trod_int Try.underlying2 g1
    obtain ⟨s, e2, rfl, w2⟩ := DataW.trod_string Try.underlying9 g2
    simp only [Rows.uptoBulk] at hb
    obtain ⟨v3, l3, e3, r3, b3⟩ := openB_strs g3 (by omega)
    obtain ⟨v4, l4, e4, r4, q4, b4⟩ := open_rowB cellE (fun c => (bCell c).length) 55 93 3 Try.underlying55 Try.c93 (by omega) openB_cell g4 (by omega)
    obtain ⟨v5, l5, e5, r5, _, b5⟩ := open_rowB (factE (fun k => k < W.heap.size) W) (fun f => (bFact f).length) 56 99 2 Try.underlying56 Try.c99 (by omega) openB_fact g5 (by omega)
    obtain ⟨v6, l6, e6, r6, b6⟩ := openB_strs g6 (by omega)
    rw [← row_bytes] at b4 b5
    obtain rfl := one_eq e0
    obtain rfl := one_eq e1
    obtain rfl := one_eq e2
    obtain rfl := one_eq e3
    obtain rfl := one_eq e4
    obtain rfl := one_eq e5
    obtain rfl := one_eq e6
    have hfit := things_fit (t := ⟨n0, n1, s.data.toList, l3, l4, l5, l6⟩) (by rw [bText_len]; simp only; omega) (by simp only; omega) (by simp only; omega) (by simp only; omega) (by simp only; omega)
    exact ⟨⟨n0, n1, s.data.toList, l3, l4, l5, l6⟩, ⟨⟨_, _, _, _, rfl, wf_i64_bd w0, wf_i64_bd w1, (Array.length_toList (xs := s.data)).symm ▸ w2, r3, r4, r5, r6⟩, hfit.1, hfit.2, fun A n c e => q4 A n c (by simpa using e)⟩, by omega⟩
set_option maxRecDepth 100000 in
theorem openB_things {v : Value} {d : DataW H} {ps : List MemPlace} (hval : Value.okWide Try.prog W .any 0 49 v) (h : DataW.Trod enc Try.prog W 0 (fun _ => true) true 49 v d ps) (hb : Rows.uptoBulk d ≤ 1048576) :
    ∃ A n c ts, v = .slice A n c ∧ List.length ts = n ∧ n ≤ maxLen ∧ RowE (fun k => k < W.heap.size) W 7 (thingE2 (fun k => k < W.heap.size) W) (.slice A n c) ts := by
  obtain ⟨a0, len, cap, rfl⟩ := okWide_slice Try.underlying49 hval
  obtain ⟨fuel, hf⟩ := h
  obtain ⟨v', ts, e1, hr, _, _⟩ := open_rowB _ (fun _ => 0) 49 58 7 Try.underlying49 Try.c58 (by omega) openB_thing hf hb
  have e2 : v' = .slice a0 len cap := by simpa [Value.cells] using e1.symm
  subst e2
  obtain ⟨A, c, e3, hm, r⟩ := hr
  injection e3 with e4 e5 e6
  subst e4; subst e5; subst e6
  exact ⟨_, _, _, ts, rfl, rfl, hm, _, _, rfl, hm, r⟩
end
end Go.Proofs.Ytcncnponhhcjhaa
