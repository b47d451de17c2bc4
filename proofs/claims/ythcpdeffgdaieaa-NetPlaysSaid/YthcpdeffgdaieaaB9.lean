/- A script, as an argument: opened. -/
import Derived.Test.YthcpdeffgdaieaaB6
import Derived.Test.YthcpdeffgdaieaaB7
import Derived.Deep.Slices
import Derived.Deep.Fields
namespace Go.Proofs.Ythcpdeffgdaieaa
open Go.RowKit Go.ChangeShapes Go.WideShapes Go.ChangeAt
set_option linter.unusedVariables false

theorem Try.c32 : Try.prog.cellsOf 32 = 5 := by set_option maxRecDepth 100000 in kernel_rfl
theorem Try.c3 : Try.prog.cellsOf 3 = 1 := by set_option maxRecDepth 100000 in kernel_rfl
theorem Try.c9 : Try.prog.cellsOf 9 = 1 := by set_option maxRecDepth 100000 in kernel_rfl
theorem bytes32 : Try.prog.bytesOf 32 = 48 := by set_option maxRecDepth 100000 in kernel_rfl

section
variable {H : Type} {enc : TypeId × Value → H}

theorem weightsAll_mem {P : Program} {e : TypeId} : ∀ (ds : List (DataW H)) (d : DataW H) (n : Nat), d ∈ ds → n ∈ d.weights P e → n ∈ DataW.weightsAll P e ds
  | [], d, n, h, _ => by cases h
  | x :: ds, d, n, h, hn => by
    rw [DataW.weightsAll]
    rcases List.mem_cons.1 h with rfl | h
    · exact List.mem_append_left _ hn
    · exact List.mem_append_right _ (weightsAll_mem ds d n h hn)

theorem sized_arg {ts : List TypeId} {ds : List (DataW H)} (h : (DataW.weightsEach Try.prog ts ds).all (· ≤ reachBytes) = true) {j : Nat} {t : TypeId} {d : DataW H} (ht : ts[j]? = some t) (hd : ds[j]? = some d) : ∀ n ∈ d.weights Try.prog t, n ≤ reachBytes := fun n hn => by
  have := List.all_eq_true.1 h _ (DataW.weights_mem_each ht hd n hn)
  simpa using this

theorem cell_at {cs : List Value} {j : Nat} {v : Value} (h : (cs.drop j).take 1 = [v]) : cs[j]? = some v := by
  have h1 : ((cs.drop j).take 1)[0]? = some v := by rw [h]; rfl
  rw [List.getElem?_take, if_pos (by omega), List.getElem?_drop] at h1
  simpa using h1

/-- One element of a script. -/
theorem open_op {W : World} {fuel : Nat} {cs : List Value} {d : DataW H} {ps : List MemPlace} (h : DataW.trod enc Try.prog W 0 (fun _ => true) true fuel 32 cs = some (d, ps)) :
    ∃ (o : OpV) (y0 y1 y2 y3 : DataW H), (∀ i, i < 5 → cs[i]? = o.cells[i]?) ∧ d = .agg [y0, y1, y2, y3, .lit (.string o.data)] ∧ i64 o.kind ∧ i64 o.conn ∧ i64 o.side ∧ i64 o.many ∧ o.data.length ≤ maxLen := by
  obtain ⟨xs, n, _, hx, hlen, hxl, hg⟩ := DataW.trod_struct Try.underlying32 h
  have hx4 : xs.length = 5 := hxl
  match xs, hx4 with
  | [x0, x1, x2, x3, x4], _ =>
    have g0 : DataW.trod enc Try.prog W 0 (fun _ => true) true n 3 ((cs.drop 0).take (Try.prog.cellsOf 3)) = some x0 := hg 0 _ rfl
    have g1 : DataW.trod enc Try.prog W 0 (fun _ => true) true n 3 ((cs.drop 1).take (Try.prog.cellsOf 3)) = some x1 := hg 1 _ rfl
    have g2 : DataW.trod enc Try.prog W 0 (fun _ => true) true n 3 ((cs.drop 2).take (Try.prog.cellsOf 3)) = some x2 := hg 2 _ rfl
    have g3 : DataW.trod enc Try.prog W 0 (fun _ => true) true n 3 ((cs.drop 3).take (Try.prog.cellsOf 3)) = some x3 := hg 3 _ rfl
    have g4 : DataW.trod enc Try.prog W 0 (fun _ => true) true n 9 ((cs.drop 4).take (Try.prog.cellsOf 9)) = some x4 := hg 4 _ rfl
    rw [Try.c3] at g0 g1 g2 g3
    rw [Try.c9] at g4
    obtain ⟨n0, e0, r0, w0⟩ := DataW.trod_int Try.underlying3 g0
    obtain ⟨n1, e1, r1, w1⟩ := DataW.trod_int Try.underlying3 g1
    obtain ⟨n2, e2, r2, w2⟩ := DataW.trod_int Try.underlying3 g2
    obtain ⟨n3, e3, r3, w3⟩ := DataW.trod_int Try.underlying3 g3
    obtain ⟨s, e4, r4, w4⟩ := DataW.trod_string Try.underlying9 g4
    simp only [Prod.mk.injEq] at hx
    refine ⟨⟨n0, n1, n2, n3, s.data.toList⟩, x0.1, x1.1, x2.1, x3.1, fun i hi => ?_, ?_, wf_i64_bd w0, wf_i64_bd w1, wf_i64_bd w2, wf_i64_bd w3, (Array.length_toList (xs := s.data)).symm ▸ w4⟩
    · match i, hi with
      | 0, _ => exact cell_at e0
      | 1, _ => exact cell_at e1
      | 2, _ => exact cell_at e2
      | 3, _ => exact cell_at e3
      | 4, _ => exact cell_at e4
    · rw [hx.1, r4]; rfl

set_option maxRecDepth 100000 in
theorem open_ops {W : World} {v : Value} {d : DataW H} {ps : List MemPlace} (hval : Value.okWide Try.prog W .any 0 22 v) (h : DataW.Trod enc Try.prog W 0 (fun _ => true) true 22 v d ps) (hsz : ∀ n ∈ d.weights Try.prog 22, n ≤ reachBytes) :
    ∃ A n c g os, v = .slice A n c ∧ OpsAt W g A n c os := by
  obtain ⟨a0, len, cap, rfl⟩ := okWide_slice Try.underlying22 hval
  obtain ⟨fuel, hf⟩ := h
  have h2 : reachBytes = 140737488351232 := rfl
  rcases Go.Deep.open_slice Try.underlying22 hf with ⟨hcs, hx⟩ | ⟨a, len', cap', m, n, D, Pl, hcs, hb, hl, hm, hmm, hx, hi⟩
  · simp [Value.cells] at hcs
    obtain ⟨rfl, rfl, rfl⟩ := hcs
    exact ⟨_, _, _, 0, [], rfl, ⟨rfl, ⟨Nat.le_refl _, Nat.zero_le _⟩, by simp, fun h => absurd h (by omega), fun h => absurd h (by omega)⟩⟩
  · simp [Value.cells] at hcs
    obtain ⟨rfl, rfl, rfl⟩ := hcs
    simp only [if_true] at hmm
    simp only [Prod.mk.injEq] at hx
    obtain ⟨rfl, _⟩ := hx
    have hcap : cap * 48 ≤ 140737488351232 := by
      have := hsz ((((List.range len).map D).length + ((List.range (m - len)).map fun j => D (len + j)).length) * Try.prog.bytesOf 32) (by
        rw [DataW.weights, Try.underlying22]
        exact List.mem_cons_self)
      rw [bytes32, h2] at this
      simp only [List.length_map, List.length_range] at this
      omega
    have hel : ∀ i, ∃ o : OpV, i < len → (∀ j, j < 5 → W.cell? (a.add (i * 5 + j)) = o.cells[j]?) ∧ o.Ok := by
      intro i
      by_cases hil : i < len
      · obtain ⟨cs', hc, ht⟩ := hi i (by omega)
        rw [Try.c32] at hc
        obtain ⟨o, y0, y1, y2, y3, hcells, hd, b0, b1, b2, b3, b4⟩ := open_op ht
        obtain ⟨_, _, hat⟩ := World.cells?_some hc
        refine ⟨o, fun _ => ⟨fun j hj => ?_, ⟨b0, b1, b2, b3, ?_⟩⟩⟩
        · rw [← Go.Deep.add_add, hat j hj, hcells j hj]
        · have hmem : D i ∈ (List.range len).map D := List.mem_map.2 ⟨i, List.mem_range.2 hil, rfl⟩
          have hw : o.data.length ∈ (D i).weights Try.prog 32 := by
            rw [hd, DataW.weights, Try.underlying32]
            exact DataW.weights_mem_each (j := 4) (t := 9) (d := .lit (.string o.data)) rfl rfl _ (by rw [DataW.weights]; simp)
          have := hsz o.data.length (by
            rw [DataW.weights, Try.underlying22]
            exact List.mem_cons_of_mem _ (List.mem_append_left _ (weightsAll_mem _ _ _ hmem hw)))
          omega
      · exact ⟨⟨0, 0, 0, 0, []⟩, fun h => absurd h hil⟩
    obtain ⟨f, hf'⟩ := Classical.axiomOfChoice hel
    refine ⟨_, _, _, a.block, (List.range len).map f, rfl, ⟨by simp, ⟨hl, by omega⟩, fun o ho => ?_, fun hn => ?_, fun hn => ?_⟩⟩
    · obtain ⟨i, hi', rfl⟩ := List.mem_map.1 ho
      exact (hf' i (List.mem_range.1 hi')).2
    · have := (hf' 0 hn).1 0 (by omega)
      simp only [Addr.add, Nat.zero_mul, Nat.add_zero, if_true] at this
      exact World.block_lt_of_cell? W _ this
    · obtain ⟨b, off, spot⟩ := a
      have hspot : spot = none := by
        have := (hf' 0 hn).1 0 (by omega)
        simpa [Addr.add] using World.cell?_spot this
      subst hspot
      refine ⟨off, rfl, fun j hj i hi' => ?_⟩
      rw [List.length_map, List.length_range] at hj
      have := (hf' j hj).1 i hi'
      rw [Addr.add_lit] at this
      rw [this, List.getElem_map, List.getElem_range]

end
end Go.Proofs.Ythcpdeffgdaieaa
