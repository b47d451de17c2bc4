/- A script as an argument: opened, with what its texts weigh. -/
import Derived.Test.YtlglfcadoofmpaaC9
import Derived.Test.YtlglfcadoofmpaaRA
namespace Go.Proofs.Ytlglfcadoofmpaa
open Go.RowKit Go.ChangeShapes Go.WideShapes Go.ChangeAt
set_option linter.unusedVariables false

theorem oa_c32 : Try.prog.cellsOf 32 = 4 := by set_option maxRecDepth 100000 in kernel_rfl
theorem list4 {cs : List Value} (h : cs.length = 4) : ∃ a b c d, cs = [a, b, c, d] := by
  match cs, h with
  | [a, b, c, d], _ => exact ⟨a, b, c, d, rfl⟩
theorem oa_cell {cs : List Value} {j : Nat} {v : Value} (h : (cs.drop j).take 1 = [v]) : cs[j]? = some v := by
  have h1 : ((cs.drop j).take 1)[0]? = some v := by rw [h]; rfl
  rw [List.getElem?_take, if_pos (by omega), List.getElem?_drop] at h1
  simpa using h1
theorem mem_weightsAll {H : Type} {P : Program} {e : TypeId} : ∀ {l : List (DataW H)} {d : DataW H}, d ∈ l → ∀ n ∈ d.weights P e, n ∈ DataW.weightsAll P e l
  | [], _, h, _, _ => by cases h
  | x :: l, d, h, n, hn => by
    rw [DataW.weightsAll, List.mem_append]
    rcases List.mem_cons.1 h with rfl | h
    · exact .inl hn
    · exact .inr (mem_weightsAll h n hn)
section
variable {H : Type} {enc : TypeId × Value → H} {W : World}
set_option maxRecDepth 100000 in
theorem oa_op (fuel : Nat) (cs : List Value) (x : DataW H × List MemPlace) (hl : cs.length = 4) (h : DataW.trod enc Try.prog W 0 (fun _ => true) true fuel 32 cs = some x) (hsz : ∀ n ∈ x.1.weights Try.prog 32, n ≤ reachBytes) :
    ∃ o : OpP, (∀ j, j < 4 → cs[j]? = o.v j) ∧ o.a.length ≤ 140737488355328 ∧ o.b.length ≤ 140737488355328 := by
  obtain ⟨xs, n, _, hx, hlen, hxl, hg⟩ := DataW.trod_struct Try.underlying32 h
  have hx4 : xs.length = 4 := hxl
  match xs, hx4 with
  | [x0, x1, x2, x3], _ =>
    have g0 : DataW.trod enc Try.prog W 0 (fun _ => true) true n 3 ((cs.drop 0).take (Try.prog.cellsOf 3)) = some x0 := hg 0 _ rfl
    have g1 : DataW.trod enc Try.prog W 0 (fun _ => true) true n 3 ((cs.drop 1).take (Try.prog.cellsOf 3)) = some x1 := hg 1 _ rfl
    have g2 : DataW.trod enc Try.prog W 0 (fun _ => true) true n 9 ((cs.drop 2).take (Try.prog.cellsOf 9)) = some x2 := hg 2 _ rfl
    have g3 : DataW.trod enc Try.prog W 0 (fun _ => true) true n 9 ((cs.drop 3).take (Try.prog.cellsOf 9)) = some x3 := hg 3 _ rfl
    rw [ra_c3] at g0 g1
    rw [ra_c9] at g2 g3
    obtain ⟨n0, e0, r0, w0⟩ := DataW.trod_int Try.underlying3 g0
    obtain ⟨n1, e1, r1, w1⟩ := DataW.trod_int Try.underlying3 g1
    obtain ⟨s2, e2, r2, w2⟩ := DataW.trod_string Try.underlying9 g2
    obtain ⟨s3, e3, r3, w3⟩ := DataW.trod_string Try.underlying9 g3
    have hs : ∀ m ∈ DataW.weightsEach Try.prog [3, 3, 9, 9] [x0.1, x1.1, x2.1, x3.1], m ≤ reachBytes := by
      intro m hm
      refine hsz m ?_
      rw [hx, DataW.weights, Try.underlying32]
      exact hm
    have b2 : s2.data.toList.length ≤ reachBytes := hs _ (DataW.weights_mem_each (j := 2) (t := 9) (d := x2.1) rfl rfl _ (by rw [r2, DataW.weights]; simp))
    have b3 : s3.data.toList.length ≤ reachBytes := hs _ (DataW.weights_mem_each (j := 3) (t := 9) (d := x3.1) rfl rfl _ (by rw [r3, DataW.weights]; simp))
    refine ⟨⟨n0, n1, s2.data.toList, s3.data.toList⟩, fun j hj => ?_, Nat.le_trans b2 (by decide), Nat.le_trans b3 (by decide)⟩
    have q0 := oa_cell e0
    have q1 := oa_cell e1
    have q2 := oa_cell e2
    have q3 := oa_cell e3
    rcases j with _ | _ | _ | _ | j
    · exact q0
    · exact q1
    · exact q2
    · exact q3
    · omega
set_option maxRecDepth 100000 in
/-- An argument []Op. -/
theorem open_ops {v : Value} {d : DataW H} {ps : List MemPlace} (hval : Value.okWide Try.prog W .any 0 22 v) (h : DataW.Trod enc Try.prog W 0 (fun _ => true) true 22 v d ps) (hsz : ∀ n ∈ d.weights Try.prog 22, n ≤ reachBytes) :
    ∃ l : List OpP, OAt W.heap.size W v l := by
  obtain ⟨a0, len0, cap0, rfl⟩ := okWide_slice Try.underlying22 hval
  obtain ⟨fuel, hf⟩ := h
  rcases Go.Deep.open_slice Try.underlying22 hf with ⟨e, _⟩ | ⟨a, len, cap, m, n, D, Pl, e, hb, hl, hm, hmm, hx, hi⟩
  · have e : Value.slice a0 len0 cap0 = .slice none 0 0 := by simpa [Value.cells] using e
    rw [e]
    exact ⟨[], by simp, fun o ho => (by cases ho), none, 0, rfl, fun h => absurd h (by simp)⟩
  · have e : Value.slice a0 len0 cap0 = .slice (some a) len cap := by simpa [Value.cells] using e
    rw [e]
    simp only [if_true] at hmm
    rw [oa_c32] at hi
    have hd : d = .slice ((List.range len).map D) ((List.range (m - len)).map fun j => D (len + j)) := congrArg Prod.fst hx
    have hw : ∀ i, i < len → ∀ q ∈ (D i).weights Try.prog 32, q ≤ reachBytes := by
      intro i hil q hq
      refine hsz q ?_
      rw [hd, DataW.weights, Try.underlying22]
      refine List.mem_cons_of_mem _ (List.mem_append_left _ (mem_weightsAll (List.mem_map.2 ⟨i, by simpa using hil, rfl⟩) q hq))
    have hel : ∀ i, ∃ o : OpP, i < len → (∀ j, j < 4 → W.cell? ((a.add (i * 4)).add j) = o.v j) ∧ o.a.length ≤ 140737488355328 ∧ o.b.length ≤ 140737488355328 := by
      intro i
      by_cases hil : i < len
      · obtain ⟨cs', hc, htr⟩ := hi i (by omega)
        obtain ⟨_, hlen, hat⟩ := World.cells?_some hc
        obtain ⟨o, ho, h2, h3⟩ := oa_op _ _ _ hlen htr (hw i hil)
        exact ⟨o, fun _ => ⟨fun j hj => (hat j (by omega)).trans (ho j hj), h2, h3⟩⟩
      · exact ⟨default, fun h => absurd h hil⟩
    obtain ⟨f, hf⟩ := Classical.axiomOfChoice hel
    refine ⟨(List.range len).map f, by simp; unfold maxLen at hm; omega, fun o ho => ?_, some a, cap, by simp, fun hl0 => ?_⟩
    · obtain ⟨i, hi', rfl⟩ := List.mem_map.1 ho
      exact (hf i (by simpa using hi')).2
    · have hlen0 : 0 < len := by simpa using hl0
      have hc00 := (hf 0 hlen0).1 0 (by omega)
      obtain ⟨b, off, spot⟩ := a
      have hspot : spot = none := by
        have : ∃ u, (f 0).v 0 = some u := ⟨_, rfl⟩
        obtain ⟨u, hu⟩ := this
        rw [hu] at hc00
        simpa [Addr.add] using World.cell?_spot hc00
      subst hspot
      refine ⟨b, off, rfl, ?_, fun i o hio j hj => ?_⟩
      · obtain ⟨u, hu⟩ : ∃ u, (f 0).v 0 = some u := ⟨_, rfl⟩
        rw [hu] at hc00
        have := World.block_lt_of_cell? W _ hc00
        simpa [Addr.add] using this
      · obtain ⟨h1, h2⟩ := List.getElem?_eq_some_iff.1 hio
        rw [List.length_map, List.length_range] at h1
        rw [List.getElem_map, List.getElem_range] at h2
        have := (hf i h1).1 j hj
        rw [Addr.add_lit, Addr.add_lit, h2] at this
        exact this
end
end Go.Proofs.Ytlglfcadoofmpaa
