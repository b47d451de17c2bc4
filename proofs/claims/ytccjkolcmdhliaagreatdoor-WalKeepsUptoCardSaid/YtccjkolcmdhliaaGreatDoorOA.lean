/- A script as an argument, with what it weighs: opened. -/
import Derived.Test.YtccjkolcmdhliaaGreatDoorRA
import Derived.Test.YtccjkolcmdhliaaGreatDoorM8
import Derived.Deep.Slices
import Derived.Deep.Fields
namespace Go.Proofs.YtccjkolcmdhliaaGreatDoor
open Go.RowKit Go.ChangeShapes Go.WideShapes Go.ChangeAt Go.Deep
set_option linter.unusedVariables false

theorem oa_c36 : Tryz.prog.cellsOf 36 = 5 := by set_option maxRecDepth 100000 in kernel_rfl
theorem oa_c3 : Tryz.prog.cellsOf 3 = 1 := by set_option maxRecDepth 100000 in kernel_rfl
theorem oa_c34 : Tryz.prog.cellsOf 34 = 1 := by set_option maxRecDepth 100000 in kernel_rfl
instance : Inhabited OpK := ⟨⟨0, 0, 0, [], .slice none 0 0, []⟩⟩
section
variable {H : Type} {enc : TypeId × Value → H}
theorem oa_wf {n : Int} (h : (Lit.int .i64 n).wf = true) : -9223372036854775808 ≤ n ∧ n ≤ 9223372036854775807 := by
  simp only [Lit.wf, Bool.and_eq_true, decide_eq_true_eq] at h
  simp [IntKind.min, IntKind.max, IntKind.signed, IntKind.bits] at h
  omega
theorem oa_cell {cs : List Value} {j : Nat} {v : Value} (h : (cs.drop j).take 1 = [v]) : cs[j]? = some v := by
  have h1 : ((cs.drop j).take 1)[0]? = some v := by rw [h]; rfl
  rw [List.getElem?_take, if_pos (by omega), List.getElem?_drop] at h1
  simpa using h1
theorem oa_picks {W : World} {fuel : Nat} {cs : List Value} {x : DataW H × List MemPlace} (h : DataW.trod enc Tryz.prog W 0 (fun _ => true) true fuel 34 cs = some x) :
    ∃ A n c g zs, cs = [.slice A n c] ∧ PicksAt W g A n c zs := by
  rcases open_ints Tryz.underlying34 Tryz.underlying3 oa_c3 h with ⟨hcs, hx⟩ | ⟨a, len', cap', zs, hcs, _, hl, hm, hz, hx, hcell, hwz⟩
  · exact ⟨_, _, _, 0, [], hcs, PicksAt.nil (by omega)⟩
  · simp only [if_true] at hz
    refine ⟨_, _, _, a.block, zs.take len', hcs, ⟨by rw [List.length_take]; omega, ⟨hl, by unfold maxLen at hm; omega⟩, fun p hp => oa_wf (hwz p (List.mem_of_mem_take hp)), fun hn => ?_⟩⟩
    obtain ⟨b, off, spot⟩ := a
    have hspot : spot = none := by simpa [Addr.add] using World.cell?_spot (hcell 0 (by omega))
    subst hspot
    refine ⟨off, rfl, fun j hj => ?_⟩
    rw [List.length_take] at hj
    have hc := hcell j (by omega)
    have add : ((⟨b, off, none⟩ : Addr).add j) = ⟨b, off + j, none⟩ := by unfold Addr.add; split <;> simp_all
    rw [add] at hc
    rw [hc, List.getElem_take]
    simp [List.getD, List.getElem?_eq_getElem (show j < zs.length by omega)]
set_option maxRecDepth 100000 in
theorem oa_op {W : World} (fuel : Nat) (cs : List Value) (x : DataW H × List MemPlace) (hl : cs.length = 5) (h : DataW.trod enc Tryz.prog W 0 (fun _ => true) true fuel 36 cs = some x) :
    ∃ o : OpK, opE W o cs ∧ o.data.length ≤ Rows.uptoBulk x.1 := by
  obtain ⟨xs, n, _, hx, hlen, hxl, hg⟩ := DataW.trod_struct Tryz.underlying36 h
  have hx4 : xs.length = 5 := hxl
  match xs, hx4 with
  | [x0, x1, x2, x3, x4], _ =>
    have g0 : DataW.trod enc Tryz.prog W 0 (fun _ => true) true n 3 ((cs.drop 0).take (Tryz.prog.cellsOf 3)) = some x0 := hg 0 _ rfl
    have g1 : DataW.trod enc Tryz.prog W 0 (fun _ => true) true n 3 ((cs.drop 1).take (Tryz.prog.cellsOf 3)) = some x1 := hg 1 _ rfl
    have g2 : DataW.trod enc Tryz.prog W 0 (fun _ => true) true n 3 ((cs.drop 2).take (Tryz.prog.cellsOf 3)) = some x2 := hg 2 _ rfl
    have g3 : DataW.trod enc Tryz.prog W 0 (fun _ => true) true n 9 ((cs.drop 3).take (Tryz.prog.cellsOf 9)) = some x3 := hg 3 _ rfl
    have g4 : DataW.trod enc Tryz.prog W 0 (fun _ => true) true n 34 ((cs.drop 4).take (Tryz.prog.cellsOf 34)) = some x4 := hg 4 _ rfl
    rw [oa_c3] at g0 g1 g2
    rw [ra_c9] at g3
    rw [oa_c34] at g4
    obtain ⟨n0, e0, r0, w0⟩ := DataW.trod_int Tryz.underlying3 g0
    obtain ⟨n1, e1, r1, w1⟩ := DataW.trod_int Tryz.underlying3 g1
    obtain ⟨n2, e2, r2, w2⟩ := DataW.trod_int Tryz.underlying3 g2
    obtain ⟨s, e3, r3, w3⟩ := DataW.trod_string Tryz.underlying9 g3
    obtain ⟨A, k, c, g, zs, e4, hp⟩ := oa_picks g4
    refine ⟨⟨n0, n1, n2, s.data.toList, .slice A k c, zs⟩, ⟨?_, oa_wf w0, oa_wf w1, oa_wf w2, A, k, c, g, rfl, hp⟩, ?_⟩
    · match cs, hl with
      | [a0, a1, a2, a3, a4], _ =>
        have q0 := oa_cell e0
        have q1 := oa_cell e1
        have q2 := oa_cell e2
        have q3 := oa_cell e3
        have q4 := oa_cell e4
        simp only [List.getElem?_cons_zero, List.getElem?_cons_succ, Option.some.injEq] at q0 q1 q2 q3 q4
        subst q0 q1 q2 q3 q4
        rfl
    · rw [hx]
      simp only [Rows.uptoBulk, Rows.uptoBulkAll, List.map_cons, List.map_nil]
      have : s.data.toList.length ≤ Rows.uptoBulk x3.1 := by
        rw [r3]
        simp only [Rows.uptoBulk]
        simp
      omega
variable {W : World}
set_option maxRecDepth 100000 in
/-- An argument []Op, and what it weighs. -/
theorem open_opsA {v : Value} {d : DataW H} {ps : List MemPlace} (hval : Value.okWide Tryz.prog W .any 0 22 v) (h : DataW.Trod enc Tryz.prog W 0 (fun _ => true) true 22 v d ps) :
    ∃ l, RowE (fun k => k < W.heap.size) W 5 (opE W) v l ∧ (l.map fun o => o.data.length).sum ≤ Rows.uptoBulk d := by
  obtain ⟨a0, len, cap, rfl⟩ := okWide_slice Tryz.underlying22 hval
  obtain ⟨fuel, hf⟩ := h
  obtain ⟨v', l, e1, hr, hw⟩ := open_rowB (opE W) (fun o => o.data.length) 22 36 5 Tryz.underlying22 oa_c36 (by omega) oa_op hf
  have e2 : v' = .slice a0 len cap := by simpa [Value.cells] using e1.symm
  subst e2
  exact ⟨l, hr, hw⟩
end
end Go.Proofs.YtccjkolcmdhliaaGreatDoor
