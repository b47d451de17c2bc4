/- An argument that is a row of pairs. -/
import Derived.Test.YtgjpdagbbljmpaaRK
import Derived.OpenShut
namespace Go.Proofs.Ytgjpdagbbljmpaa
open Go.RowKit Go.Maps Go.Sort
open Go.RowKit Go.ChangeShapes Go.WideShapes Go.ChangeAt
set_option linter.unusedVariables false

def pairG (_ : Nat → Prop) (_ : World) (x : Int × Int) (cs : List Value) : Prop := cs = [.int .i64 x.1, .int .i64 x.2] ∧ i64 x.1 ∧ i64 x.2
theorem pairG_elem : Elem pairG := ⟨fun _ _ _ _ _ _ h _ => h⟩
theorem row_pair {K : Nat → Prop} {w : World} {v : Value} {l : List (Int × Int)} (h : RowE K w 2 (pairG K w) v l) : ∃ A c, v = .slice A l.length c ∧ l.length ≤ c ∧ c ≤ maxLen ∧ (∀ x ∈ l, i64 x.1 ∧ i64 x.2) ∧
    ∀ j (hj : j < l.length), ∃ g off, A = some ⟨g, off, none⟩ ∧ g < w.heap.size ∧ w.cell? ⟨g, off + j * 2, none⟩ = some (.int .i64 l[j].1) ∧ w.cell? ⟨g, off + j * 2 + 1, none⟩ = some (.int .i64 l[j].2) := by
  obtain ⟨A, c, rfl, h1, h2, h3⟩ := h
  refine ⟨A, c, rfl, h1, h2, fun x hx => ?_, fun j hj => ?_⟩
  · obtain ⟨j, hj, rfl⟩ := List.getElem_of_mem hx
    obtain ⟨g, off, -, -, -, h4⟩ := h3 (by omega)
    obtain ⟨cs, -, -, -, h5⟩ := h4 j hj
    exact h5
  · obtain ⟨g, off, rfl, -, hg, h4⟩ := h3 (by omega)
    obtain ⟨cs, hl, hc, e, -, -⟩ := h4 j hj
    subst e
    exact ⟨g, off, rfl, hg, hc 0 (by decide), hc 1 (by decide)⟩
section
variable {H : Type} {enc : TypeId × Value → H} {W : World}
theorem und54 : Try.prog.underlying 54 = some (.array 2 2) := by kernel_rfl
theorem und51 : Try.prog.underlying 51 = some (.slice 54) := by kernel_rfl
theorem c54 : Try.prog.cellsOf 54 = 2 := by kernel_rfl
theorem open_pair (fuel : Nat) (cs : List Value) (x : DataW H × List MemPlace) (hl : cs.length = 2) (h : DataW.trod enc Try.prog W 0 (fun _ => true) true fuel 54 cs = some x) : ∃ y, pairG (Lt W) W y cs := by
  obtain ⟨xs, n, _, rfl, hlen, hxl, hg⟩ := DataW.trod_array und54 h
  obtain ⟨a, b, rfl⟩ := len2 hl
  match xs, hxl with
  | [x0, x1], _ =>
    have g0 : DataW.trod enc Try.prog W 0 (fun _ => true) true n 2 (([a, b].drop (0 * Try.prog.cellsOf 2)).take (Try.prog.cellsOf 2)) = some x0 := hg 0 (by decide)
    have g1 : DataW.trod enc Try.prog W 0 (fun _ => true) true n 2 (([a, b].drop (1 * Try.prog.cellsOf 2)).take (Try.prog.cellsOf 2)) = some x1 := hg 1 (by decide)
    rw [Try.c2] at g0 g1
    obtain ⟨n0, e0, r0, w0⟩ := DataW.trod_int Try.underlying2 g0
    obtain ⟨n1, e1, r1, w1⟩ := DataW.trod_int Try.underlying2 g1
    obtain rfl := one_eq e0
    obtain rfl := one_eq e1
    exact ⟨(n0, n1), rfl, wf_i64_bd w0, wf_i64_bd w1⟩
theorem arg_pairs {b0 : Nat} {v : Value} {d : DataW H} {ps : List MemPlace} (hval : Value.okWide Try.prog W .any b0 51 v) (h : DataW.Trod enc Try.prog W 0 (fun _ => true) true 51 v d ps) : ∃ l, RowE (Lt W) W 2 (pairG (Lt W) W) v l := by
  obtain ⟨fuel, hf⟩ := arg_slice und51 hval h
  obtain ⟨v', l, e, hr, -⟩ := open_row (pairG (Lt W) W) 51 54 2 und51 c54 (by decide) open_pair hf
  obtain rfl := one_eq e
  exact ⟨l, hr⟩
end
end Go.Proofs.Ytgjpdagbbljmpaa
