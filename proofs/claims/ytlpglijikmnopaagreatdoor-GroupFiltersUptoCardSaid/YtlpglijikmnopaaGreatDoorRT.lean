/- Tests, bound queries and what is asked as arguments: opened. -/
import Derived.Test.YtlpglijikmnopaaGreatDoorRK
import Derived.Test.YtlpglijikmnopaaGreatDoorM6
namespace Go.Proofs.YtlpglijikmnopaaGreatDoor
open Go.RowKit Go.ChangeShapes Go.WideShapes Go.ChangeAt
set_option linter.unusedVariables false

theorem c3 : Tryz.prog.cellsOf 3 = 1 := by set_option maxRecDepth 100000 in kernel_rfl
theorem c4 : Tryz.prog.cellsOf 4 = 1 := by set_option maxRecDepth 100000 in kernel_rfl
theorem c23 : Tryz.prog.cellsOf 23 = 1 := by set_option maxRecDepth 100000 in kernel_rfl
theorem c25 : Tryz.prog.cellsOf 25 = 3 := by set_option maxRecDepth 100000 in kernel_rfl
theorem c52 : Tryz.prog.cellsOf 52 = 1 := by set_option maxRecDepth 100000 in kernel_rfl
theorem c53 : Tryz.prog.cellsOf 53 = 1 := by set_option maxRecDepth 100000 in kernel_rfl
theorem c55 : Tryz.prog.cellsOf 55 = 4 := by set_option maxRecDepth 100000 in kernel_rfl
theorem c106 : Tryz.prog.cellsOf 106 = 8 := by set_option maxRecDepth 100000 in kernel_rfl
theorem len4 {cs : List Value} (h : cs.length = 4) : ∃ a b c d, cs = [a, b, c, d] := by
  match cs, h with
  | [a, b, c, d], _ => exact ⟨a, b, c, d, rfl⟩
theorem len8 {cs : List Value} (h : cs.length = 8) : ∃ a b c d e f g i, cs = [a, b, c, d, e, f, g, i] := by
  match cs, h with
  | [a, b, c, d, e, f, g, i], _ => exact ⟨a, b, c, d, e, f, g, i, rfl⟩
section
variable {H : Type} {enc : TypeId × Value → H} {W : World}
def TrD (H : Type) (enc : TypeId × Value → H) (W : World) (fuel : Nat) (t : TypeId) (cs : List Value) (x : DataW H × List MemPlace) : Prop := DataW.trod enc Tryz.prog W 0 (fun _ => true) true fuel t cs = some x
theorem ptr_one (v : Option Addr) : (Value.pointer v).oneCell' = true := rfl
set_option maxRecDepth 100000 in
theorem open_test : ∀ (fuel : Nat) (cs : List Value) (x : DataW H × List MemPlace), TrD H enc W fuel 23 cs x → ∃ v c, cs = [v] ∧ Bd.TsAt (Lo W) W c v := by
  intro fuel
  induction fuel using Nat.strongRecOn with
  | ind fuel ih =>
    intro cs x h
    rcases DataW.trod_pointer Tryz.underlying23 h with ⟨rfl, _⟩ | ⟨a, cs', y, m, hfu, rfl, _, hcells, hy⟩
    · exact ⟨_, .none, rfl, rfl⟩
    · obtain ⟨_, hlen, hat⟩ := World.cells?_some hcells
      rw [c106] at hlen
      obtain ⟨q0, q1, q2, q3, q4, q5, q6, q7, rfl⟩ := len8 hlen
      obtain ⟨xs, n, hfn, hd, hlen2, hxl, hg⟩ := DataW.trod_struct Tryz.underlying106 hy
      have hx8 : xs.length = 8 := hxl
      match xs, hx8 with
      | [x0, x1, x2, x3, x4, x5, x6, x7], _ =>
        have g0 : TrD H enc W n 3 (([q0, q1, q2, q3, q4, q5, q6, q7].drop 0).take (Tryz.prog.cellsOf 3)) x0 := hg 0 _ rfl
        have g1 : TrD H enc W n 23 (([q0, q1, q2, q3, q4, q5, q6, q7].drop 1).take (Tryz.prog.cellsOf 23)) x1 := hg 1 _ rfl
        have g2 : TrD H enc W n 23 (([q0, q1, q2, q3, q4, q5, q6, q7].drop 2).take (Tryz.prog.cellsOf 23)) x2 := hg 2 _ rfl
        have g3 : TrD H enc W n 4 (([q0, q1, q2, q3, q4, q5, q6, q7].drop 3).take (Tryz.prog.cellsOf 4)) x3 := hg 3 _ rfl
        have g4 : TrD H enc W n 3 (([q0, q1, q2, q3, q4, q5, q6, q7].drop 4).take (Tryz.prog.cellsOf 3)) x4 := hg 4 _ rfl
        have g5 : TrD H enc W n 3 (([q0, q1, q2, q3, q4, q5, q6, q7].drop 5).take (Tryz.prog.cellsOf 3)) x5 := hg 5 _ rfl
        have g6 : TrD H enc W n 42 (([q0, q1, q2, q3, q4, q5, q6, q7].drop 6).take (Tryz.prog.cellsOf 42)) x6 := hg 6 _ rfl
        have g7 : TrD H enc W n 61 (([q0, q1, q2, q3, q4, q5, q6, q7].drop 7).take (Tryz.prog.cellsOf 61)) x7 := hg 7 _ rfl
        unfold TrD at g0 g3 g4 g5 g6 g7
        rw [c3] at g0 g4 g5
        rw [c23] at g1 g2
        rw [c4] at g3
        rw [c42] at g6
        rw [c61] at g7
        obtain ⟨k, e0, _, w0⟩ := DataW.trod_int Tryz.underlying3 g0
        obtain ⟨L, l, e1, p1⟩ := ih n (by omega) _ _ g1
        obtain ⟨R, r, e2, p2⟩ := ih n (by omega) _ _ g2
        obtain ⟨b, e3, _⟩ := DataW.trod_bool Tryz.underlying4 g3
        obtain ⟨i, e4, _, w4⟩ := DataW.trod_int Tryz.underlying3 g4
        obtain ⟨o, e5, _, w5⟩ := DataW.trod_int Tryz.underlying3 g5
        obtain ⟨A, ts, e6, p6, _⟩ := open_rowB (strG (Lo W) W) List.length 42 9 1 Tryz.underlying42 c9 (by omega) open_strW g6
        obtain ⟨B, ns, e7, p7, _⟩ := open_rowB (intG (Lo W) W) (fun _ => 0) 61 2 1 Tryz.underlying61 c2 (by omega) open_intW g7
        obtain rfl := one_eq e0
        obtain rfl := one_eq e1
        obtain rfl := one_eq e2
        obtain rfl := one_eq e3
        obtain rfl := one_eq e4
        obtain rfl := one_eq e5
        obtain rfl := one_eq e6
        obtain rfl := one_eq e7
        have h0 := hat 0 (by rw [c106]; decide)
        have h1 := hat 1 (by rw [c106]; decide)
        have h2 := hat 2 (by rw [c106]; decide)
        have h3 := hat 3 (by rw [c106]; decide)
        have h4 := hat 4 (by rw [c106]; decide)
        have h5 := hat 5 (by rw [c106]; decide)
        have h6 := hat 6 (by rw [c106]; decide)
        have h7 := hat 7 (by rw [c106]; decide)
        obtain ⟨gb, off, spot⟩ := a
        have hspot : spot = none := by simpa [Addr.add] using World.cell?_spot h0
        subst hspot
        rw [Addr.add_lit] at h0 h1 h2 h3 h4 h5 h6 h7
        refine ⟨_, .node k l r b i o ts ns, rfl, gb, off, q1, q2, q6, q7, rfl, Go.World.block_lt_of_cell? W _ h0, Go.World.block_lt_of_cell? W _ h0, ?_, ?_, ?_, ?_, ?_, ?_, ?_, ?_, p1, p2, p6, p7, wf_i64_bd w0, wf_i64_bd w4, wf_i64_bd w5⟩
        · exact h0
        · exact h1
        · exact h2
        · exact h3
        · exact h4
        · exact h5
        · exact h6
        · exact h7
set_option maxRecDepth 100000 in
/-- An argument api.Bound: its test. -/
theorem open_boundA {v : Value} {d : DataW H} {ps : List MemPlace} {b0 : Nat} (hval : Value.okWide Tryz.prog W .any b0 55 v) (h : DataW.Trod enc Tryz.prog W 0 (fun _ => true) true 55 v d ps) : ∃ a b c e t, v = .agg #[a, b, c, e] ∧ a.oneCell' = true ∧ b.oneCell' = true ∧ e.oneCell' = true ∧ Bd.TsAt (Lo W) W t c := by
  obtain ⟨cs, rfl, hsz⟩ := okWide_struct Tryz.underlying55 hval
  obtain ⟨fuel, hf⟩ := h
  rw [c55] at hsz
  obtain ⟨csl⟩ := cs
  obtain ⟨a, b, c, e, rfl⟩ := len4 (cs := csl) hsz
  have hf' : TrD H enc W fuel 55 [a, b, c, e] (d, ps) := by unfold TrD; simpa [Value.cells] using hf
  obtain ⟨xs, n, hx, hd, hlen, hxl, hg⟩ := DataW.trod_struct Tryz.underlying55 hf'
  have hx5 : xs.length = 4 := hxl
  match xs, hx5 with
  | [x0, x1, x2, x3], _ =>
    have g0 : TrD H enc W n 52 (([a, b, c, e].drop 0).take (Tryz.prog.cellsOf 52)) x0 := hg 0 _ rfl
    have g1 : TrD H enc W n 42 (([a, b, c, e].drop 1).take (Tryz.prog.cellsOf 42)) x1 := hg 1 _ rfl
    have g2 : TrD H enc W n 23 (([a, b, c, e].drop 2).take (Tryz.prog.cellsOf 23)) x2 := hg 2 _ rfl
    have g3 : TrD H enc W n 53 (([a, b, c, e].drop 3).take (Tryz.prog.cellsOf 53)) x3 := hg 3 _ rfl
    unfold TrD at g0 g1 g3
    rw [c52] at g0
    rw [c42] at g1
    rw [c23] at g2
    rw [c53] at g3
    have e0 : ∃ A n c, a = .slice A n c := by
      rcases Go.Deep.open_slice Tryz.underlying52 g0 with ⟨h, _⟩ | ⟨_, _, _, _, _, _, _, h, _⟩ <;> exact ⟨_, _, _, one_eq h⟩
    have e1 : ∃ A n c, b = .slice A n c := by
      rcases Go.Deep.open_slice Tryz.underlying42 g1 with ⟨h, _⟩ | ⟨_, _, _, _, _, _, _, h, _⟩ <;> exact ⟨_, _, _, one_eq h⟩
    have e3 : ∃ A n c, e = .slice A n c := by
      rcases Go.Deep.open_slice Tryz.underlying53 g3 with ⟨h, _⟩ | ⟨_, _, _, _, _, _, _, h, _⟩ <;> exact ⟨_, _, _, one_eq h⟩
    obtain ⟨_, _, _, rfl⟩ := e0
    obtain ⟨_, _, _, rfl⟩ := e1
    obtain ⟨_, _, _, rfl⟩ := e3
    obtain ⟨v2, t, e2, q2⟩ := open_test _ _ _ g2
    obtain rfl := one_eq e2
    exact ⟨_, _, _, _, t, rfl, rfl, rfl, rfl, q2⟩
set_option maxRecDepth 100000 in
/-- An argument Ask. -/
theorem open_askA {v : Value} {d : DataW H} {ps : List MemPlace} {b0 : Nat} (hval : Value.okWide Tryz.prog W .any b0 25 v) (h : DataW.Trod enc Tryz.prog W 0 (fun _ => true) true 25 v d ps) : ∃ c s m t, v = .agg #[c, .int .i64 s, .int .i64 m] ∧ i64' s ∧ i64' m ∧ Bd.TsAt (Lo W) W t c := by
  obtain ⟨cs, rfl, hsz⟩ := okWide_struct Tryz.underlying25 hval
  obtain ⟨fuel, hf⟩ := h
  rw [c25] at hsz
  obtain ⟨csl⟩ := cs
  obtain ⟨a, b, c, rfl⟩ := len3 (cs := csl) hsz
  have hf' : TrD H enc W fuel 25 [a, b, c] (d, ps) := by unfold TrD; simpa [Value.cells] using hf
  obtain ⟨xs, n, hx, hd, hlen, hxl, hg⟩ := DataW.trod_struct Tryz.underlying25 hf'
  have hx5 : xs.length = 3 := hxl
  match xs, hx5 with
  | [x0, x1, x2], _ =>
    have g0 : TrD H enc W n 23 (([a, b, c].drop 0).take (Tryz.prog.cellsOf 23)) x0 := hg 0 _ rfl
    have g1 : TrD H enc W n 3 (([a, b, c].drop 1).take (Tryz.prog.cellsOf 3)) x1 := hg 1 _ rfl
    have g2 : TrD H enc W n 3 (([a, b, c].drop 2).take (Tryz.prog.cellsOf 3)) x2 := hg 2 _ rfl
    unfold TrD at g1 g2
    rw [c23] at g0
    rw [c3] at g1 g2
    obtain ⟨v0, t, e0, q0⟩ := open_test _ _ _ g0
    obtain ⟨n1, e1, _, w1⟩ := DataW.trod_int Tryz.underlying3 g1
    obtain ⟨n2, e2, _, w2⟩ := DataW.trod_int Tryz.underlying3 g2
    obtain rfl := one_eq e0
    obtain rfl := one_eq e1
    obtain rfl := one_eq e2
    exact ⟨_, _, _, t, rfl, wf_i64_bd w1, wf_i64_bd w2, q0⟩
end
end Go.Proofs.YtlpglijikmnopaaGreatDoor
