/- For every script, of any calls: SchedPlays returns true, and its argument reads as it did. No condition. -/
import Derived.Test.YtnonidoeakhfdaaC2
import Derived.Test.YtnonidoeakhfdaaH9
import Derived.Deep.Slices
import Derived.Deep.Fields
namespace Go.Proofs.Ytnonidoeakhfdaa
open Go.RowKit Go.ChangeShapes Go.WideShapes Go.ChangeAt
set_option linter.unusedVariables false

theorem Try.c34 : Try.prog.cellsOf 34 = 3 := by set_option maxRecDepth 100000 in kernel_rfl
theorem cell_at {cs : List Value} {j : Nat} {v : Value} (h : (cs.drop j).take 1 = [v]) : cs[j]? = some v := by
  have h1 : ((cs.drop j).take 1)[0]? = some v := by rw [h]; rfl
  rw [List.getElem?_take, if_pos (by omega), List.getElem?_drop] at h1
  simpa using h1

section
variable {H : Type} {enc : TypeId × Value → H}
/-- One element of a script. -/
theorem open_op {W : World} {fuel : Nat} {cs : List Value} {d : DataW H} {ps : List MemPlace} (h : DataW.trod enc Try.prog W 0 (fun _ => true) true fuel 34 cs = some (d, ps)) :
    ∃ o : OpV, (∀ i, i < 3 → cs[i]? = o.cells[i]?) ∧ o.Ok := by
  obtain ⟨xs, n, _, hx, hlen, hxl, hg⟩ := DataW.trod_struct Try.underlying34 h
  have hx3 : xs.length = 3 := hxl
  match xs, hx3 with
  | [x0, x1, x2], _ =>
    have g0 : DataW.trod enc Try.prog W 0 (fun _ => true) true n 3 ((cs.drop 0).take (Try.prog.cellsOf 3)) = some x0 := hg 0 _ rfl
    have g1 : DataW.trod enc Try.prog W 0 (fun _ => true) true n 3 ((cs.drop 1).take (Try.prog.cellsOf 3)) = some x1 := hg 1 _ rfl
    have g2 : DataW.trod enc Try.prog W 0 (fun _ => true) true n 3 ((cs.drop 2).take (Try.prog.cellsOf 3)) = some x2 := hg 2 _ rfl
    rw [Try.c3] at g0 g1 g2
    obtain ⟨n0, e0, r0, w0⟩ := DataW.trod_int Try.underlying3 g0
    obtain ⟨n1, e1, r1, w1⟩ := DataW.trod_int Try.underlying3 g1
    obtain ⟨n2, e2, r2, w2⟩ := DataW.trod_int Try.underlying3 g2
    refine ⟨⟨n0, n1, n2⟩, fun i hi => ?_, ⟨wf_i64_bd w0, wf_i64_bd w1, wf_i64_bd w2⟩⟩
    match i, hi with
    | 0, _ => exact cell_at e0
    | 1, _ => exact cell_at e1
    | 2, _ => exact cell_at e2

set_option maxRecDepth 100000 in
theorem open_ops {W : World} {v : Value} {d : DataW H} {ps : List MemPlace} (hval : Value.okWide Try.prog W .any 0 22 v) (h : DataW.Trod enc Try.prog W 0 (fun _ => true) true 22 v d ps) :
    ∃ n, OpsAt W v n := by
  obtain ⟨a0, len, cap, rfl⟩ := okWide_slice Try.underlying22 hval
  obtain ⟨fuel, hf⟩ := h
  rcases Go.Deep.open_slice Try.underlying22 hf with ⟨hcs, hx⟩ | ⟨a, len', cap', m, n, D, Pl, hcs, hb, hl, hm, hmm, hx, hi⟩
  · simp [Value.cells] at hcs
    obtain ⟨rfl, rfl, rfl⟩ := hcs
    exact ⟨0, fun ty W => by simp [Builtin.len_, run_underlying under22', goInt], Nat.zero_le _, fun k hk => by omega⟩
  · simp [Value.cells] at hcs
    obtain ⟨rfl, rfl, rfl⟩ := hcs
    simp only [if_true] at hmm
    have hel : ∀ i, i < len → ∃ o : OpV, (∀ j, j < 3 → W.cell? (a.add (i * 3 + j)) = o.cells[j]?) ∧ o.Ok := by
      intro i hil
      obtain ⟨cs', hc, ht⟩ := hi i (by omega)
      rw [Try.c34] at hc
      obtain ⟨o, hcells, hok⟩ := open_op ht
      obtain ⟨_, _, hat⟩ := World.cells?_some hc
      exact ⟨o, fun j hj => by rw [← Go.Deep.add_add, hat j hj, hcells j hj], hok⟩
    refine ⟨len, fun ty W => by simp [Builtin.len_, run_underlying under22', goInt], by omega, fun k hk => ?_⟩
    obtain ⟨b, off, spot⟩ := a
    have hspot : spot = none := by
      obtain ⟨o, h0, _⟩ := hel 0 (by omega)
      have := h0 0 (by omega)
      simpa [Addr.add] using World.cell?_spot this
    subst hspot
    obtain ⟨o, h0, hok⟩ := hel k hk
    have add : ∀ (x y z : Nat), ((⟨x, y, none⟩ : Addr).add z) = ⟨x, y + z, none⟩ := fun x y z => by unfold Addr.add; split <;> simp_all
    have k0 := h0 0 (by omega)
    have k1 := h0 1 (by omega)
    have k2 := h0 2 (by omega)
    rw [add] at k0 k1 k2
    refine ⟨b, off + k * 3, o, World.block_lt_of_cell? W _ k0, fun W => ?_, k0, k1, k2, hok⟩
    rw [run_indexAt_slice (w := W) 22 _ _ _ .i64 k under22, size22]
    simp [Result.andThen, Addr.add_lit]
    omega
end

set_option maxRecDepth 100000 in
theorem schedplays_lifted (os : Os) (started : os.Started) (H : Type) (enc : TypeId × Value → H) :
    ReturnsInHanded {} Try.checked os 3 .any (Rows.schedPlaysSpec.pre6 enc Try.prog Try.f3 Rows.schedPlaysRow.domain false) (Rows.schedPlaysSpec.post enc Try.prog Try.f3 false true false false) := by
  refine returnsInHanded_of_change (C := Try.checked) Try.own started (by kernel_rfl) Try.func3
    (ChangeSpec.witness6 (enc := enc) (C := Try.checked) false ⟨#[], #[.slice none 0 0], []⟩ 8 (by kernel_rfl) (by kernel_rfl) (by kernel_rfl) (by kernel_rfl)) ?_
  intro W base args ds gs before hval0 hW hcnd _
  have hval : ∀ (j : Nat) t v, Try.f3.params[j]? = some t → args[j]? = some v → Value.okWide Try.prog W .any base t v := hval0
  have hW' := hW
  obtain ⟨p, q, hA0, hV, rfl, hfz, hnd⟩ := hW
  have hA : DataW.TrodAll enc Try.prog W 0 (fun _ => true) true Try.f3.params.toList args.toList ds p := hA0
  rw [Try.params3] at hA hval
  obtain ⟨v0, d0, rfl, rfl, h0⟩ := trodAll_one hA
  obtain ⟨rfl, rfl⟩ := trodVars_none hV
  obtain ⟨n, hs⟩ := open_ops (hval 0 22 v0 rfl rfl) h0
  clear hA0 hval0
  simp only [List.append_nil] at hW'
  have hlt0 : ∀ x ∈ p, x.block < W.heap.size := fun x hx => by simpa using hW'.lt x (by simp [hx])
  refine (schedplays_any W v0 n hs).mono fun e W' ⟨he, hb⟩ => ?_
  subst he
  refine ⟨_, rfl, post_true rfl hW' hb rfl rfl rfl rfl ?_⟩
  exact trodAll_mk1 (Below.trod Try.laidOut (by kernel_rfl) (of_decide_eq_true (by kernel_rfl)) h0 hb hlt0)

theorem schedplays_holds : Rows.SchedPlaysSaid :=
  OpenClaim.holds_of_wide 3 Try.f3 rfl rfl rfl rfl rfl rfl rfl ⟨rfl, rfl, rfl, rfl, rfl⟩ rfl rfl rfl rfl rfl (by kernel_rfl) Try.func3 (by kernel_rfl)
    (of_decide_eq_true (by kernel_rfl)) (by unfold Func.isWrapper; first | (rw [if_pos (by decide +kernel)]; kernel_rfl) | (rw [if_neg (by decide +kernel)]; exact ⟨rfl, rfl⟩))
    (fun os started H enc _ => schedplays_lifted os started H enc)

end Go.Proofs.Ytnonidoeakhfdaa
