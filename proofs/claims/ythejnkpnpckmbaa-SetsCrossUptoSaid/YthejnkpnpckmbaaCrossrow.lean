/- Where what it reads is of bulk at most 1048576: SetsCross returns true, and its arguments read as they did. -/
import Derived.Test.YthejnkpnpckmbaaD5
import Derived.JoinedCond
namespace Go.Proofs.Ythejnkpnpckmbaa
open Go.RowKit Go.ChangeShapes Go.WideShapes Go.ChangeAt
set_option linter.unusedVariables false

theorem small_two {H : Type} {d0 d1 : DataW H} (hk : Rows.uptoSmall H ([d0, d1] ++ []) = true) : Rows.uptoBulk d0 ≤ 1048576 ∧ Rows.uptoBulk d1 ≤ 1048576 := by
  have h : Rows.uptoBulkAll ([d0, d1] ++ []) ≤ 1048576 := of_decide_eq_true hk
  simp only [List.append_nil, Rows.uptoBulkAll] at h
  omega
set_option maxRecDepth 100000 in
theorem cross_lifted (os : Os) (started : os.Started) (H : Type) (enc : TypeId × Value → H) (F : Stop.Interp) :
    ReturnsInHanded {} Try.checked os 5 .any ((Rows.OpenSpec.upto Rows.setsCrossSpec).pre6 enc Try.prog Try.f5 Rows.setsCrossUptoRow.domain false) (((Rows.OpenSpec.upto Rows.setsCrossSpec).at F).post enc Try.prog Try.f5 false true false false) := by
  refine returnsInHanded_of_cond (C := Try.checked) (s := Rows.OpenSpec.upto Rows.setsCrossSpec) (k := Rows.uptoSmall) rfl Try.own started (by kernel_rfl) Try.func5
    (OpenSpec.witness (enc := enc) (C := Try.checked) (s := Rows.OpenSpec.upto Rows.setsCrossSpec) (k := Rows.uptoSmall) rfl false ⟨#[], #[.slice none 0 0, .slice none 0 0], []⟩ 8 (by kernel_rfl) (by kernel_rfl) (by kernel_rfl)
      (x := ([.nil, .nil], [], [])) (by kernel_rfl) rfl (by kernel_rfl)) ?_
  intro W base args ds gs before hval0 hW hcnd hk _
  have hval : ∀ (j : Nat) t v, Try.f5.params[j]? = some t → args[j]? = some v → Value.okWide Try.prog W .any base t v := hval0
  have hW1 : DataW.Whole enc Try.prog Try.f5.params.toList Rows.setsCrossSpec.vars false W args.toList ds gs before := hW
  clear hW
  have hW' := hW1
  obtain ⟨p, q, hA0, hV, rfl, hfz, hnd⟩ := hW1
  have hA : DataW.TrodAll enc Try.prog W 0 (fun _ => true) true Try.f5.params.toList args.toList ds p := hA0
  rw [Try.params5] at hA hval
  obtain ⟨v0, v1, d0, d1, p0, p1, rfl, rfl, rfl, h0, h1⟩ := trodAll_two hA
  obtain ⟨rfl, rfl⟩ := trodVars_none hV
  obtain ⟨hb0, hb1⟩ := small_two hk
  obtain ⟨fu0, hf0⟩ := arg_slice Try.underlying39 (hval 0 39 v0 rfl rfl) h0
  obtain ⟨v0', a, e0, hr0, hw0, hl0⟩ := openB_gps hf0 hb0
  obtain rfl := one_eq e0
  obtain ⟨fu1, hf1⟩ := arg_slice Try.underlying39 (hval 1 39 v1 rfl rfl) h1
  obtain ⟨v1', b, e1, hr1, hw1, hl1⟩ := openB_gps hf1 hb1
  obtain rfl := one_eq e1
  clear hA0 hval0 hk
  simp only [List.append_nil] at hW'
  have hlt0 : ∀ x ∈ p0, x.block < W.heap.size := fun x hx => by simpa using hW'.lt x (by simp [hx])
  have hlt1 : ∀ x ∈ p1, x.block < W.heap.size := fun x hx => by simpa using hW'.lt x (by simp [hx])
  refine (cross_law W hr0 hr1 (fun g hg => gpF_of_bulk (hw0 g hg)) (fun g hg => gpF_of_bulk (hw1 g hg)) hl0 hl1).mono fun e W' ⟨he, hb⟩ => ?_
  have hbb := hb.below
  subst he
  refine ⟨_, rfl, post_true rfl hW' hbb rfl rfl rfl rfl ?_⟩
  exact trodAll_mk2 (Below.trod Try.laidOut (by kernel_rfl) (of_decide_eq_true (by kernel_rfl)) h0 hbb hlt0) (Below.trod Try.laidOut (by kernel_rfl) (of_decide_eq_true (by kernel_rfl)) h1 hbb hlt1)

theorem cross_holds : Rows.SetsCrossUptoSaid :=
  OpenClaim.holds_of_cond 5 Try.f5 rfl rfl rfl rfl rfl rfl rfl ⟨rfl, rfl, rfl, rfl, rfl⟩ rfl rfl rfl rfl rfl (by kernel_rfl) Try.func5 (by kernel_rfl)
    (of_decide_eq_true (by kernel_rfl)) (by unfold Func.isWrapper; first | (rw [if_pos (by decide +kernel)]; kernel_rfl) | (rw [if_neg (by decide +kernel)]; exact ⟨rfl, rfl⟩))
    (fun os started H enc _ F => cross_lifted os started H enc F)
end Go.Proofs.Ythejnkpnpckmbaa
