/- Where what it reads is not too great (of bulk at most 1048576): GroupWays returns true, and its arguments read as they did; its library's variables hold what the program's text lays. -/
import Derived.Test.YtlpglijikmnopaaGreatDoorUWZ
namespace Go.Proofs.YtlpglijikmnopaaGreatDoor
open Go.RowKit Go.ChangeShapes Go.WideShapes Go.ChangeAt
set_option linter.unusedVariables false

theorem witness_groupWays (os : Os) {H : Type} (enc : TypeId × Value → H) :
    (Rows.OpenSpec.upto Rows.groupWaysSpec).preRow enc Tryz.prog Tryz.f3 Rows.groupWaysUptoRow.domain false laidN ((World.doorLaid Tryz.prog 400 os).forCall (fun _ _ => 0) ⟨#[], #[.slice none 0 0, .agg #[.pointer none, .int .i64 0, .int .i64 0]], []⟩).memory #[.slice none 0 0, .agg #[.pointer none, .int .i64 0, .int .i64 0]] := by
  have hw : (DataW.whole enc Tryz.prog ((World.doorLaid Tryz.prog 400 os).forCall (fun _ _ => 0) ⟨#[], #[.slice none 0 0, .agg #[.pointer none, .int .i64 0, .int .i64 0]], []⟩).memory Tryz.f3.params.toList (Rows.OpenSpec.upto Rows.groupWaysSpec).vars false #[Value.slice none 0 0, .agg #[.pointer none, .int .i64 0, .int .i64 0]].toList 8).map (fun x => (x.1, x.2.1)) =
      some ([.nil, .agg [.nil, .lit (.int .i64 0), .lit (.int .i64 0)]], []) := by kernel_rfl
  obtain ⟨⟨x1, x2, x3⟩, hx, hx1⟩ := Option.map_eq_some_iff.1 hw
  simp only [Prod.mk.injEq] at hx1
  obtain ⟨rfl, rfl⟩ := hx1
  refine OpenSpec.preRow_of_cond 8 hx (by kernel_rfl) (fun k hk => ?_) (by kernel_rfl) (door_met os _)
  obtain rfl : Rows.uptoSmall = k := Option.some.inj hk
  kernel_rfl
set_option maxRecDepth 100000 in
set_option maxHeartbeats 2000000 in
theorem groupWays_lifted (os : Os) (started : os.Started) (H : Type) (enc : TypeId × Value → H) (F : Stop.Interp) :
    ReturnsInHanded {} Tryz.checked os 3 .any ((Rows.OpenSpec.upto Rows.groupWaysSpec).preRow enc Tryz.prog Tryz.f3 Rows.groupWaysUptoRow.domain false laidN) (((Rows.OpenSpec.upto Rows.groupWaysSpec).at F).post enc Tryz.prog Tryz.f3 false true false false) := by
  refine returnsInHanded_of_row (C := Tryz.checked) (s := Rows.OpenSpec.upto Rows.groupWaysSpec) knobN started (by kernel_rfl) Tryz.func3
    (witness_row_atRef (enc := enc) (C := Tryz.checked) false (World.doorLaid Tryz.prog 400 os) #[.slice none 0 0, .agg #[.pointer none, .int .i64 0, .int .i64 0]] rfl (by kernel_rfl) (by kernel_rfl) (by kernel_rfl) (witness_groupWays os enc)) ?_
  intro W base args ds gs before hval0 hW hcnd0 hkk _ hL _ _
  have hk := hkk _ rfl
  clear hcnd0 hkk
  have hval : ∀ (j : Nat) t v, Tryz.f3.params[j]? = some t → args[j]? = some v → Value.okWide Tryz.prog W .any base t v := hval0
  have hW1 : DataW.Whole enc Tryz.prog Tryz.f3.params.toList Rows.groupWaysSpec.vars false W args.toList ds gs before := hW
  clear hW
  have hW' := hW1
  obtain ⟨p, q, hA0, hV0, rfl, _, _⟩ := hW1
  have hA : DataW.TrodAll enc Tryz.prog W 0 (fun _ => true) true Tryz.f3.params.toList args.toList ds p := hA0
  rw [Tryz.params3] at hA hval
  obtain ⟨v0, v1, d0, d1, p0, p1, rfl, rfl, rfl, h0, h1⟩ := trodAll_two hA
  obtain ⟨rfl, rfl⟩ := trodVars_none hV0
  obtain ⟨l0, hr0, hw0⟩ := open_factsA2 (hval 0 22 v0 rfl rfl) h0
  obtain ⟨ac1, as1, am1, at1, rfl, hs1, hm1, hr1⟩ := open_askA (hval 1 25 v1 rfl rfl) h1
  have hk2 : Rows.uptoBulkAll ([d0, d1] ++ []) ≤ 1048576 := of_decide_eq_true hk
  rw [List.append_nil] at hk2
  simp only [Rows.uptoBulkAll] at hk2
  obtain ⟨ho0, hl0, hcp0⟩ := facts_small2 hw0 (by omega)
  clear hA0 hV0 hval0
  have hW2 := hW'
  try simp only [List.append_nil] at hW2
  have hlt0 : ∀ x ∈ p0, x.block < W.heap.size := fun x hx => by simpa using hW2.lt x (by simp [hx])
  have hlt1 : ∀ x ∈ p1, x.block < W.heap.size := fun x hx => by simpa using hW2.lt x (by simp [hx])
  refine (groupWays_any W hr0 ho0 hcp0 hl0 (pv_of_laid hL) hr1).mono ?_
  rintro e W' ⟨rfl, hf⟩
  have bel := hf.below
  refine ⟨_, rfl, _, _, _, [], p0 ++ (p1), [], hW', ?_, ?_, ?_, bel.frame _, fun h => by cases h⟩
  · exact trodAll_mk1 (shut_bool Tryz.underlying4 true)
  · exact trodAll_mk2 (Below.trod Tryz.laidOut (by kernel_rfl) (of_decide_eq_true (by kernel_rfl)) h0 bel hlt0) (Below.trod Tryz.laidOut (by kernel_rfl) (of_decide_eq_true (by kernel_rfl)) h1 bel hlt1)
  · rfl
theorem groupWays_holds : Rows.GroupWaysUptoSaid :=
  OpenClaim.holds_of_cond 3 Tryz.f3 rfl rfl rfl rfl rfl rfl rfl ⟨rfl, rfl, rfl, rfl, rfl⟩ rfl rfl rfl rfl rfl (by kernel_rfl) Tryz.func3 (by kernel_rfl)
    (of_decide_eq_true (by kernel_rfl)) (by unfold Func.isWrapper; first | (rw [if_pos (by decide +kernel)]; kernel_rfl) | (rw [if_neg (by decide +kernel)]; exact ⟨rfl, rfl⟩))
    (fun os started H enc _ F => by rw [OpenClaim.pre_eq_preRow]; exact groupWays_lifted os started H enc F)
theorem groupWays_card : Rows.GroupWaysUptoCardSaid :=
  Claim7.holds_tied_plain_at .later [] [.data, .data, .data] true (true, "a3d47d521de7adf7a6991cd3d5ed6530dbf1f9b635a981cc48386afb501192b1") false
    groupWays_holds (fun _ h => by cases h) (by kernel_rfl) (fun _ h => by cases h) groupWaysUpto_row_tie rfl ⟨rfl, rfl⟩ (by kernel_rfl) rfl
    (fun f fn hf hfn => by
      obtain rfl : f = 3 := Option.some.inj ((show Tryz.prog.funcNamed "caisson/caissonlaw14.GroupWays" = some 3 by kernel_rfl).symm.trans hf) |>.symm
      obtain rfl : fn = Tryz.f3 := (Option.some.inj (Tryz.func3.symm.trans hfn)).symm
      exact ⟨by kernel_rfl, fun j t ht => by
        rw [Tryz.params3] at ht
        have h3 : t = 22 ∨ t = 25 := by
          rcases j with _ | _ | j
          · exact .inl (by simpa using ht.symm)
          · exact .inr (by simpa using ht.symm)
          · simp at ht
        rcases h3 with rfl | rfl
        · exact (show Tryz.prog.wantsStandIn 22 = false by kernel_rfl)
        · exact (show Tryz.prog.wantsStandIn 25 = false by kernel_rfl)⟩)
    (by kernel_rfl)
end Go.Proofs.YtlpglijikmnopaaGreatDoor
