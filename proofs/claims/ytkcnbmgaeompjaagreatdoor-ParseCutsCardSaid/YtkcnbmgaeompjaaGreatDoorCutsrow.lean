/- ParseCuts returns true for every input, and its arguments read as they did; the listed variables hold what the program's text lays. -/
import Derived.Test.YtkcnbmgaeompjaaGreatDoorRK
import Derived.Test.YtkcnbmgaeompjaaGreatDoorZ3
import Derived.Test.YtkcnbmgaeompjaaGreatDoorRO
namespace Go.Proofs.YtkcnbmgaeompjaaGreatDoor
open Go.RowKit Go.ChangeShapes Go.WideShapes Go.ChangeAt
open Go.ChangeMaps (open_string shut_string)
set_option linter.unusedVariables false

theorem Tryz.laidOut : laidOutB Tryz.prog = true := by kernel_rfl
abbrev qy00 : Value := .agg #[.slice none 0 0, .string ⟨#[]⟩, .pointer none, .bool false, .slice none 0 0]
theorem witness_parsecuts (os : Os) {H : Type} (enc : TypeId × Value → H) :
    (OpenSpec.ofChange Rows.parseCutsSpec).preRow enc Tryz.prog Tryz.f8 Rows.parseCutsRow.domain false laidN ((layW os).forCall (fun _ _ => 0) ⟨#[], #[qy00, .int .i64 0], []⟩).memory #[qy00, .int .i64 0] := by
  have hw : (DataW.whole enc Tryz.prog ((layW os).forCall (fun _ _ => 0) ⟨#[], #[qy00, .int .i64 0], []⟩).memory Tryz.f8.params.toList (OpenSpec.ofChange Rows.parseCutsSpec).vars false #[qy00, Value.int .i64 0].toList 8).map (fun x => (x.1, x.2.1)) =
      some ([.agg [.nil, .lit (.string []), .nil, .lit (.bool false), .nil], .lit (.int .i64 0)], []) := by kernel_rfl
  obtain ⟨⟨x1, x2, x3⟩, hx, hx1⟩ := Option.map_eq_some_iff.1 hw
  simp only [Prod.mk.injEq] at hx1
  obtain ⟨rfl, rfl⟩ := hx1
  exact OpenSpec.preRow_of_cond 8 hx (by kernel_rfl) (fun k hk => by cases hk) (by kernel_rfl) (door_met os _)
set_option maxRecDepth 100000 in
set_option maxHeartbeats 2000000 in
theorem parsecuts_lifted (os : Os) (started : os.Started) (H : Type) (enc : TypeId × Value → H) (F : Stop.Interp) :
    ReturnsInHanded {} Tryz.checked os 8 .any ((OpenSpec.ofChange Rows.parseCutsSpec).preRow enc Tryz.prog Tryz.f8 Rows.parseCutsRow.domain false laidN) (((OpenSpec.ofChange Rows.parseCutsSpec).at F).post enc Tryz.prog Tryz.f8 false true false false) := by
  refine returnsInHanded_of_row (C := Tryz.checked) (s := OpenSpec.ofChange Rows.parseCutsSpec) ownN started (by kernel_rfl) Tryz.func8
    (witness_row_atRef (enc := enc) (C := Tryz.checked) false (layW os) #[qy00, .int .i64 0] rfl (by kernel_rfl) (by kernel_rfl) (by kernel_rfl) (witness_parsecuts os enc)) ?_
  intro W base args ds gs before hval0 hW hcnd0 hkk _ hL hS _
  clear hcnd0 hkk
  have hval : ∀ (j : Nat) t v, Tryz.f8.params[j]? = some t → args[j]? = some v → Value.okWide Tryz.prog W .any base t v := hval0
  have hW1 : DataW.Whole enc Tryz.prog Tryz.f8.params.toList Rows.parseCutsSpec.vars false W args.toList ds gs before := hW
  clear hW
  have hW' := hW1
  obtain ⟨p, q, hA0, hV0, rfl, _, _⟩ := hW1
  have hA : DataW.TrodAll enc Tryz.prog W 0 (fun _ => true) true Tryz.f8.params.toList args.toList ds p := hA0
  rw [Tryz.params8] at hA hval
  obtain ⟨v0, v1, d0, d1, p0, p1, rfl, rfl, rfl, h0, h1⟩ := trodAll_two hA
  obtain ⟨rfl, rfl⟩ := trodVars_none hV0
  obtain ⟨q0, hq0⟩ := openN_query (hval 0 27 v0 rfl rfl) h0
  obtain ⟨n1, rfl, rfl, rfl, wn1⟩ := open_int Tryz.underlying3 (hval 1 3 v1 rfl rfl) h1
  have hn1 : i64 n1 := by
    have e1 : IntKind.i64.min = -9223372036854775808 := rfl
    have e2 : IntKind.i64.max = 9223372036854775807 := rfl
    simp [Lit.wf, e1, e2] at wn1
    exact ⟨by omega, by omega⟩
  clear hA0 hV0 hval0
  have hW2 := hW'
  try simp only [List.append_nil] at hW2
  have hlt0 : ∀ x ∈ p0, x.block < W.heap.size := fun x hx => by simpa using hW2.lt x (by simp [hx])
  refine (cuts_law q0 n1 hn1 v0 W (pv_of_laid hL hS) hq0).mono ?_
  rintro e W' ⟨rfl, hf⟩
  have bel := hf.below
  refine ⟨_, rfl, _, _, _, [], p0 ++ [], [], hW', ?_, ?_, ?_, bel.frame _, fun h => by cases h⟩
  · exact trodAll_mk1 (shut_bool Tryz.underlying4 true)
  · exact trodAll_mk2 (Below.trod Tryz.laidOut (by kernel_rfl) (of_decide_eq_true (by kernel_rfl)) h0 bel hlt0) (shut_int Tryz.underlying3 wn1)
  · rfl
theorem parsecuts_holds : Rows.ParseCutsSaid :=
  OpenClaim.holds_of_cond 8 Tryz.f8 rfl rfl rfl rfl rfl rfl rfl ⟨rfl, rfl, rfl, rfl, rfl⟩ rfl rfl rfl rfl rfl (by kernel_rfl) Tryz.func8 (by kernel_rfl)
    (of_decide_eq_true (by kernel_rfl)) (by unfold Func.isWrapper; first | (rw [if_pos (by decide +kernel)]; kernel_rfl) | (rw [if_neg (by decide +kernel)]; exact ⟨rfl, rfl⟩))
    (fun os started H enc _ F => by rw [OpenClaim.pre_eq_preRow]; exact parsecuts_lifted os started H enc F)
theorem parsecuts_card : Rows.ParseCutsCardSaid :=
  Claim7.holds_tied_plain_at .later [] [.data, .data, .data, .data, .sentinel, .sentinel, .data, .data, .wider, .wider, .pinned] true (true, "bbe92bef838cc2fcf518eb7476c5f49b84a86a6f48aa8d19fb30516257843c97") true
    parsecuts_holds (fun _ h => by cases h) (by kernel_rfl) (fun _ h => by cases h) parseCuts_row_tie rfl ⟨rfl, rfl⟩ (by kernel_rfl) rfl
    (fun f fn hf hfn => by
      obtain rfl : f = 8 := Option.some.inj ((show Tryz.prog.funcNamed "caisson/caissonlaw10.ParseCuts" = some 8 by kernel_rfl).symm.trans hf) |>.symm
      obtain rfl : fn = Tryz.f8 := (Option.some.inj (Tryz.func8.symm.trans hfn)).symm
      exact ⟨by kernel_rfl, fun j t ht => by
        rw [Tryz.params8] at ht
        have h3 : t = 27 ∨ t = 3 := by
          rcases j with _ | _ | j
          · exact .inl (by simpa using ht.symm)
          · exact .inr (by simpa using ht.symm)
          · simp at ht
        rcases h3 with rfl | rfl
        · exact (show Tryz.prog.wantsStandIn 27 = false by kernel_rfl)
        · exact (show Tryz.prog.wantsStandIn 3 = false by kernel_rfl)⟩)
    (by kernel_rfl)
end Go.Proofs.YtkcnbmgaeompjaaGreatDoor
