/- ParseShows returns true for every input, and its arguments read as they did; the listed variables hold what the program's text lays. -/
import Derived.Test.YtkcnbmgaeompjaaGreatDoorRK
import Derived.Test.YtkcnbmgaeompjaaGreatDoorZB
import Derived.Test.YtkcnbmgaeompjaaGreatDoorRO
namespace Go.Proofs.YtkcnbmgaeompjaaGreatDoor
open Go.RowKit Go.ChangeShapes Go.WideShapes Go.ChangeAt
open Go.ChangeMaps (open_string shut_string)
set_option linter.unusedVariables false

theorem Tryz.laidOut : laidOutB Tryz.prog = true := by kernel_rfl
abbrev qy00 : Value := .agg #[.slice none 0 0, .string ⟨#[]⟩, .pointer none, .bool false, .slice none 0 0]
theorem witness_parseshows (os : Os) {H : Type} (enc : TypeId × Value → H) :
    (OpenSpec.ofChange Rows.parseShowsSpec).preRow enc Tryz.prog Tryz.f4 Rows.parseShowsRow.domain false laidN ((layW os).forCall (fun _ _ => 0) ⟨#[], #[qy00], []⟩).memory #[qy00] := by
  have hw : (DataW.whole enc Tryz.prog ((layW os).forCall (fun _ _ => 0) ⟨#[], #[qy00], []⟩).memory Tryz.f4.params.toList (OpenSpec.ofChange Rows.parseShowsSpec).vars false #[qy00].toList 8).map (fun x => (x.1, x.2.1)) =
      some ([.agg [.nil, .lit (.string []), .nil, .lit (.bool false), .nil]], []) := by kernel_rfl
  obtain ⟨⟨x1, x2, x3⟩, hx, hx1⟩ := Option.map_eq_some_iff.1 hw
  simp only [Prod.mk.injEq] at hx1
  obtain ⟨rfl, rfl⟩ := hx1
  exact OpenSpec.preRow_of_cond 8 hx (by kernel_rfl) (fun k hk => by cases hk) (by kernel_rfl) (door_met os _)
set_option maxRecDepth 100000 in
set_option maxHeartbeats 2000000 in
theorem parseshows_lifted (os : Os) (started : os.Started) (H : Type) (enc : TypeId × Value → H) (F : Stop.Interp) :
    ReturnsInHanded {} Tryz.checked os 4 .any ((OpenSpec.ofChange Rows.parseShowsSpec).preRow enc Tryz.prog Tryz.f4 Rows.parseShowsRow.domain false laidN) (((OpenSpec.ofChange Rows.parseShowsSpec).at F).post enc Tryz.prog Tryz.f4 false true false false) := by
  refine returnsInHanded_of_row (C := Tryz.checked) (s := OpenSpec.ofChange Rows.parseShowsSpec) ownN started (by kernel_rfl) Tryz.func4
    (witness_row_atRef (enc := enc) (C := Tryz.checked) false (layW os) #[qy00] rfl (by kernel_rfl) (by kernel_rfl) (by kernel_rfl) (witness_parseshows os enc)) ?_
  intro W base args ds gs before hval0 hW hcnd0 hkk _ hL hS _
  clear hcnd0 hkk
  have hval : ∀ (j : Nat) t v, Tryz.f4.params[j]? = some t → args[j]? = some v → Value.okWide Tryz.prog W .any base t v := hval0
  have hW1 : DataW.Whole enc Tryz.prog Tryz.f4.params.toList Rows.parseShowsSpec.vars false W args.toList ds gs before := hW
  clear hW
  have hW' := hW1
  obtain ⟨p, q, hA0, hV0, rfl, _, _⟩ := hW1
  have hA : DataW.TrodAll enc Tryz.prog W 0 (fun _ => true) true Tryz.f4.params.toList args.toList ds p := hA0
  rw [Tryz.params4] at hA hval
  obtain ⟨v0, d0, rfl, rfl, h0⟩ := trodAll_one hA
  obtain ⟨p0, hp0⟩ : ∃ x, p = x := ⟨_, rfl⟩
  subst hp0
  obtain ⟨rfl, rfl⟩ := trodVars_none hV0
  obtain ⟨q0, hq0⟩ := openN_query (hval 0 27 v0 rfl rfl) h0
  clear hA0 hV0 hval0
  have hW2 := hW'
  try simp only [List.append_nil] at hW2
  have hlt0 : ∀ x ∈ p, x.block < W.heap.size := fun x hx => by simpa using hW2.lt x (by simp [hx])
  refine (shows_law q0 v0 W (pv_of_laid hL hS) hq0).mono ?_
  rintro e W' ⟨rfl, hf⟩
  have bel := hf.below
  refine ⟨_, rfl, _, _, _, [], p, [], hW', ?_, ?_, ?_, bel.frame _, fun h => by cases h⟩
  · exact trodAll_mk1 (shut_bool Tryz.underlying4 true)
  · exact trodAll_mk1 (Below.trod Tryz.laidOut (by kernel_rfl) (of_decide_eq_true (by kernel_rfl)) h0 bel hlt0)
  · rfl
theorem parseshows_holds : Rows.ParseShowsSaid :=
  OpenClaim.holds_of_cond 4 Tryz.f4 rfl rfl rfl rfl rfl rfl rfl ⟨rfl, rfl, rfl, rfl, rfl⟩ rfl rfl rfl rfl rfl (by kernel_rfl) Tryz.func4 (by kernel_rfl)
    (of_decide_eq_true (by kernel_rfl)) (by unfold Func.isWrapper; first | (rw [if_pos (by decide +kernel)]; kernel_rfl) | (rw [if_neg (by decide +kernel)]; exact ⟨rfl, rfl⟩))
    (fun os started H enc _ F => by rw [OpenClaim.pre_eq_preRow]; exact parseshows_lifted os started H enc F)
theorem parseshows_card : Rows.ParseShowsCardSaid :=
  Claim7.holds_tied_plain_at .later [] [.data, .data, .data, .data, .sentinel, .sentinel, .data, .data, .wider, .wider, .pinned] true (true, "bbe92bef838cc2fcf518eb7476c5f49b84a86a6f48aa8d19fb30516257843c97") true
    parseshows_holds (fun _ h => by cases h) (by kernel_rfl) (fun _ h => by cases h) parseShows_row_tie rfl ⟨rfl, rfl⟩ (by kernel_rfl) rfl
    (fun f fn hf hfn => by
      obtain rfl : f = 4 := Option.some.inj ((show Tryz.prog.funcNamed "caisson/caissonlaw10.ParseShows" = some 4 by kernel_rfl).symm.trans hf) |>.symm
      obtain rfl : fn = Tryz.f4 := (Option.some.inj (Tryz.func4.symm.trans hfn)).symm
      exact ⟨by kernel_rfl, fun j t ht => by
        rw [Tryz.params4] at ht
        have h3 : t = 27 := by
          rcases j with _ | j
          · simpa using ht.symm
          · simp at ht
        rcases h3 with rfl
        exact (show Tryz.prog.wantsStandIn 27 = false by kernel_rfl)⟩)
    (by kernel_rfl)
end Go.Proofs.YtkcnbmgaeompjaaGreatDoor
