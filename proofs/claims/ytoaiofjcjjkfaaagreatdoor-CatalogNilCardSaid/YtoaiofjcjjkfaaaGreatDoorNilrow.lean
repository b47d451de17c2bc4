/- CatalogNil returns true for every input, and its argument reads as it did; its library's variables hold what the program's text lays. -/
import Derived.Test.YtoaiofjcjjkfaaaGreatDoorM6
namespace Go.Proofs.YtoaiofjcjjkfaaaGreatDoor
open Go.RowKit Go.ChangeShapes Go.WideShapes Go.ChangeAt
open Go.ChangeMaps (open_string shut_string)
set_option linter.unusedVariables false

def arg0 : Value := .agg #[.int .i64 0, .slice none 0 0, .slice none 0 0, .slice none 0 0, .slice none 0 0]
theorem witness_nil (os : Os) {H : Type} (enc : TypeId × Value → H) :
    (OpenSpec.ofChange Rows.catalogNilSpec).preRow enc Tryz.prog Tryz.f9 Rows.catalogNilRow.domain false laidN ((World.doorLaid Tryz.prog 400 os).forCall (fun _ _ => 0) ⟨#[], #[arg0], []⟩).memory #[arg0] := by
  have hw : (DataW.whole enc Tryz.prog ((World.doorLaid Tryz.prog 400 os).forCall (fun _ _ => 0) ⟨#[], #[arg0], []⟩).memory Tryz.f9.params.toList (OpenSpec.ofChange Rows.catalogNilSpec).vars false #[arg0].toList 8).map (fun x => (x.1, x.2.1)) =
      some ([.agg [.lit (.int .i64 0), .agg [.nil, .nil], .nil, .nil]], []) := by kernel_rfl
  obtain ⟨⟨x1, x2, x3⟩, hx, hx1⟩ := Option.map_eq_some_iff.1 hw
  simp only [Prod.mk.injEq] at hx1
  obtain ⟨rfl, rfl⟩ := hx1
  exact OpenSpec.preRow_of_cond 8 hx (by kernel_rfl) (fun k hk => by cases hk) (by kernel_rfl) (door_met os _)
set_option maxRecDepth 100000 in
set_option maxHeartbeats 2000000 in
theorem catalognil_lifted (os : Os) (started : os.Started) (H : Type) (enc : TypeId × Value → H) (F : Stop.Interp) :
    ReturnsInHanded {} Tryz.checked os 9 .any ((OpenSpec.ofChange Rows.catalogNilSpec).preRow enc Tryz.prog Tryz.f9 Rows.catalogNilRow.domain false laidN) (((OpenSpec.ofChange Rows.catalogNilSpec).at F).post enc Tryz.prog Tryz.f9 false true false false) := by
  refine returnsInHanded_of_row (C := Tryz.checked) (s := OpenSpec.ofChange Rows.catalogNilSpec) ownN started (by kernel_rfl) Tryz.func9
    (witness_row_atRef (enc := enc) (C := Tryz.checked) false (World.doorLaid Tryz.prog 400 os) #[arg0] rfl (by kernel_rfl) (by kernel_rfl) (by kernel_rfl) (witness_nil os enc)) ?_
  intro W base args ds gs before hval0 hW hcnd0 hkk _ hL _ _
  clear hcnd0 hkk
  have hval : ∀ (j : Nat) t v, Tryz.f9.params[j]? = some t → args[j]? = some v → Value.okWide Tryz.prog W .any base t v := hval0
  have hW1 : DataW.Whole enc Tryz.prog Tryz.f9.params.toList Rows.catalogNilSpec.vars false W args.toList ds gs before := hW
  clear hW
  have hW' := hW1
  obtain ⟨p, q, hA0, hV0, rfl, _, _⟩ := hW1
  have hA : DataW.TrodAll enc Tryz.prog W 0 (fun _ => true) true Tryz.f9.params.toList args.toList ds p := hA0
  rw [Tryz.params9] at hA hval
  obtain ⟨v0, d0, rfl, rfl, h0⟩ := trodAll_one hA
  obtain ⟨rfl, rfl⟩ := trodVars_none hV0
  obtain ⟨c, dv, mv, vv, bv, rfl, hck, _⟩ := openB_ck (hval 0 28 v0 rfl rfl) h0 (Nat.le_refl _)
  obtain ⟨A1, n1, k1, A2, n2, k2, A3, n3, k3, A4, n4, k4, rfl, rfl, rfl, rfl⟩ := hck.forms
  clear hA0 hV0 hval0 hck
  have hW2 := hW'
  simp only [List.append_nil] at hW2
  have hlt0 : ∀ x ∈ p, x.block < W.heap.size := fun x hx => by simpa using hW2.lt x (by simp [hx])
  unfold ckv at h0 hW' hW2 ⊢
  refine (catalogNil_any c.seq A1 n1 k1 A2 n2 k2 A3 n3 k3 A4 n4 k4 W (vr_of_laid hL)).mono ?_
  rintro e W' ⟨rfl, bel0⟩
  have bel := bel0.below
  refine ⟨_, rfl, _, _, _, [], p, [], hW2, ?_, ?_, ?_, bel.frame _, fun h => by cases h⟩
  · exact trodAll_mk1 (shut_bool Tryz.underlying4 true)
  · exact trodAll_mk1 (Below.trod Tryz.laidOut (by kernel_rfl) (of_decide_eq_true (by kernel_rfl)) h0 bel hlt0)
  · rfl
theorem catalognil_holds : Rows.CatalogNilSaid :=
  OpenClaim.holds_of_cond 9 Tryz.f9 rfl rfl rfl rfl rfl rfl rfl ⟨rfl, rfl, rfl, rfl, rfl⟩ rfl rfl rfl rfl rfl (by kernel_rfl) Tryz.func9 (by kernel_rfl)
    (of_decide_eq_true (by kernel_rfl)) (by unfold Func.isWrapper; first | (rw [if_pos (by decide +kernel)]; kernel_rfl) | (rw [if_neg (by decide +kernel)]; exact ⟨rfl, rfl⟩))
    (fun os started H enc _ F => by rw [OpenClaim.pre_eq_preRow]; exact catalognil_lifted os started H enc F)
theorem catalognil_card : Rows.CatalogNilCardSaid :=
  Claim7.holds_tied_plain_at .later [] [.data, .data, .data, .sentinel, .sentinel] true (true, "4d9a98eb4e6186ac5c1895fd204bf4cf516efd932a2e6fae579b9ef87c149225") true
    catalognil_holds (fun _ h => by cases h) (by kernel_rfl) (fun _ h => by cases h) catalogNil_row_tie rfl ⟨rfl, rfl⟩ (by kernel_rfl) rfl
    (fun f fn hf hfn => by
      obtain rfl : f = 9 := Option.some.inj ((show Tryz.prog.funcNamed "caisson/caissonlaw08.CatalogNil" = some 9 by kernel_rfl).symm.trans hf) |>.symm
      obtain rfl : fn = Tryz.f9 := (Option.some.inj (Tryz.func9.symm.trans hfn)).symm
      exact ⟨by kernel_rfl, fun j t ht => by
        rw [Tryz.params9] at ht
        have h3 : t = 28 := by
          rcases j with _ | j
          · simpa using ht.symm
          · simp at ht
        rcases h3 with rfl
        exact (show Tryz.prog.wantsStandIn 28 = false by kernel_rfl)⟩)
    (by kernel_rfl)
end Go.Proofs.YtoaiofjcjjkfaaaGreatDoor
