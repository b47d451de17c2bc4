/- A checkpoint's bytes. -/
import Derived.Test.YtoaiofjcjjkfaaaGreatDoorM4
import Derived.Deep.LoopGhost
import Derived.WalkMore
import Derived.Test.YtoaiofjcjjkfaaaGreatDoorM2
namespace Go.Proofs.YtoaiofjcjjkfaaaGreatDoor
open Go.RowKit Go.Maps
set_option linter.unusedVariables false

theorem frL_ok {S : WS} (h : S.fault = 0) : frL S = (frameR S.data, 0) := by unfold frL; rw [if_pos h]
theorem frL_no {S : WS} (h : S.fault ≠ 0) : frL S = ([], 23) := by unfold frL; rw [if_neg h]
theorem frameR_len (l : List UInt8) : (frameR l).length = 8 + l.length := by
  unfold frameR
  rw [List.length_append, List.length_append, low_len, low_len]
theorem catB_step {bats : List (List FactP)} {acc : List UInt8} {j : Nat} (hj : j < bats.length) : catB (bats.drop j) acc = if (WS.zero.facts bats[j]).fault = 0 then catB (bats.drop (j + 1)) (acc ++ frameR (WS.zero.facts bats[j]).data) else ([], 23) := by
  rw [List.drop_eq_getElem_cons hj]; rfl
set_option maxRecDepth 100000 in
set_option maxHeartbeats 2000000 in
theorem bytes_any (K : Nat → Prop) (c : CkP) (dv mv vv bv : Value) (w : World) (h : CkAt K w c dv mv vv bv) (hK : ∀ k, K k → k < w.heap.size) (hn : c.bats.length ≤ 2000000000) :
    Calls Tryz.prog 11 #[ckv c dv mv vv bv] w fun e w' => e = .returned (.tuple #[sv (bytesP c).1, .int .i64 (bytesP c).2]) ∧ Fr No w w' := by
  obtain ⟨seq, dims, meas, views, bats⟩ := c
  obtain ⟨A1, n1, k1, A2, n2, k2, A3, n3, k3, A4, n4, k4, rfl, rfl, rfl, rfl⟩ := h.forms
  obtain ⟨_, _, e4', hm4, _⟩ := h.bats
  have en4 : n4 = bats.length := by simpa using congrArg (fun v : Value => match v with | .slice _ n _ => n | _ => 0) e4'
  obtain ⟨B, hB⟩ : ∃ B, w.heap.size = B := ⟨_, rfl⟩
  obtain ⟨wa, hwa⟩ : ∃ wa, w.alloc (.cells #[.int .i64 seq, .slice A1 n1 k1, .slice A2 n2 k2, .slice A3 n3 k3, .slice A4 n4 k4] 28) = wa := ⟨_, rfl⟩
  have hbx : Blk wa B 28 #[.int .i64 seq, .slice A1 n1 k1, .slice A2 n2 k2, .slice A3 n3 k3, .slice A4 n4 k4] := by rw [← hwa, ← hB]; exact Blk.new w 28 _
  have bw : Below B w wa := by rw [← hwa, ← hB]; exact (Below.refl _ _).alloc (Nat.le_refl _) _
  have hsa : wa.heap.size = B + 1 := by rw [← hwa, ← hB]; simp
  by_cases hs : seq < 0
  · have HV : Hid (bytesP ⟨seq, dims, meas, views, bats⟩ = ([], 1)) := Lib.hid (by unfold bytesP; rw [if_pos hs])
    have hlt : decide (seq < 0) = true := by simpa using hs
    have HBW := Lib.hid bw
    have HWA := Lib.hid hwa
    have HB := Lib.hid hB
    unfold ckv
    clear h hK hn e4' hm4 en4 hbx bw hsa hwa hB
    go_enter Tryz.func11, Tryz.ntmps11
    go_wp2
    go_ret2
    exact ⟨by rw [HV.out]; rfl, by rw [HWA.out]; exact Fr.of_below (by rw [HB.out]; exact HBW.out)⟩
  · have hge : 0 ≤ seq := by omega
    have hlt : decide (seq < 0) = false := by simpa using hge
    have HV : Hid (bytesP ⟨seq, dims, meas, views, bats⟩ = if (headW ⟨seq, dims, meas, views, bats⟩).fault = 0 then catB bats (frameR (headW ⟨seq, dims, meas, views, bats⟩).data) else ([], 23)) := Lib.hid (by unfold bytesP; rw [if_neg hs])
    obtain ⟨wb, hwb⟩ : ∃ wb, wa.alloc (.cells #[.pointer none, .slice none 0 0] 72) = wb := ⟨_, rfl⟩
    have hBd : Bd wb (B + 1) [] := by rw [← hwb, ← hsa]; exact Bd.new wa
    have hbb : Below (B + 1) wa wb := by rw [← hwb]; exact (Below.refl _ _).alloc (by omega) _
    have hsb : wb.heap.size = B + 2 := by rw [← hwb]; simp [hsa]
    have hck : ∀ (w1 : World), Below (B + 1) wa w1 → CkAt K w1 ⟨seq, dims, meas, views, bats⟩ (.slice A1 n1 k1) (.slice A2 n2 k2) (.slice A3 n3 k3) (.slice A4 n4 k4) := fun w1 h1 => h.of fun k hk => by
      have := hK k hk
      rw [h1.block k (by omega), bw.block k (by omega)]
    have hx : ∀ (w1 : World), Below (B + 1) wa w1 → Blk w1 B 28 #[.int .i64 seq, .slice A1 n1 k1, .slice A2 n2 k2, .slice A3 n3 k3, .slice A4 n4 k4] := fun _ h => hbx.of (h.block B (by omega))
    have hsz : ∀ (w1 : World), Below (B + 1) wa w1 → B + 1 ≤ w1.heap.size := fun _ h1 => by have := h1.size; omega
    have C1 := headOf_any K ⟨seq, dims, meas, views, bats⟩ _ _ _ _ wb (hck _ hbb) (fun k hk => by have := hK k hk; omega)
    unfold ckv at C1 ⊢
    rw [hsb] at C1
    have HC1 := Lib.hid C1
    have HCK := Lib.hid hck
    have HX := Lib.hid hx
    have HSZ := Lib.hid hsz
    have HBB := Lib.hid hbb
    have HBD := Lib.hid hBd
    have HSB := Lib.hid hsb
    have HBW := Lib.hid bw
    have HWA := Lib.hid hwa
    have HWB := Lib.hid hwb
    have HB := Lib.hid hB
    have HN4 := Lib.hid en4
    have HNN := Lib.hid hn
    have HKK : Hid (∀ k, K k → k < B) := Lib.hid fun k hk => by have := hK k hk; omega
    have hb4 : n4 ≤ 9223372036854775807 := by have h4 : bats.length ≤ maxLen := hm4; unfold maxLen at h4; omega
    clear h hK hn e4' hm4 en4 hbx bw hsa hwa hB hs hwb hBd hbb hsb hck hx hsz C1
    go_enter Tryz.func11, Tryz.ntmps11
    go_wp2_with fail
    rw [HWA.out, HWB.out, HB.out]
    refine HC1.out.mono ?_
    rintro e w1 ⟨g, v1, rfl, h1⟩
    have hbd1 : Bd w1 (B + 1) [] := HBD.out.keep (Fr.of_below (by rw [HSB.out]; exact h1.2.1))
    have hbl1 : Below (B + 1) wa w1 := HBB.out.trans (h1.2.1.mono (by omega))
    have C2 := catlay_any (B + 1) [] (some g) v1 _ w1 hbd1 h1.1 (by simp)
    have hdl := h1.1.len
    generalize headW ⟨seq, dims, meas, views, bats⟩ = S0 at *
    rw [wpt_some] at C2
    by_cases hf0 : S0.fault = 0
    · rw [frL_ok hf0] at C2
      rw [if_pos hf0] at HV
      have hal : (frameR S0.data).length ≤ 65544 := by rw [frameR_len]; omega
      generalize frameR S0.data = acc0 at *
      rw [List.nil_append] at C2
      have HC2 := Lib.hid C2
      have HBL1 := Lib.hid hbl1
      have HAL := Lib.hid hal
      clear C2 hbl1 h1 hbd1 hf0 hdl HC1 hal
      go_wp2_with fail
      refine HC2.out.mono ?_
      rintro e w2 ⟨rfl, h2, b2⟩
      have hbl2 := HBL1.out.trans b2
      have x4 : w2.cell? ⟨B, 4, none⟩ = some (.slice A4 n4 k4) := (HX.out _ hbl2).cell 4
      have H2 := Lib.hid h2
      have HBL2 := Lib.hid hbl2
      clear h2 b2 hbl2 HC2 HBL1
      go_wp2
      go_loopw [22] (fun i wr => ∃ (j : Nat) (acc : List UInt8), j ≤ n4 ∧ i = .int .i64 j ∧ Bd wr (B + 1) acc ∧ Below (B + 1) wa wr ∧ acc.length ≤ 65544 * (j + 1) ∧ catB (bats.drop j) acc = catB bats acc0) (fun i _ => n4 - (intOf i).toNat)
      case atStart => exact ⟨0, acc0, by omega, rfl, H2.out, HBL2.out, by have := HAL.out; omega, rfl⟩
      case round =>
        obtain ⟨j, acc, hj, rfl, hbd, hbl, hacc, hcat⟩ := hrel
        by_cases hlt : j < n4
        · have hjl : j < bats.length := by rw [← HN4.out]; exact hlt
          rw [catB_step hjl] at hcat
          obtain ⟨A', c', e', _, hel⟩ := (HCK.out _ hbl).bats
          injection e' with ea eb ec
          subst ea
          obtain ⟨g, off, rfl, hg, hcell⟩ := hel (by omega)
          obtain ⟨cs, hlen, hcs2, vb, rfl, hrow⟩ := hcell j hjl
          have hc : _ = some vb := hcs2 0 (by omega)
          simp only [Nat.mul_one, Nat.add_zero] at hc
          obtain ⟨Ab, nb, cb, rfl⟩ := hrow.slice
          obtain ⟨G, hG⟩ : ∃ G, wr.heap.size = G := ⟨_, rfl⟩
          obtain ⟨wc, hwc⟩ : ∃ wc, wr.alloc (.cells #[.slice none 0 0, .int .i64 0] 78) = wc := ⟨_, rfl⟩
          have hN : WNew G wr wc G (.slice none 0 0) WS.zero := by
            refine ⟨by rw [← hwc, ← hG]; exact WAt.new wr, by rw [← hwc]; exact (Below.refl _ _).alloc (by omega) _, Nat.le_refl _, by simp [Value.ownBlock]⟩
          have hGB : B + 1 ≤ G := by rw [← hG]; exact HSZ.out _ hbl
          have hrow' := hrow.factOf (w' := wc) fun k hk => by
            have := HKK.out k hk
            rw [← hwc]; exact ((Below.refl wr.heap.size wr).alloc (Nat.le_refl _) _).block k (by omega)
          have C3 := wfacts_any (some G) _ _ K _ bats[j] wc hN.1 hrow' (hN.off (fun k hk => by have := HKK.out k hk; omega) (by rw [← hwc]; simp [hG]))
          rw [wpt_some] at C3
          have HC3 := Lib.hid C3
          have HNW := Lib.hid hN
          have HWC := Lib.hid hwc
          have HG := Lib.hid hG
          have HGB := Lib.hid hGB
          have HBD2 := Lib.hid hbd
          have HBL := Lib.hid hbl
          have HCAT := Lib.hid hcat
          have HACC := Lib.hid hacc
          generalize bats[j] = bj at *
          clear hcell hcs2 hlen hel eb ec hrow hrow' C3 hN hG hGB hbd hbl hcat hacc hwc
          go_wp2_with fail
          rw [HWC.out, HG.out]
          refine HC3.out.mono ?_
          clear HC3
          intro e w5 hw
          obtain ⟨rfl, v5, h5⟩ := HNW.out.call (by rw [← HWC.out]; simp [HG.out]) hw
          have hbd5 : Bd w5 (B + 1) acc := HBD2.out.keep (Fr.of_below (by rw [HG.out]; exact h5.2.1))
          have hbl5 : Below (B + 1) wa w5 := HBL.out.trans (h5.2.1.mono HGB.out)
          have hal5 : acc.length ≤ 140737488000000 := by have h1 := HACC.out; have h2 : bats.length ≤ 2000000000 := HNN.out; have h3 := HN4.out; omega
          have C6 := catlay_any (B + 1) acc (some G) v5 _ w5 hbd5 h5.1 hal5
          rw [wpt_some] at C6
          have hdl := h5.1.len
          generalize WS.zero.facts bj = S5 at *
          by_cases hf : S5.fault = 0
          · rw [frL_ok hf] at C6
            rw [if_pos hf] at HCAT
            have HC6 := Lib.hid C6
            have HBL5 := Lib.hid hbl5
            have HLN : Hid ((acc ++ frameR S5.data).length ≤ 65544 * (j + 1 + 1)) := Lib.hid (by rw [List.length_append, frameR_len]; have := HACC.out; omega)
            clear C6 hbl5 hbd5 hf hdl h5 hal5 hc hw HACC
            go_wp2_with fail
            refine HC6.out.mono ?_
            rintro e w6 ⟨rfl, h6, b6⟩
            have H6 := Lib.hid h6
            have HB6 := Lib.hid (HBL5.out.trans b6)
            clear h6 b6 HC6 HBL5
            go_wp2
            go_roundw
            case rel => exact ⟨j + 1, _, by omega, by go_num, H6.out, HB6.out, HLN.out, HCAT.out⟩
            case measure => simp [intOf]; omega
          · rw [frL_no hf] at C6
            rw [if_neg hf] at HCAT
            have HC6 := Lib.hid C6
            have HBL5 := Lib.hid hbl5
            clear C6 hbl5 hbd5 hf hdl h5 hal5 hc hw HACC
            go_wp2_with fail
            refine HC6.out.mono ?_
            rintro e w6 ⟨rfl, h6, b6⟩
            have HB6 := Lib.hid (HBL5.out.trans b6)
            clear h6 b6 HC6 HBL5
            go_wp2
            go_ret2
            exact ⟨by rw [HV.out, ← HCAT.out]; rfl, Fr.of_below (by rw [HB.out]; exact HBW.out.trans (HB6.out.mono (by omega)))⟩
        · obtain rfl : j = n4 := by omega
          have C7 := Tryz.Builder_String_any_k (B + 1) (B + 1) acc wr hbd (HSZ.out _ hbl)
          have HC7 := Lib.hid C7
          have HBL := Lib.hid hbl
          have HCAT : Hid (catB bats acc0 = (acc, 0)) := Lib.hid (by rw [← hcat, HN4.out, List.drop_length]; rfl)
          clear hbd hbl hcat hacc C7
          go_wp2_with fail
          refine HC7.out.mono ?_
          rintro e w8 ⟨rfl, _, b8, _⟩
          have HB8 := Lib.hid (HBL.out.trans b8)
          clear b8 HC7 HBL
          go_wp2
          go_ret2
          exact ⟨by rw [HV.out, HCAT.out]; rfl, Fr.of_below (by rw [HB.out]; exact HBW.out.trans (HB8.out.mono (by omega)))⟩
    · rw [frL_no hf0] at C2
      rw [if_neg hf0] at HV
      have HC2 := Lib.hid C2
      have HBL1 := Lib.hid hbl1
      clear C2 hbl1 h1 hbd1 hf0 hdl HC1
      go_wp2_with fail
      refine HC2.out.mono ?_
      rintro e w2 ⟨rfl, h2, b2⟩
      have HB2 := Lib.hid (HBL1.out.trans b2)
      clear h2 b2 HC2 HBL1
      go_wp2
      go_ret2
      exact ⟨by rw [HV.out]; rfl, Fr.of_below (by rw [HB.out]; exact HBW.out.trans (HB2.out.mono (by omega)))⟩
end Go.Proofs.YtoaiofjcjjkfaaaGreatDoor
/- What a checkpoint has beside its batches is taken up. -/
namespace Go.Proofs.YtoaiofjcjjkfaaaGreatDoor
open Go.RowKit Go.Maps
set_option linter.unusedVariables false

def RS.head (S : RS) : CkP × RS :=
  (⟨S.int.1, S.int.2.schema.1.1, S.int.2.schema.1.2, (seq RS.int (S.int.2.schema.2.count S.int.2.schema.2.rest.length).1 (S.int.2.schema.2.count S.int.2.schema.2.rest.length).2).1, []⟩,
    (seq RS.int (S.int.2.schema.2.count S.int.2.schema.2.rest.length).1 (S.int.2.schema.2.count S.int.2.schema.2.rest.length).2).2)
theorem info3 : (Tryz.prog.info? 3).map (fun i => (i.zero, i.size, i.bytes)) = some (some (.int .i64 0), 1, 8) := by kernel_rfl
theorem count_le (S : RS) (n : Nat) : (S.count n).1 ≤ n := by
  unfold RS.count
  split
  · exact Nat.zero_le _
  · split
    · simp only; omega
    · exact Nat.zero_le _
/-- A call that tells a checkpoint without batches. -/
def RPh (g : Nat) (w : World) (c : CkP) (S' : RS) (e : Ending) (w' : World) : Prop :=
  ∃ dv mv vv, e = .returned (ckv c dv mv vv (.slice none 0 0)) ∧ RAt w' (some g) S' ∧ Fr (RFt (some g)) w w' ∧ CkAt (fun k => w.heap.size ≤ k) w' c dv mv vv (.slice none 0 0)
def zero5 : Array Value := #[.int .i64 0, .slice none 0 0, .slice none 0 0, .slice none 0 0, .slice none 0 0]
set_option maxRecDepth 100000 in
set_option maxHeartbeats 4000000 in
theorem unHead_any (g : Nat) (S : RS) (w : World) (h : RAt w (some g) S) : Calls Tryz.prog 43 #[wpt (some g)] w (RPh g w S.head.1 S.head.2) := by
  obtain ⟨gr, hgr⟩ : ∃ gr, w.heap.size = gr := ⟨_, rfl⟩
  obtain ⟨wa, hwa⟩ : ∃ wa, w.alloc (.cells #[.int .i64 0, .slice none 0 0, .slice none 0 0, .slice none 0 0, .slice none 0 0] 28) = wa := ⟨_, rfl⟩
  have hsa : wa.heap.size = gr + 1 := by rw [← hwa, ← hgr]; simp
  obtain ⟨wb, hwb⟩ : ∃ wb, wa.alloc (.cells #[.int .i64 0, .slice none 0 0, .slice none 0 0, .slice none 0 0, .slice none 0 0] 28) = wb := ⟨_, rfl⟩
  have hsb : wb.heap.size = gr + 2 := by rw [← hwb]; simp [hsa]
  have hggr : g < gr := by have := h.lt g rfl; omega
  have hbr0 : Blk wa gr 28 zero5 := by rw [← hwa, ← hgr]; exact Blk.new w 28 _
  have hbf0 : Blk wb (gr + 1) 28 zero5 := by rw [← hwb, ← hsa]; exact Blk.new wa 28 _
  have hbr : Blk wb gr 28 zero5 := hbr0.of (by rw [← hwb]; exact ((Fr.refl No wa).alloc _).block gr hbr0.lt id)
  have hf0 : Fr (RFt (some g)) w wb := by rw [← hwb, ← hwa]; exact ((Fr.refl _ w).alloc _).alloc _
  have h0 : RAt wb (some g) S := by rw [← hwb, ← hwa]; exact (h.alloc _).alloc _
  have C1 := rint_any (some g) S wb h0
  have HC1 := Lib.hid C1
  have HH : Hid (S.head = (⟨S.int.1, S.int.2.schema.1.1, S.int.2.schema.1.2, (seq RS.int (S.int.2.schema.2.count S.int.2.schema.2.rest.length).1 (S.int.2.schema.2.count S.int.2.schema.2.rest.length).2).1, []⟩, (seq RS.int (S.int.2.schema.2.count S.int.2.schema.2.rest.length).1 (S.int.2.schema.2.count S.int.2.schema.2.rest.length).2).2)) := Lib.hid rfl
  have HI64 := Lib.hid (int_bd S)
  have HBR := Lib.hid hbr
  have HBF := Lib.hid hbf0
  have HF0 := Lib.hid hf0
  have HGR := Lib.hid hgr
  have HSA := Lib.hid hsa
  have HSB := Lib.hid hsb
  have HWA := Lib.hid hwa
  have HWB := Lib.hid hwb
  have HGG := Lib.hid hggr
  clear C1 h0 hf0 hbr hbf0 hbr0 hsb hsa hwb hwa h hgr hggr
  rw [wpt_some] at HC1 ⊢
  go_enter Tryz.func43, Tryz.ntmps43
  go_wp2_with fail
  rw [HWA.out, HWB.out, HGR.out]
  refine HC1.out.mono ?_
  clear HC1
  rintro e w2 ⟨rfl, h2, f2⟩
  have hne : ∀ k, RFt (some g) k → k < gr := fun k e => by have e' : g = k := Option.some.inj e; have := HGG.out; omega
  have HNE := Lib.hid hne
  have hbf2 : Blk w2 (gr + 1) 28 zero5 := HBF.out.of (f2.block _ HBF.out.lt fun e => by have := hne _ e; omega)
  have hbr2 : Blk w2 gr 28 zero5 := HBR.out.of (f2.block _ HBR.out.lt fun e => by have := hne _ e; omega)
  have x0 : w2.cell? ⟨gr + 1, 0, none⟩ = some (.int .i64 0) := hbf2.cell 0
  have z0 := hbf2.frozen 0
  obtain ⟨sq, hsq⟩ : ∃ sq, S.int.1 = sq := ⟨_, rfl⟩
  obtain ⟨S2, hS2⟩ : ∃ S2, S.int.2 = S2 := ⟨_, rfl⟩
  rw [hsq, hS2] at HH
  rw [hS2] at h2
  rw [hsq] at HI64 ⊢
  obtain ⟨w3, hw3⟩ : ∃ w3, w2.setCell ⟨gr + 1, 0, none⟩ (.int .i64 sq) = w3 := ⟨_, rfl⟩
  have hf3 : Fr (One (gr + 1)) w2 w3 := by rw [← hw3]; exact Fr.set0 _ _ _ _
  have hbf3 : Blk w3 (gr + 1) 28 #[.int .i64 sq, .slice none 0 0, .slice none 0 0, .slice none 0 0, .slice none 0 0] := by rw [← hw3]; exact hbf2.set_ 0 _
  have hbr3 : Blk w3 gr 28 zero5 := hbr2.of (hf3.block _ hbr2.lt fun e => by unfold One at e; omega)
  have h3 : RAt w3 (some g) S2 := h2.of fun k hk => hf3.block k (h2.lt k hk) fun e => by have := hne k hk; unfold One at e; omega
  have HF2 := Lib.hid (HF0.out.then f2)
  have C2 := rschema_any (some g) S2 w3 h3
  rw [wpt_some] at C2
  have HC2 := Lib.hid C2
  have HBF3 := Lib.hid hbf3
  have HBR3 := Lib.hid hbr3
  have HF3 := Lib.hid hf3
  have HW3 := Lib.hid hw3
  have HS23 : Hid (w2.heap.size = w3.heap.size ∧ gr + 2 ≤ w2.heap.size) := Lib.hid ⟨by rw [← hw3]; simp, by have := f2.size; have := HSB.out; omega⟩
  clear hsq hS2 h2 f2 hbf2 hbr2 hw3 hf3 hbf3 hbr3 h3 C2 hne
  go_wp2_with fail
  rw [HW3.out]
  refine HC2.out.mono ?_
  clear HC2 x0 z0
  rintro e w4 ⟨dv, mv, rfl, h4, f4, r1, r2⟩
  obtain ⟨A1, n1, c1, rfl⟩ := r1.slice
  obtain ⟨A2, n2, c2, rfl⟩ := r2.slice
  have hne := HNE.out
  have hbf4 := HBF3.out.of (f4.block _ HBF3.out.lt fun e => by have := hne _ e; omega)
  have hbr4 := HBR3.out.of (f4.block _ HBR3.out.lt fun e => by have := hne _ e; omega)
  have y1 : w4.cell? ⟨gr + 1, 1, none⟩ = some (.slice none 0 0) := hbf4.cell 1
  have y2 : w4.cell? ⟨gr + 1, 2, none⟩ = some (.slice none 0 0) := hbf4.cell 2
  have z1 := hbf4.frozen 1
  have z2 := hbf4.frozen 2
  obtain ⟨w5, hw5⟩ : ∃ w5, (w4.setCell ⟨gr + 1, 1, none⟩ (.slice A1 n1 c1)).setCell ⟨gr + 1, 2, none⟩ (.slice A2 n2 c2) = w5 := ⟨_, rfl⟩
  have hf5 : Fr (One (gr + 1)) w4 w5 := by rw [← hw5]; exact (Fr.set0 _ _ _ _).set1 _ _
  have hbf5 : Blk w5 (gr + 1) 28 #[.int .i64 sq, .slice A1 n1 c1, .slice A2 n2 c2, .slice none 0 0, .slice none 0 0] := by rw [← hw5]; exact (hbf4.set_ 1 _).set_ 2 _
  have hbr5 := hbr4.of (hf5.block _ hbr4.lt fun e => by unfold One at e; omega)
  have h5 : RAt w5 (some g) S2.schema.2 := h4.of fun k hk => hf5.block k (h4.lt k hk) fun e => by have := hne k hk; unfold One at e; omega
  obtain ⟨b, hb⟩ : ∃ b, w5.heap.size = b := ⟨_, rfl⟩
  have hgw := HS23.out
  have hb4 : w4.heap.size = b := by rw [← hb, ← hw5]; simp
  have hgb : gr + 2 ≤ b := by have := f4.size; omega
  have q1 : RowE (fun k => gr + 1 < k ∧ k < b) w5 1 strE (.slice A1 n1 c1) S2.schema.1.1 := ((r1.bound (by omega)).mono fun k hk => ⟨by have := hk.1; omega, by have := hk.2; omega⟩).of (fun k hk => hf5.block k (by omega) fun e => by unfold One at e; omega) fun _ _ h => h
  have q2 : RowE (fun k => gr + 1 < k ∧ k < b) w5 1 strE (.slice A2 n2 c2) S2.schema.1.2 := ((r2.bound (by omega)).mono fun k hk => ⟨by have := hk.1; omega, by have := hk.2; omega⟩).of (fun k hk => hf5.block k (by omega) fun e => by unfold One at e; omega) fun _ _ h => h
  have hfw5 : Fr (RFt (some g)) w w5 := ((HF2.out.trans HF3.out fun j hj e => by unfold One at e; have := HGR.out; omega).then f4).trans hf5 fun j hj e => by unfold One at e; have := HGR.out; omega
  have hsl := h5.len
  obtain ⟨S3, hS3⟩ : ∃ S3, S2.schema.2 = S3 := ⟨_, rfl⟩
  obtain ⟨D, hD⟩ : ∃ D, S2.schema.1.1 = D := ⟨_, rfl⟩
  obtain ⟨M, hM⟩ : ∃ M, S2.schema.1.2 = M := ⟨_, rfl⟩
  rw [hS3, hD, hM] at HH
  rw [hS3] at h5 hsl
  rw [hD] at q1
  rw [hM] at q2
  have CL := rleft_any (some g) S3 w5 h5
  have CC := rcount_any (some g) S3 (S3.rest.length : Nat) w5 h5
  have hnle := count_le S3 S3.rest.length
  have hn : (S3.count S3.rest.length).1 ≤ 1073741824 := by omega
  rw [wpt_some] at CL CC
  obtain ⟨L, hL⟩ : ∃ L, S3.rest.length = L := ⟨_, rfl⟩
  rw [hL] at CL CC hn HH
  have HCL := Lib.hid CL
  have HCC := Lib.hid CC
  have HBF5 := Lib.hid hbf5
  have HBR5 := Lib.hid hbr5
  have HQ1 := Lib.hid q1
  have HQ2 := Lib.hid q2
  have HFW5 := Lib.hid hfw5
  have HW5 := Lib.hid hw5
  have HB := Lib.hid hb
  have HGB := Lib.hid hgb
  generalize (S3.count (L : Nat)).1 = n at *
  generalize (S3.count (L : Nat)).2 = S4 at *
  clear hS3 hD hM h5 hsl CL CC hnle hL hbf5 hbr5 q1 q2 hfw5 hw5 hb hgb hgw hb4 hf5 hbf4 hbr4 h4 f4 r1 r2 hne HF2 HF3 HBF3 HBR3 HS23
  go_wp2_with fail
  rw [HW5.out]
  refine HCL.out.mono ?_
  rintro e w' ⟨rfl, rfl⟩
  clear y1 y2 z1 z2 HCL
  go_wp2_with fail
  refine HCC.out.mono ?_
  rintro e w6 ⟨rfl, h6, f6⟩
  have hne := HNE.out
  have hbf6 := HBF5.out.of (f6.block _ HBF5.out.lt fun e => by have := hne _ e; omega)
  have H6 := Lib.hid h6
  have HBF6 := Lib.hid hbf6
  have HF6 : Hid (Fr (FB g (gr + 1)) w5 w6) := Lib.hid (f6.mono fun k _ hk => .inl (Option.some.inj hk).symm)
  clear h6 f6 hne hbf6 HCC
  go_wp2
  go_loopw [14] (fun i wr => ∃ j : Nat, ∃ A c, j ≤ n ∧ i = .int .i64 j ∧ Blk wr (gr + 1) 28 #[.int .i64 sq, .slice A1 n1 c1, .slice A2 n2 c2, .slice A j c, .slice none 0 0] ∧ Grow b 3 1 intG wr (.slice A j c) (seq RS.int j S4).1 ∧ RAt wr (some g) (seq RS.int j S4).2 ∧ Fr (FB g (gr + 1)) w5 wr) (fun i _ => n - (intOf i).toNat)
  case atStart => exact ⟨0, _, _, by omega, rfl, HBF6.out, Grow.nil0 _ _ _ _ _, H6.out, HF6.out⟩
  case round =>
    obtain ⟨j, A, c, hj, rfl, hbk, hg, hr, hf⟩ := hrel
    have HBK := Lib.hid hbk
    have HG := Lib.hid hg
    have HR0 := Lib.hid hr
    have HF := Lib.hid hf
    have HQ : Hid (seq RS.int (j + 1) S4 = ((seq RS.int j S4).1 ++ [(RS.int (seq RS.int j S4).2).1], (RS.int (seq RS.int j S4).2).2)) := Lib.hid rfl
    have HL := Lib.hid (seq_len RS.int S4 j)
    clear hbk hg hr hf
    by_cases hlt : j < n
    · have x3 : wr.cell? ⟨gr + 1, 3, none⟩ = some (.slice A j c) := HBK.out.cell 3
      have HC : Hid (Calls Tryz.prog 89 #[.pointer (some ⟨g, 0, none⟩)] wr.drew fun e w4 => e = .returned (.int .i64 (RS.int (seq RS.int j S4).2).1) ∧ ∃ A' c' w5', w4.cell? ⟨gr + 1, 3, none⟩ = some (.slice A j c) ∧ (w4.alloc (.cells #[.int .i64 (RS.int (seq RS.int j S4).2).1] 3)).cell? ⟨gr + 1, 3, none⟩ = some (.slice A j c) ∧ w5'.cell? ⟨gr + 1, 3, none⟩ = some (.slice A j c) ∧ w5'.frozen? ⟨gr + 1, 3, none⟩ = false ∧
          (∀ ty, (Builtin.append_ #[25, 25] ty #[.slice A j c, .slice (some ⟨w4.heap.size, 0, none⟩) 1 1]).run Tryz.prog (w4.alloc (.cells #[.int .i64 (RS.int (seq RS.int j S4).2).1] 3)) = .ok (.slice A' (j + 1) c') w5') ∧
          Blk w5' (gr + 1) 28 #[.int .i64 sq, .slice A1 n1 c1, .slice A2 n2 c2, .slice A j c, .slice none 0 0] ∧ Grow b 3 1 intG w5' (.slice A' (j + 1) c') (seq RS.int (j + 1) S4).1 ∧ RAt w5' (some g) (seq RS.int (j + 1) S4).2 ∧ Fr (FB g (gr + 1)) w5 w5') := by
        have hgb := HGB.out
        have hne := HNE.out
        refine Lib.hid ((rint_any (some g) (seq RS.int j S4).2 wr.drew (HR0.out.keep ((Fr.refl _ _).drew))).mono ?_)
        rintro e w4 ⟨rfl, h4, f4⟩
        refine ⟨rfl, ?_⟩
        have hg4 := HG.out.keep intG_elem (((Fr.refl (RFt (some g)) wr).drew).trans f4 fun _ _ h => h) (fun k hk => by have := hne k hk; omega)
        have hb4 : Blk w4 (gr + 1) 28 #[.int .i64 sq, .slice A1 n1 c1, .slice A2 n2 c2, .slice A j c, .slice none 0 0] := HBK.out.of (f4.block _ HBK.out.lt fun e => by have := hne _ e; omega)
        have hel : intG (fun x => wr.heap.size ≤ x) w4 (RS.int (seq RS.int j S4).2).1 [.int .i64 (RS.int (seq RS.int j S4).2).1] := ⟨rfl, int_bd _⟩
        have hbw : b ≤ wr.heap.size := by have := HF.out.size; rw [HB.out] at this; exact this
        obtain ⟨A', c', w5', hap, hg5, f5, hlt5⟩ := hg4.more intG_elem (w0 := wr) hbw f4.size (fun x hx => (HG.out.lt x hx).2) 25 Tryz.underlying25 (.int .i64 0) info3 rfl (by omega) _ [.int .i64 (RS.int (seq RS.int j S4).2).1] rfl (by simp [Value.oneCell']) hel (by rw [HL.out]; omega) (by rw [HL.out]; unfold maxLen; omega)
        rw [HL.out] at hap hg5
        have hb5 : Blk w5' (gr + 1) 28 #[.int .i64 sq, .slice A1 n1 c1, .slice A2 n2 c2, .slice A j c, .slice none 0 0] := hb4.of (f5.block _ hb4.lt fun hx => by have := (HG.out.lt _ hx).1; omega)
        refine ⟨A', c', w5', hb4.cell 3, (hb4.of (((Fr.refl No w4).alloc _).block _ hb4.lt id)).cell 3, hb5.cell 3, hb5.frozen 3, hap, hb5, by rw [HQ.out]; exact hg5, by rw [HQ.out]; exact h4.of (fun k hk => f5.block k (h4.lt k hk) fun hx => by have := (HG.out.lt k hx).1; have := hne k hk; omega), ?_⟩
        exact (HF.out.trans ((((Fr.refl (FB g (gr + 1)) wr).drew).trans f4 fun k _ hk => .inl (Option.some.inj hk).symm)) fun _ _ h => h).trans f5 fun x hlx hx => by have := (HG.out.lt x hx).1; have := HB.out; omega
      generalize (RS.int (seq RS.int j S4).2).1 = xv at *
      go_upto_region 6 with fail
      go_region_law (first
        | (refine step_add rfl _ _ _ _ rfl _ _ rfl rfl (HAP.out _) ?_)
        | (go_simp; go_at_call 89; refine HC.out.mono ?_; rintro e w4 ⟨rfl, A', c', w5', x4, x5, y1, z1, hap, hB, hG, hR, hF⟩; have HAP := Lib.hid hap; have HB5 := Lib.hid hB; have HG5 := Lib.hid hG; have HR5 := Lib.hid hR; have HF5 := Lib.hid hF; clear hap hB hG hR hF))
      all_goals
        go_wp2
        go_roundw
        case rel => exact ⟨j + 1, A', c', by omega, by go_num, HB5.out.set_ 3 _, HG5.out.keep intG_elem (Fr.set0 (gr + 1) _ 3 _) (fun k hk => by have : k = gr + 1 := hk; have := HGB.out; omega), HR5.out.of (fun k hk => Below.heap_setCell _ _ _ _ (by have := HNE.out k hk; show k ≠ gr + 1; omega)), (HF5.out.setCell (p := ⟨gr + 1, 3, none⟩) (fun _ => .inr rfl) _)⟩
        case measure => simp [intOf]; omega
    · obtain rfl : j = n := by omega
      have hne := HNE.out
      have hgb := HGB.out
      have hbx : Blk wr gr 28 zero5 := HBR5.out.of (HF.out.block gr HBR5.out.lt fun hk => by have := HGG.out; unfold FB at hk; omega)
      have x0 : wr.cell? ⟨gr + 1, 0, none⟩ = some (.int .i64 sq) := HBK.out.cell 0
      have x1 : wr.cell? ⟨gr + 1, 1, none⟩ = some (.slice A1 n1 c1) := HBK.out.cell 1
      have x2 : wr.cell? ⟨gr + 1, 2, none⟩ = some (.slice A2 n2 c2) := HBK.out.cell 2
      have x3 : wr.cell? ⟨gr + 1, 3, none⟩ = some (.slice A j c) := HBK.out.cell 3
      have x4 : wr.cell? ⟨gr + 1, 4, none⟩ = some (.slice none 0 0) := HBK.out.cell 4
      have z0 : wr.cell? ⟨gr, 0, none⟩ = some (.int .i64 0) := hbx.cell 0
      have z1 : wr.cell? ⟨gr, 1, none⟩ = some (.slice none 0 0) := hbx.cell 1
      have z2 : wr.cell? ⟨gr, 2, none⟩ = some (.slice none 0 0) := hbx.cell 2
      have z3 : wr.cell? ⟨gr, 3, none⟩ = some (.slice none 0 0) := hbx.cell 3
      have z4 : wr.cell? ⟨gr, 4, none⟩ = some (.slice none 0 0) := hbx.cell 4
      have y0 := hbx.frozen 0
      have y1 := hbx.frozen 1
      have y2 := hbx.frozen 2
      have y3 := hbx.frozen 3
      have y4 := hbx.frozen 4
      have hgl := HGG.out
      have r1 : RowE (fun k => gr + 1 < k ∧ k < b) wr 1 strE (.slice A1 n1 c1) D := HQ1.out.of (fun k hk => HF.out.block k (by rw [HB.out]; omega) fun e => by unfold FB at e; omega) fun _ _ h => h
      have r2 : RowE (fun k => gr + 1 < k ∧ k < b) wr 1 strE (.slice A2 n2 c2) M := HQ2.out.of (fun k hk => HF.out.block k (by rw [HB.out]; omega) fun e => by unfold FB at e; omega) fun _ _ h => h
      have r3 := HG.out.row intG_elem (by rw [HL.out]; unfold maxLen; omega)
      have hw : Fr (RFt (some g)) w wr := HFW5.out.trans HF.out fun k hk hk' => by
        rcases hk' with e | e
        · exact congrArg some e.symm
        · have := HGR.out; omega
      have hfin : ∀ u0 u1 u2 u3 u4, RAt (((((wr.setCell ⟨gr, 0, none⟩ u0).setCell ⟨gr, 1, none⟩ u1).setCell ⟨gr, 2, none⟩ u2).setCell ⟨gr, 3, none⟩ u3).setCell ⟨gr, 4, none⟩ u4) (some g) (seq RS.int j S4).2 ∧ Fr (RFt (some g)) w (((((wr.setCell ⟨gr, 0, none⟩ u0).setCell ⟨gr, 1, none⟩ u1).setCell ⟨gr, 2, none⟩ u2).setCell ⟨gr, 3, none⟩ u3).setCell ⟨gr, 4, none⟩ u4) ∧
          CkAt (fun k => w.heap.size ≤ k) (((((wr.setCell ⟨gr, 0, none⟩ u0).setCell ⟨gr, 1, none⟩ u1).setCell ⟨gr, 2, none⟩ u2).setCell ⟨gr, 3, none⟩ u3).setCell ⟨gr, 4, none⟩ u4) ⟨sq, D, M, (seq RS.int j S4).1, []⟩ (.slice A1 n1 c1) (.slice A2 n2 c2) (.slice A j c) (.slice none 0 0) := by
        intro u0 u1 u2 u3 u4
        have hset : Fr (One gr) wr (((((wr.setCell ⟨gr, 0, none⟩ u0).setCell ⟨gr, 1, none⟩ u1).setCell ⟨gr, 2, none⟩ u2).setCell ⟨gr, 3, none⟩ u3).setCell ⟨gr, 4, none⟩ u4) := ((((Fr.set0 gr wr 0 u0).set1 1 u1).set1 2 u2).set1 3 u3).set1 4 u4
        have hk : ∀ k, gr < k → k < wr.heap.size → _ := fun k hk hk2 => hset.block k hk2 (fun e => by unfold One at e; omega)
        have hbw : b ≤ wr.heap.size := by have := HF.out.size; rw [HB.out] at this; exact this
        refine ⟨HR0.out.of fun k hk' => hset.block k (HR0.out.lt k hk') fun e => by have := hne k hk'; unfold One at e; omega, hw.trans hset fun k hk' e => by have := HGR.out; unfold One at e; omega, ?_⟩
        refine ⟨HI64.out, (r1.of (fun k hk' => hk k (by omega) (by omega)) fun _ _ h => h).mono fun k hk' => by have := HGR.out; omega, (r2.of (fun k hk' => hk k (by omega) (by omega)) fun _ _ h => h).mono fun k hk' => by have := HGR.out; omega, ?_, RowE.nil _ _ _ _ _⟩
        exact (((r3.bound (by omega)).of (fun k hk' => hk k (by omega) (by omega)) fun _ _ h => h).mono fun k hk' => by have := HGR.out; omega)
      have HFIN := Lib.hid hfin
      have HE : Hid (S.head = (⟨sq, D, M, (seq RS.int j S4).1, []⟩, (seq RS.int j S4).2)) := Lib.hid HH.out
      clear hbx r1 r2 r3 hw hfin hne hgb hgl
      go_wp2
      refine bodyPost_ret (v := ckv ⟨sq, D, M, (seq RS.int j S4).1, []⟩ (.slice A1 n1 c1) (.slice A2 n2 c2) (.slice A j c) (.slice none 0 0)) (by simp [results, Tryz.results43, go_sem, ckv, z0, z1, z2, z3, z4]) rfl ?_
      obtain ⟨q1, q2, q3⟩ := HFIN.out (.int .i64 sq) (.slice A1 n1 c1) (.slice A2 n2 c2) (.slice A j c) (.slice none 0 0)
      rw [HE.out]
      exact ⟨_, _, _, rfl, q1, q2, q3⟩
end Go.Proofs.YtoaiofjcjjkfaaaGreatDoor
/- A checkpoint's bytes are read. -/
namespace Go.Proofs.YtoaiofjcjjkfaaaGreatDoor
open Go.RowKit Go.Maps
set_option linter.unusedVariables false

/-- So many batches more, from what is left. -/
def readL (seq : Int) : Nat → RS → List UInt8 → List (List FactP) → Option (List (List FactP))
  | 0, R, T, bats => if R.done = 0 ∧ 0 ≤ seq ∧ T = [] then some bats else none
  | k + 1, R, T, bats => if R.done = 0 ∧ 0 ≤ seq then readL seq k (ufR T).facts.2 (ufT T) (bats ++ [(ufR T).facts.1]) else none
def readQ (c : CkP) : Option (List (List FactP)) → CkP × Int
  | some b => (⟨c.seq, c.dims, c.meas, c.views, b⟩, 0)
  | none => (CkP.zero, 27)
def readN (c : CkP) (S : RS) (T : List UInt8) : CkP × Int := readQ c (readL c.seq (S.count T.length).1 (S.count T.length).2 T [])
def readP (s : List UInt8) : CkP × Int := readN (ufR s).head.1 (ufR s).head.2 (ufT s)
abbrev batG (K : Nat → Prop) (w : World) (b : List FactP) (cs : List Value) : Prop := batE K w b cs
theorem batG_elem : Elem batG := ⟨fun K K' w w' x cs h hk => by
  obtain ⟨v, e, h1⟩ := h
  refine ⟨v, e, ?_⟩
  have h2 := h1.bound (by omega)
  exact (h2.of (w' := w') (fun k hk' => (hk k hk'.1 hk'.2).2) fun f cs hf => factG_elem.mono K K' w w' f cs hf hk).mono fun k hk' => (hk k hk'.1 hk'.2).1⟩
theorem info76 : (Tryz.prog.info? 76).map (fun i => (i.zero, i.size, i.bytes)) = some (some (.slice none 0 0), 1, 24) := by kernel_rfl
theorem ufT_len (l : List UInt8) : (ufT l).length ≤ l.length := by unfold ufT; simp
/-- A call that tells a checkpoint and an error. -/
def RdP (w : World) (c : CkP) (E : Int) (e : Ending) (w' : World) : Prop :=
  ∃ dv mv vv bv, e = .returned (.tuple #[ckv c dv mv vv bv, .int .i64 E]) ∧ Fr No w w' ∧ CkAt (fun k => w.heap.size ≤ k) w' c dv mv vv bv
set_option maxRecDepth 100000 in
set_option maxHeartbeats 400000 in
theorem read_ck_any (s : List UInt8) (w : World) (hs : s.length ≤ 1000000000) : Calls Tryz.prog 15 #[sv s] w (RdP w (readP s).1 (readP s).2) := by
  obtain ⟨gr, hgr⟩ : ∃ gr, w.heap.size = gr := ⟨_, rfl⟩
  obtain ⟨wa, hwa⟩ : ∃ wa, w.alloc (.cells #[.int .i64 0, .slice none 0 0, .slice none 0 0, .slice none 0 0, .slice none 0 0] 28) = wa := ⟨_, rfl⟩
  have hsa : wa.heap.size = gr + 1 := by rw [← hwa, ← hgr]; simp
  have hbr0 : Blk wa gr 28 zero5 := by rw [← hwa, ← hgr]; exact Blk.new w 28 _
  have hf0 : Fr No w wa := by rw [← hwa]; exact (Fr.refl _ w).alloc _
  have C1 := Lib.hid (unframed_any s wa (by unfold maxLen; omega))
  have HV : Hid (readP s = readN (ufR s).head.1 (ufR s).head.2 (ufT s)) := Lib.hid rfl
  have htl := ufT_len s
  obtain ⟨T0, hT0⟩ : ∃ T0, ufT s = T0 := ⟨_, rfl⟩
  obtain ⟨R0, hR0⟩ : ∃ R0, ufR s = R0 := ⟨_, rfl⟩
  rw [hT0, hR0] at HV C1
  rw [hT0] at htl
  have HBR := Lib.hid hbr0
  have HF0 := Lib.hid hf0
  have HSA := Lib.hid hsa
  have HWA := Lib.hid hwa
  have HGR := Lib.hid hgr
  clear hbr0 hf0 hsa hwa hgr hT0 hR0
  go_enter Tryz.func15, Tryz.ntmps15
  go_wp2_with fail
  rw [HWA.out]
  go_step3
  go_wp2_with fail
  refine C1.out.mono ?_
  clear C1
  rintro e w1 ⟨g, rfl, h1, f1, hg⟩
  have hgg : gr < g := by have := HSA.out; omega
  have hbr1 := HBR.out.of (f1.block _ HBR.out.lt id)
  have C2' := unHead_any g R0 w1 h1
  rw [wpt_some] at C2' ⊢
  have C2 := Lib.hid C2'
  have HF1 := Lib.hid (HF0.out.trans f1 fun _ _ h => h)
  have HBR1 := Lib.hid hbr1
  have HGG := Lib.hid hgg
  have HS1 : Hid (gr + 1 ≤ w1.heap.size ∧ g < w1.heap.size) := Lib.hid ⟨by have := f1.size; have := HSA.out; omega, h1.lt g rfl⟩
  clear h1 f1 hg hgg hbr1 HBR HF0 C2'
  go_wp2_with fail
  refine C2.out.mono ?_
  clear C2
  rintro e w2 ⟨dv, mv, vv, rfl, h2, f2, hck⟩
  obtain ⟨A1, n1, c1, A2, n2, c2, A3, n3, c3, _, _, _, rfl, rfl, rfl, _⟩ := hck.forms
  obtain ⟨gc, hgc⟩ : ∃ gc, w2.heap.size = gc := ⟨_, rfl⟩
  obtain ⟨c0, hc0⟩ : ∃ c0, R0.head.1 = c0 := ⟨_, rfl⟩
  obtain ⟨S1, hS1⟩ : ∃ S1, R0.head.2 = S1 := ⟨_, rfl⟩
  rw [hc0, hS1] at HV
  rw [hS1] at h2
  rw [hc0] at hck ⊢
  obtain ⟨seq, dims, meas, views, bats0⟩ := c0
  unfold ckv
  obtain ⟨w3, hw3⟩ : ∃ w3, w2.alloc (.cells #[.int .i64 seq, .slice A1 n1 c1, .slice A2 n2 c2, .slice A3 n3 c3, .slice none 0 0] 28) = w3 := ⟨_, rfl⟩
  have hbr2 := HBR1.out.of (f2.block _ HBR1.out.lt fun e => by have e' : g = gr := Option.some.inj e; have := HGG.out; omega)
  have hs1 := HS1.out
  have hgc1 : gr + 1 ≤ gc := by have := f2.size; omega
  have hggc : g < gc := by have := f2.size; omega
  have hbc : Blk w3 gc 28 #[.int .i64 seq, .slice A1 n1 c1, .slice A2 n2 c2, .slice A3 n3 c3, .slice none 0 0] := by rw [← hw3, ← hgc]; exact Blk.new w2 28 _
  have hfa : Fr No w2 w3 := by rw [← hw3]; exact (Fr.refl _ w2).alloc _
  have hbr3 := hbr2.of (hfa.block _ hbr2.lt id)
  have h3 : RAt w3 (some g) S1 := h2.keep hfa
  have hf3 : Fr No w w3 := (HF1.out.trans f2 fun j hj e => by have e' : g = j := Option.some.inj e; have := HGG.out; have := HGR.out; omega).trans hfa fun _ _ h => h
  have hck3 : CkAt (fun k => g < k ∧ k < gc) w3 ⟨seq, dims, meas, views, []⟩ (.slice A1 n1 c1) (.slice A2 n2 c2) (.slice A3 n3 c3) (.slice none 0 0) := by
    have q1 := (hck.dims.bound (by omega)).of (w' := w3) (E' := strE) (fun k hk => hfa.block k hk.2 id) fun _ _ h => h
    have q2 := (hck.meas.bound (by omega)).of (w' := w3) (E' := strE) (fun k hk => hfa.block k hk.2 id) fun _ _ h => h
    have q3 := (hck.views.bound (by omega)).of (w' := w3) (E' := intE) (fun k hk => hfa.block k hk.2 id) fun _ _ h => h
    exact ⟨hck.seq, q1.mono fun k hk => ⟨by omega, by omega⟩, q2.mono fun k hk => ⟨by omega, by omega⟩, q3.mono fun k hk => ⟨by omega, by omega⟩, RowE.nil _ _ _ _ _⟩
  have CC := rcount_any (some g) S1 (T0.length : Nat) w3 h3
  rw [wpt_some] at CC
  have hnle := count_le S1 T0.length
  have hT0 : T0.length ≤ 1000000000 := by omega
  have hn : (S1.count (T0.length : Nat)).1 ≤ 1000000000 := by omega
  have HV2 : Hid (readP s = readQ ⟨seq, dims, meas, views, bats0⟩ (readL seq (S1.count (T0.length : Nat)).1 (S1.count (T0.length : Nat)).2 T0 [])) := Lib.hid HV.out
  generalize (S1.count (T0.length : Nat)).1 = n at *
  generalize (S1.count (T0.length : Nat)).2 = S2 at *
  have HCC := Lib.hid CC
  have HW3 := Lib.hid hw3
  have HGC := Lib.hid hgc
  have HBC := Lib.hid hbc
  have HBR3 := Lib.hid hbr3
  have HF3 := Lib.hid hf3
  have HCK3 := Lib.hid hck3
  have HGC1 := Lib.hid hgc1
  have HGGC := Lib.hid hggc
  clear hbr2 hs1 hgc1 hggc hbc hfa hbr3 h3 hf3 hck3 CC hnle hw3 hgc h2 f2 hck hc0 hS1 HV HF1 HBR1 HS1 hs htl
  go_wp2_with fail
  rw [HW3.out, HGC.out]
  refine HCC.out.mono ?_
  clear HCC
  rintro e w4 ⟨rfl, h4, f4⟩
  have hgc' := HGC1.out
  have hg' := HGGC.out
  have hbc4 := HBC.out.of (f4.block _ HBC.out.lt fun e => by have e' : g = gc := Option.some.inj e; omega)
  have H4 := Lib.hid h4
  have HBC4 := Lib.hid hbc4
  have HF4 : Hid (Fr (FB g gc) w3 w4) := Lib.hid (f4.mono fun k _ hk => .inl (Option.some.inj hk).symm)
  clear h4 f4 hbc4
  go_wp2
  go_step3
  go_wp2
  rw [HGR.out]
  have hgc' := HGC1.out
  have HB3 : Hid (w3.heap.size = gc + 1) := Lib.hid (by rw [← HW3.out]; simp [HGC.out])
  have HN := Lib.hid hn
  go_loopg [4, 5] n (fun k r4 r5 wr => ∃ (g' m : Nat) (R : RS) (T : List UInt8) (bats : List (List FactP)) (A : Option Addr) (c : Nat), r4 = .pointer (some ⟨g', 0, none⟩) ∧ r5 = sv T ∧ bats.length = m ∧ m + k = n ∧ T.length ≤ 1000000000 ∧
    Blk wr gc 28 #[.int .i64 seq, .slice A1 n1 c1, .slice A2 n2 c2, .slice A3 n3 c3, .slice A m c] ∧ Grow (gc + 1) 76 1 batG wr (.slice A m c) bats ∧ RAt wr (some g') R ∧ Fr (FB g gc) w3 wr ∧ readL seq n S2 T0 [] = readL seq k R T bats)
  case atStart => exact ⟨g, 0, S2, T0, [], _, _, rfl, rfl, rfl, by omega, hT0, HBC4.out, Grow.nil0 _ _ _ _ _, H4.out, HF4.out, rfl⟩
  case round =>
    obtain ⟨g', m, R, T, bats, A, c, rfl, rfl, hm, hmk, hT, hbk, hgw, hR, hf, hL⟩ := hrel
    have hbx : Blk wr gr 28 zero5 := HBR3.out.of (hf.block gr HBR3.out.lt fun hk => by have h1 := HGG.out; have h2 := HGC1.out; unfold FB at hk; omega)
    have hfw : Fr No w wr := HF3.out.trans hf fun j hj e => by
      have h1 := HGG.out; have h2 := HGC1.out; have h3 := HGR.out
      unfold FB at e; omega
    -- nothing but an error
    have hbad : ∀ wx, Blk wx gr 28 zero5 → Fr No w wx → readL seq n S2 T0 [] = none → ∀ u0 u1 u2 u3 u4, u0 = .int .i64 0 → u1 = .slice none 0 0 → u2 = .slice none 0 0 → u3 = .slice none 0 0 → u4 = .slice none 0 0 →
        RdP w (readP s).1 (readP s).2 (.returned (.tuple #[.agg #[.int .i64 0, .slice none 0 0, .slice none 0 0, .slice none 0 0, .slice none 0 0], .int .i64 27])) (((((wx.setCell ⟨gr, 0, none⟩ u0).setCell ⟨gr, 1, none⟩ u1).setCell ⟨gr, 2, none⟩ u2).setCell ⟨gr, 3, none⟩ u3).setCell ⟨gr, 4, none⟩ u4) := by
      intro wx hb hfx hn0 u0 u1 u2 u3 u4 _ _ _ _ _
      have e : readP s = (CkP.zero, 27) := by rw [HV2.out, hn0]; rfl
      rw [e]
      have hset : Fr (One gr) wx (((((wx.setCell ⟨gr, 0, none⟩ u0).setCell ⟨gr, 1, none⟩ u1).setCell ⟨gr, 2, none⟩ u2).setCell ⟨gr, 3, none⟩ u3).setCell ⟨gr, 4, none⟩ u4) := ((((Fr.set0 gr wx 0 u0).set1 1 u1).set1 2 u2).set1 3 u3).set1 4 u4
      exact ⟨_, _, _, _, rfl, hfx.trans hset fun k hk' e => by have := HGR.out; unfold One at e; omega, CkAt.nil _ _ _ _ _ _ _ (by unfold i64 CkP.zero; simp) rfl rfl rfl rfl⟩
    have x0 : wr.cell? ⟨gc, 0, none⟩ = some (.int .i64 seq) := hbk.cell 0
    have x4 : wr.cell? ⟨gc, 4, none⟩ = some (.slice A m c) := hbk.cell 4
    have z0 : wr.cell? ⟨gr, 0, none⟩ = some (.int .i64 0) := hbx.cell 0
    have z1 : wr.cell? ⟨gr, 1, none⟩ = some (.slice none 0 0) := hbx.cell 1
    have z2 : wr.cell? ⟨gr, 2, none⟩ = some (.slice none 0 0) := hbx.cell 2
    have z3 : wr.cell? ⟨gr, 3, none⟩ = some (.slice none 0 0) := hbx.cell 3
    have z4 : wr.cell? ⟨gr, 4, none⟩ = some (.slice none 0 0) := hbx.cell 4
    have y0 := hbx.frozen 0
    have y1 := hbx.frozen 1
    have y2 := hbx.frozen 2
    have y3 := hbx.frozen 3
    have y4 := hbx.frozen 4
    have CD := rdone_any (some g') R wr hR
    rw [wpt_some] at CD
    obtain ⟨dn, hdn⟩ : ∃ dn, R.done = dn := ⟨_, rfl⟩
    rw [hdn] at CD
    have HCD := Lib.hid CD
    have HDN := Lib.hid hdn
    have HBK := Lib.hid hbk
    have HGW := Lib.hid hgw
    have HR := Lib.hid hR
    have HF := Lib.hid hf
    have HL := Lib.hid hL
    have HBX := Lib.hid hbx
    have HFW := Lib.hid hfw
    have HBAD := Lib.hid hbad
    have HM := Lib.hid hm
    have HMK := Lib.hid hmk
    have HT := Lib.hid hT
    clear CD hdn hbk hgw hR hf hL hbx hfw hbad hm hT
    by_cases hd : dn = 0
    · subst hd
      by_cases hs : seq < 0
      · have hlt : decide (seq < 0) = true := by simpa using hs
        have HN0 : Hid (readL seq n S2 T0 [] = none) := Lib.hid (by
          rw [HL.out]
          cases gk <;> unfold readL <;> rw [if_neg] <;> rintro ⟨_, h⟩ <;> omega)
        clear hs hmk
        go_wp2_with fail
        refine HCD.out.mono ?_
        rintro e w' ⟨rfl, rfl⟩
        go_wp2
        rw [Exit.noGoto_ret]
        refine bodyPost_ret (v := .tuple #[.agg #[.int .i64 0, .slice none 0 0, .slice none 0 0, .slice none 0 0, .slice none 0 0], .int .i64 27]) (by simp [results, Tryz.results15, go_sem, z0, z1, z2, z3, z4]) rfl ?_
        exact HBAD.out wr HBX.out HFW.out HN0.out _ _ _ _ _ rfl rfl rfl rfl rfl
      · have hge : 0 ≤ seq := by omega
        have hlt : decide (seq < 0) = false := by simpa using hge
        clear hs
        cases gk with
        | zero =>
          obtain rfl : m = n := by omega
          have hmn : decide (m < m) = false := by simp
          by_cases hT0' : T = []
          · subst hT0'
            have HN0 : Hid (readL seq m S2 T0 [] = some bats) := Lib.hid (by rw [HL.out]; unfold readL; rw [if_pos ⟨HDN.out, hge, rfl⟩])
            have hfin : ∀ u0 u1 u2 u3 u4, RdP w (readP s).1 (readP s).2 (.returned (.tuple #[.agg #[.int .i64 seq, .slice A1 n1 c1, .slice A2 n2 c2, .slice A3 n3 c3, .slice A m c], .int .i64 0])) (((((wr.setCell ⟨gr, 0, none⟩ u0).setCell ⟨gr, 1, none⟩ u1).setCell ⟨gr, 2, none⟩ u2).setCell ⟨gr, 3, none⟩ u3).setCell ⟨gr, 4, none⟩ u4) := by
              intro u0 u1 u2 u3 u4
              have e : readP s = (⟨seq, dims, meas, views, bats⟩, 0) := by rw [HV2.out, HN0.out]; rfl
              rw [e]
              have hset : Fr (One gr) wr (((((wr.setCell ⟨gr, 0, none⟩ u0).setCell ⟨gr, 1, none⟩ u1).setCell ⟨gr, 2, none⟩ u2).setCell ⟨gr, 3, none⟩ u3).setCell ⟨gr, 4, none⟩ u4) := ((((Fr.set0 gr wr 0 u0).set1 1 u1).set1 2 u2).set1 3 u3).set1 4 u4
              have h1 := HGG.out; have h2 := HGC1.out; have h3 := HGR.out; have h4 := HB3.out
              have hsz := HF.out.size
              have hkp : ∀ k, g < k ∧ k < gc → _ := fun k hk => (hset.block k (by omega) (fun e => by unfold One at e; omega)).trans (HF.out.block k (by omega) (fun e => by unfold FB at e; omega))
              have q := (HCK3.out.of hkp).mono (K' := fun k => w.heap.size ≤ k) fun k hk => by omega
              have r3 := (HGW.out.row batG_elem (by rw [HM.out]; have := HN.out; unfold maxLen; omega)).bound (by omega)
              refine ⟨_, _, _, _, rfl, HFW.out.trans hset fun k hk' e => by unfold One at e; omega, q.seq, q.dims, q.meas, q.views, ?_⟩
              have r4 := r3.of (w' := (((((wr.setCell ⟨gr, 0, none⟩ u0).setCell ⟨gr, 1, none⟩ u1).setCell ⟨gr, 2, none⟩ u2).setCell ⟨gr, 3, none⟩ u3).setCell ⟨gr, 4, none⟩ u4)) (fun k hk => hset.block k hk.2 (fun e => by unfold One at e; omega)) (fun b cs hb => batG_elem.mono _ (fun k => w.heap.size ≤ k) wr _ b cs hb fun k hk hlt => ⟨by omega, hset.block k hlt (fun e => by unfold One at e; omega)⟩)
              exact r4.mono fun k hk => by omega
            have HFIN := Lib.hid hfin
            have x1 : wr.cell? ⟨gc, 1, none⟩ = some (.slice A1 n1 c1) := HBK.out.cell 1
            have x2 : wr.cell? ⟨gc, 2, none⟩ = some (.slice A2 n2 c2) := HBK.out.cell 2
            have x3 : wr.cell? ⟨gc, 3, none⟩ = some (.slice A3 n3 c3) := HBK.out.cell 3
            clear hfin hmk
            go_wp2_with fail
            refine HCD.out.mono ?_
            rintro e w' ⟨rfl, rfl⟩
            go_wp2
            rw [Exit.noGoto_ret]
            refine bodyPost_ret (v := .tuple #[.agg #[.int .i64 seq, .slice A1 n1 c1, .slice A2 n2 c2, .slice A3 n3 c3, .slice A m c], .int .i64 0]) (by simp [results, Tryz.results15, go_sem, z0, z1, z2, z3, z4]) rfl ?_
            exact HFIN.out _ _ _ _ _
          · have HN0 : Hid (readL seq m S2 T0 [] = none) := Lib.hid (by rw [HL.out]; unfold readL; rw [if_neg]; rintro ⟨_, _, h⟩; exact hT0' h)
            have hte : T.isEmpty = false := by simpa using hT0'
            clear hT0' hmk
            go_wp2_with fail
            refine HCD.out.mono ?_
            rintro e w' ⟨rfl, rfl⟩
            go_wp2
            rw [Exit.noGoto_ret]
            refine bodyPost_ret (v := .tuple #[.agg #[.int .i64 0, .slice none 0 0, .slice none 0 0, .slice none 0 0, .slice none 0 0], .int .i64 27]) (by simp [results, Tryz.results15, go_sem, z0, z1, z2, z3, z4]) rfl ?_
            exact HBAD.out wr HBX.out HFW.out HN0.out _ _ _ _ _ rfl rfl rfl rfl rfl
        | succ k =>
          have hmn : decide (m < n) = true := by simpa using (by omega : m < n)
          have CU := unframed_any T wr (by have := HT.out; unfold maxLen; omega)
          have HCU := Lib.hid CU
          have HLS : Hid (readL seq n S2 T0 [] = readL seq k (ufR T).facts.2 (ufT T) (bats ++ [(ufR T).facts.1])) := Lib.hid (by rw [HL.out]; show (if R.done = 0 ∧ 0 ≤ seq then readL seq k (ufR T).facts.2 (ufT T) (bats ++ [(ufR T).facts.1]) else none) = _; rw [if_pos ⟨HDN.out, hge⟩])
          have HTL := Lib.hid (ufT_len T)
          obtain ⟨T1, hT1⟩ : ∃ T1, ufT T = T1 := ⟨_, rfl⟩
          obtain ⟨R1, hR1⟩ : ∃ R1, ufR T = R1 := ⟨_, rfl⟩
          rw [hT1, hR1] at HLS
          rw [hT1] at HTL
          rw [hT1, hR1] at HCU
          clear CU hT1 hR1 hmk
          go_wp2_with fail
          refine HCD.out.mono ?_
          rintro e w' ⟨rfl, rfl⟩
          go_wp2_with fail
          refine HCU.out.mono ?_
          clear HCU HCD
          rintro e w5 ⟨g5, rfl, h5, f5, hg5⟩
          rw [wpt_some]
          have hbk5 := HBK.out.of (f5.block _ HBK.out.lt id)
          have x45 : w5.cell? ⟨gc, 4, none⟩ = some (.slice A m c) := hbk5.cell 4
          have HH5 := Lib.hid h5
          have HF5 := Lib.hid f5
          have HG5 := Lib.hid hg5
          have HBK5 := Lib.hid hbk5
          clear h5 f5 hg5 hbk5 z0 z1 z2 z3 z4 y0 y1 y2 y3 y4 x0 x4
          have HC : Hid (Calls Tryz.prog 46 #[.pointer (some ⟨g5, 0, none⟩)] w5.drew fun e w6 => ∃ A5 n5 c5, e = .returned (.slice A5 n5 c5) ∧ ∃ A' c' w7, w6.cell? ⟨gc, 4, none⟩ = some (.slice A m c) ∧ (w6.alloc (.cells #[.slice A5 n5 c5] 76)).cell? ⟨gc, 4, none⟩ = some (.slice A m c) ∧ w7.cell? ⟨gc, 4, none⟩ = some (.slice A m c) ∧ w7.frozen? ⟨gc, 4, none⟩ = false ∧
              (∀ ty, (Builtin.append_ #[26, 26] ty #[.slice A m c, .slice (some ⟨w6.heap.size, 0, none⟩) 1 1]).run Tryz.prog (w6.alloc (.cells #[.slice A5 n5 c5] 76)) = .ok (.slice A' (m + 1) c') w7) ∧
              Blk w7 gc 28 #[.int .i64 seq, .slice A1 n1 c1, .slice A2 n2 c2, .slice A3 n3 c3, .slice A m c] ∧ Grow (gc + 1) 76 1 batG w7 (.slice A' (m + 1) c') (bats ++ [R1.facts.1]) ∧ RAt w7 (some g5) R1.facts.2 ∧ Fr (FB g gc) w3 w7 ∧ g5 ≠ gc) := by
            have hgs := HG5.out
            have hb3 := HB3.out
            have hsz := HF.out.size
            have hsz5 := HF5.out.size
            refine Lib.hid ((rfacts_any (some g5) R1 w5.drew (HH5.out.keep ((Fr.refl _ _).drew))).mono ?_)
            rintro e w6 ⟨V, rfl, h6, f6, r6⟩
            obtain ⟨A5, n5, c5, rfl⟩ := r6.slice
            refine ⟨A5, n5, c5, rfl, ?_⟩
            have f56 : Fr (RFt (some g5)) w5 w6 := ((Fr.refl (RFt (some g5)) w5).drew).trans f6 fun _ _ h => h
            have frw6 : Fr No wr w6 := HF5.out.trans f56 fun j hj e => by have e' : g5 = j := Option.some.inj e; omega
            have hgw6 := HGW.out.keep batG_elem frw6 (fun k hk => hk.elim)
            have hb6 : Blk w6 gc 28 #[.int .i64 seq, .slice A1 n1 c1, .slice A2 n2 c2, .slice A3 n3 c3, .slice A m c] := HBK.out.of (frw6.block _ HBK.out.lt id)
            have hel : batG (fun x => w5.heap.size ≤ x) w6 R1.facts.1 [.slice A5 n5 c5] := ⟨_, rfl, r6⟩
            obtain ⟨A', c', w7, hap, hg7, f7, hlt7⟩ := hgw6.more batG_elem (w0 := w5) (by omega) f56.size (fun x hx => by have := (HGW.out.lt x hx).2; omega) 26 Tryz.underlying26 (.slice none 0 0) info76 rfl (by omega) _ [.slice A5 n5 c5] rfl (by simp [Value.oneCell']) hel (by rw [HM.out]; have := HN.out; have := HMK.out; omega) (by rw [HM.out]; have := HN.out; have := HMK.out; unfold maxLen; omega)
            rw [HM.out] at hap hg7
            have hb7 : Blk w7 gc 28 #[.int .i64 seq, .slice A1 n1 c1, .slice A2 n2 c2, .slice A3 n3 c3, .slice A m c] := hb6.of (f7.block _ hb6.lt fun hx => by have := (HGW.out.lt _ hx).1; omega)
            have hlt := HBK.out.lt
            refine ⟨A', c', w7, hb6.cell 4, (hb6.of (((Fr.refl No w6).alloc _).block _ hb6.lt id)).cell 4, hb7.cell 4, hb7.frozen 4, hap, hb7, hg7, h6.of (fun k hk => f7.block k (h6.lt k hk) fun hx => by have h1 := (HGW.out.lt k hx).2; have e' : g5 = k := Option.some.inj hk; omega), ?_, by omega⟩
            exact (HF.out.trans frw6.any fun _ _ h => h).trans f7 fun x hlx hx => by have := (HGW.out.lt x hx).1; omega
          have HE7 : Hid ((bats ++ [R1.facts.1]).length = m + 1) := Lib.hid (by rw [List.length_append, HM.out]; rfl)
          go_upto_region 8 with fail
          go_region_law (first
            | (refine step_add rfl _ _ _ _ rfl _ _ rfl rfl (HAP.out _) ?_)
            | (go_simp; go_at_call 46; refine HC.out.mono ?_; rintro e w6 ⟨A5, n5, c5, rfl, A', c', w7, x4, x5, y1, z1, hap, hB, hG, hR, hF, hne⟩; have HAP := Lib.hid hap; have HB7 := Lib.hid hB; have HG7 := Lib.hid hG; have HR7 := Lib.hid hR; have HF7 := Lib.hid hF; have HNE := Lib.hid hne; clear hap hB hG hR hF hne))
          all_goals
            go_wp2
            go_roundg k
            case measure => omega
            case rel => exact ⟨g5, m + 1, R1.facts.2, T1, _, A', c', rfl, rfl, HE7.out, by have := HMK.out; omega, by have h1 := HTL.out; have h2 := HT.out; omega, HB7.out.set_ 4 _, HG7.out.keep batG_elem (Fr.set0 gc _ 4 _) (fun k hk => by have : k = gc := hk; omega), HR7.out.of (fun k hk => Below.heap_setCell _ _ _ _ (by have e' : g5 = k := Option.some.inj hk; have := HNE.out; show k ≠ gc; omega)), (HF7.out.setCell (p := ⟨gc, 4, none⟩) (fun _ => .inr rfl) _), HLS.out⟩
    · have hdb : (dn != 0) = true := by simpa using hd
      have HN0 : Hid (readL seq n S2 T0 [] = none) := Lib.hid (by
        rw [HL.out]
        have h0 : ¬ R.done = 0 := by rw [HDN.out]; exact hd
        cases gk <;> unfold readL <;> rw [if_neg] <;> rintro ⟨h, _⟩ <;> exact h0 h)
      clear hd hmk
      go_wp2_with fail
      refine HCD.out.mono ?_
      rintro e w' ⟨rfl, rfl⟩
      go_wp2
      rw [Exit.noGoto_ret]
      refine bodyPost_ret (v := .tuple #[.agg #[.int .i64 0, .slice none 0 0, .slice none 0 0, .slice none 0 0, .slice none 0 0], .int .i64 27]) (by simp [results, Tryz.results15, go_sem, z0, z1, z2, z3, z4]) rfl ?_
      exact HBAD.out wr HBX.out HFW.out HN0.out _ _ _ _ _ rfl rfl rfl rfl rfl
end Go.Proofs.YtoaiofjcjjkfaaaGreatDoor
/- Which checkpoint is valid; it is loaded. -/
namespace Go.Proofs.YtoaiofjcjjkfaaaGreatDoor
open Go.RowKit Go.Maps Go.Sort
set_option linter.unusedVariables false

def maniL : List UInt8 := [109, 97, 110, 105, 102, 101, 115, 116]
def validW (S : AS) : Int × Int :=
  if (S.read maniL).2 = 11 then (0, 0) else if (S.read maniL).2 = 0 then unManiW (S.read maniL).1 else (0, (S.read maniL).2)
def loadN (S : AS) (n : Int) : CkP × Bool × Int :=
  if (S.read (fileW n)).2 = 0 then ((readP (S.read (fileW n)).1).1, decide ((readP (S.read (fileW n)).1).2 = 0), (readP (S.read (fileW n)).1).2) else (CkP.zero, false, 27)
def loadW (S : AS) : CkP × Bool × Int :=
  if (validW S).2 = 0 ∧ (validW S).1 ≠ 0 then loadN S (validW S).1 else (CkP.zero, false, (validW S).2)
theorem read_len {N : Nat} {S : AS} (h : Inv N S) (l : List UInt8) : (S.read l).1.length ≤ 16777216 := by
  unfold AS.read
  split
  · split
    · split
      · rename_i r hr
        exact (h.file _ _ hr).2.2.2
      · simp
    · simp
  · simp
theorem numW_cases (s : List UInt8) : numW s = 0 ∨ (1 ≤ numW s ∧ numW s ≤ 99999999 ∧ fileW (numW s) = s) := by
  unfold numW
  cases hv : Lib.atoiAll (Lib.trimPrefix s catL) with
  | ok v =>
    simp only
    split
    · rename_i h
      by_cases h2 : v < 1 ∨ 99999999 < v
      · exfalso
        unfold fileW at h
        rw [if_pos h2] at h
        subst h
        have h3 : (match Lib.atoiAll (Lib.trimPrefix [] catL) with | .ok _ => False | _ => True) := True.intro
        rw [hv] at h3
        exact h3
      · exact .inr ⟨by omega, by omega, h⟩
    · exact .inl rfl
  | _ => exact .inl rfl
theorem unManiW_cases (l : List UInt8) : unManiW l = (0, 27) ∨ (∃ n, unManiW l = (n, 0) ∧ 1 ≤ n ∧ n ≤ 99999999) := by
  unfold unManiW
  split
  · rename_i h
    rcases numW_cases (ufR l).text.1 with e | ⟨h1, h2, _⟩
    · exact absurd e h.2.2
    · exact .inr ⟨_, rfl, h1, h2⟩
  · exact .inl rfl
theorem validW_cases (S : AS) : ((validW S).2 ≠ 0 ∧ (validW S).1 = 0) ∨ validW S = (0, 0) ∨ (∃ n, validW S = (n, 0) ∧ 1 ≤ n ∧ n ≤ 99999999) := by
  unfold validW
  split
  · exact .inr (.inl rfl)
  · split
    · rcases unManiW_cases (S.read maniL).1 with e | h
      · rw [e]; exact .inl ⟨by decide, rfl⟩
      · exact .inr (.inr h)
    · rename_i h
      exact .inl ⟨h, rfl⟩
set_option maxHeartbeats 1000000 in
theorem valid_any {w : World} {X : Nat → Prop} {d N : Nat} {S : AS} (h : Dk w X d N S) (hv : Vr w) :
    Calls Tryz.prog 61 #[.pointer (some ⟨d, 0, none⟩)] w fun e w' => e = .returned (.tuple #[.int .i64 (validW S).1, .int .i64 (validW S).2]) ∧ Fr No w w' := by
  have CR := Lib.hid (x_read h maniL (by decide))
  have hlen := read_len h.inv maniL
  have HV : Hid (validW S = if (S.read maniL).2 = 11 then (0, 0) else if (S.read maniL).2 = 0 then unManiW (S.read maniL).1 else (0, (S.read maniL).2)) := Lib.hid rfl
  have HVR := Lib.hid hv
  generalize S.read maniL = r at *
  obtain ⟨D, E⟩ := r
  simp only at CR hlen HV
  have HLEN := Lib.hid hlen
  unfold maniL at CR
  clear h hv hlen
  by_cases a : E = 11
  · subst a
    have HE : Hid (validW S = (0, 0)) := Lib.hid (by rw [HV.out, if_pos rfl])
    clear HV
    go_enter Tryz.func61, Tryz.ntmps61
    go_wp2_with fail
    refine CR.out.mono ?_
    rintro e w1 ⟨rfl, f1⟩
    have F1 := Lib.hid f1
    clear f1
    go_wp2
    go_ret2
    exact ⟨by rw [HE.out]; first | done | rfl, F1.out⟩
  · have ab : (E == 11) = false := by simpa using a
    by_cases b : E = 0
    · subst b
      have HE : Hid (validW S = unManiW D) := Lib.hid (by rw [HV.out, if_neg a, if_pos rfl])
      have HU := Lib.hid (fun w1 (hv1 : Vr w1) => unManifest_any D w1 hv1 (by have := HLEN.out; unfold maxLen; omega))
      generalize unManiW D = u at *
      obtain ⟨u1, u2⟩ := u
      simp only at HU
      clear HV a
      go_enter Tryz.func61, Tryz.ntmps61
      go_wp2_with fail
      refine CR.out.mono ?_
      rintro e w1 ⟨rfl, f1⟩
      have F1 := Lib.hid f1
      have C2 := Lib.hid (HU.out w1 (HVR.out.keep f1))
      clear f1
      go_wp2_with fail
      refine C2.out.mono ?_
      rintro e w2 ⟨rfl, f2⟩
      have F2 := Lib.hid (F1.out.trans f2 fun _ _ h => h)
      clear f2
      go_wp2
      go_ret2
      exact ⟨by rw [HE.out]; first | done | rfl, F2.out⟩
    · have bb : (E != 0) = true := by simpa using b
      have HE : Hid (validW S = (0, E)) := Lib.hid (by rw [HV.out, if_neg a, if_neg b])
      clear HV a b
      go_enter Tryz.func61, Tryz.ntmps61
      go_wp2_with fail
      refine CR.out.mono ?_
      rintro e w1 ⟨rfl, f1⟩
      have F1 := Lib.hid f1
      clear f1
      go_wp2
      go_ret2
      exact ⟨by rw [HE.out]; first | done | rfl, F1.out⟩

theorem find_nil (s : ByteArray) (w : World) : Calls Tryz.prog 131 #[.pointer none, .string s] w fun e w' => e = .returned (.tuple #[.pointer none, .int .i64 1]) ∧ Fr No w w' := by
  go_enter Tryz.func131, Tryz.ntmps131
  go_wp2_with fail
  refine (check_nil _ _ _ _).mono ?_
  rintro e w' ⟨rfl, rfl⟩
  go_wp2
  go_ret2
  exact ⟨rfl, (Fr.refl _ _).alloc _⟩
theorem read_nil (s : ByteArray) (w : World) : Calls Tryz.prog 73 #[.pointer none, .string s] w fun e w' => e = .returned (.tuple #[.string ⟨#[]⟩, .int .i64 1]) ∧ Fr No w w' := by
  go_enter Tryz.func73, Tryz.ntmps73
  go_wp2_with fail
  refine (find_nil _ _).mono ?_
  rintro e w' ⟨rfl, hf⟩
  have HF := Lib.hid hf; clear hf
  go_wp2
  go_ret2
  exact ⟨rfl, HF.out⟩
theorem valid_nil (w : World) : Calls Tryz.prog 61 #[.pointer none] w fun e w' => e = .returned (.tuple #[.int .i64 0, .int .i64 1]) ∧ Fr No w w' := by
  have CR := Lib.hid (read_nil ⟨maniL.toArray⟩ w)
  unfold maniL at CR
  go_enter Tryz.func61, Tryz.ntmps61
  go_wp2_with fail
  refine CR.out.mono ?_
  rintro e w1 ⟨rfl, f1⟩
  have F1 := Lib.hid f1
  clear f1
  go_wp2
  go_ret2
  exact ⟨rfl, F1.out⟩

/-! ### Load -/
def LdP (w : World) (L : CkP × Bool × Int) (e : Ending) (w' : World) : Prop :=
  ∃ dv mv vv bv, e = .returned (.tuple #[ckv L.1 dv mv vv bv, .bool L.2.1, .int .i64 L.2.2]) ∧ Fr No w w' ∧ CkAt (fun k => w.heap.size ≤ k) w' L.1 dv mv vv bv
/-- The result is laid into block gr. -/
theorem ld_fin {w w1 : World} {gr : Nat} (hgr : w.heap.size = gr) {c : CkP} {dv mv vv bv : Value} (hfw : Fr No w w1) (hck : CkAt (fun k => gr < k) w1 c dv mv vv bv) (hlt : gr < w1.heap.size) (B : Bool) (E : Int) (u0 u1 u2 u3 u4 : Value) :
    LdP w (c, B, E) (.returned (.tuple #[ckv c dv mv vv bv, .bool B, .int .i64 E])) (((((w1.setCell ⟨gr, 0, none⟩ u0).setCell ⟨gr, 1, none⟩ u1).setCell ⟨gr, 2, none⟩ u2).setCell ⟨gr, 3, none⟩ u3).setCell ⟨gr, 4, none⟩ u4) := by
  have hset : Fr (One gr) w1 (((((w1.setCell ⟨gr, 0, none⟩ u0).setCell ⟨gr, 1, none⟩ u1).setCell ⟨gr, 2, none⟩ u2).setCell ⟨gr, 3, none⟩ u3).setCell ⟨gr, 4, none⟩ u4) := ((((Fr.set0 gr w1 0 u0).set1 1 u1).set1 2 u2).set1 3 u3).set1 4 u4
  refine ⟨_, _, _, _, rfl, hfw.trans hset fun k hk e => by unfold One at e; omega, ?_⟩
  have hk : ∀ k, (w1.heap.size ≤ k ∨ gr < k) → (((((w1.setCell ⟨gr, 0, none⟩ u0).setCell ⟨gr, 1, none⟩ u1).setCell ⟨gr, 2, none⟩ u2).setCell ⟨gr, 3, none⟩ u3).setCell ⟨gr, 4, none⟩ u4).heap[k]? = w1.heap[k]? := fun k hk => by
    have hne : k ≠ gr := by omega
    rw [Below.heap_setCell _ _ _ k hne, Below.heap_setCell _ _ _ k hne, Below.heap_setCell _ _ _ k hne, Below.heap_setCell _ _ _ k hne, Below.heap_setCell _ _ _ k hne]
  exact (hck.of fun k hk' => hk k (.inr hk')).mono fun k hk' => by omega
set_option maxRecDepth 100000 in
set_option maxHeartbeats 2000000 in
theorem load_ck_any {w : World} {X : Nat → Prop} {d N : Nat} {S : AS} (h : Dk w X d N S) (hv : Vr w) : Calls Tryz.prog 29 #[.pointer (some ⟨d, 0, none⟩)] w (LdP w (loadW S)) := by
  obtain ⟨gr, hgr⟩ : ∃ gr, w.heap.size = gr := ⟨_, rfl⟩
  obtain ⟨wa, hwa⟩ : ∃ wa, w.alloc (.cells #[.int .i64 0, .slice none 0 0, .slice none 0 0, .slice none 0 0, .slice none 0 0] 28) = wa := ⟨_, rfl⟩
  have hsa : wa.heap.size = gr + 1 := by rw [← hwa, ← hgr]; simp
  have hbr0 : Blk wa gr 28 zero5 := by rw [← hwa, ← hgr]; exact Blk.new w 28 _
  have hf0 : Fr No w wa := by rw [← hwa]; exact (Fr.refl _ w).alloc _
  have hda := h.keep hf0
  have hva := hv.keep hf0
  have C1 := Lib.hid (valid_any hda hva)
  have HL : Hid (loadW S = if (validW S).2 = 0 ∧ (validW S).1 ≠ 0 then loadN S (validW S).1 else (CkP.zero, false, (validW S).2)) := Lib.hid rfl
  have hcs := validW_cases S
  have HBR := Lib.hid hbr0
  have HF0 := Lib.hid hf0
  have HSA := Lib.hid hsa
  have HWA := Lib.hid hwa
  have HGR := Lib.hid hgr
  have HDA := Lib.hid hda
  have HVA := Lib.hid hva
  generalize validW S = vd at *
  obtain ⟨n, E⟩ := vd
  simp only at C1 HL hcs
  have HCS := Lib.hid hcs
  clear hbr0 hf0 hsa hwa hgr hda hva h hv hcs
  -- nothing valid
  have hno : E ≠ 0 ∨ n = 0 → loadW S = (CkP.zero, false, E) := fun h => by
    rw [HL.out, if_neg]
    rintro ⟨h1, h2⟩
    rcases h with h | h
    · exact h h1
    · exact h2 h
  have HNO := Lib.hid hno
  clear hno
  go_enter Tryz.func29, Tryz.ntmps29
  go_wp2_with fail
  rw [HWA.out]
  refine C1.out.mono ?_
  clear C1
  rintro e w1 ⟨rfl, f1⟩
  have hbr1 := HBR.out.of (f1.block _ HBR.out.lt id)
  have F1 := Lib.hid (HF0.out.trans f1 fun _ _ h => h)
  have FA := Lib.hid f1
  have z0 : w1.cell? ⟨gr, 0, none⟩ = some (.int .i64 0) := hbr1.cell 0
  have z1 : w1.cell? ⟨gr, 1, none⟩ = some (.slice none 0 0) := hbr1.cell 1
  have z2 : w1.cell? ⟨gr, 2, none⟩ = some (.slice none 0 0) := hbr1.cell 2
  have z3 : w1.cell? ⟨gr, 3, none⟩ = some (.slice none 0 0) := hbr1.cell 3
  have z4 : w1.cell? ⟨gr, 4, none⟩ = some (.slice none 0 0) := hbr1.cell 4
  have y0 := hbr1.frozen 0
  have y1 := hbr1.frozen 1
  have y2 := hbr1.frozen 2
  have y3 := hbr1.frozen 3
  have y4 := hbr1.frozen 4
  have HB1 := Lib.hid hbr1
  clear f1 hbr1
  rw [HGR.out]
  by_cases hE : E = 0
  · subst hE
    by_cases hn : n = 0
    · subst hn
      have HE : Hid (loadW S = (CkP.zero, false, 0)) := Lib.hid (HNO.out (.inr rfl))
      go_wp2
      refine bodyPost_ret (v := .tuple #[.agg #[.int .i64 0, .slice none 0 0, .slice none 0 0, .slice none 0 0, .slice none 0 0], .bool false, .int .i64 0]) (by simp [results, Tryz.results29, go_sem, z0, z1, z2, z3, z4]) rfl ?_
      rw [HE.out]
      exact ld_fin HGR.out (c := CkP.zero) F1.out (CkAt.nil _ _ _ _ _ _ _ (by unfold i64 CkP.zero; simp) rfl rfl rfl rfl) HB1.out.lt _ _ _ _ _ _ _
    · have hnb : (n == 0) = false := by simpa using hn
      have hn2 : 1 ≤ n ∧ n ≤ 99999999 := by
        rcases HCS.out with ⟨h, _⟩ | h | ⟨m, h, h1, h2⟩
        · exact absurd rfl h
        · injection h with h1 _; exact absurd h1 hn
        · injection h with h3 _; omega
      have HE : Hid (loadW S = loadN S n) := Lib.hid (by rw [HL.out, if_pos ⟨rfl, hn⟩])
      have C2 := Lib.hid (file_any n w1 (HVA.out.keep FA.out) (by omega) (by omega))
      have HLN : Hid (loadN S n = if (S.read (fileW n)).2 = 0 then ((readP (S.read (fileW n)).1).1, decide ((readP (S.read (fileW n)).1).2 = 0), (readP (S.read (fileW n)).1).2) else (CkP.zero, false, 27)) := Lib.hid rfl
      have HFL : Hid ((fileW n).length ≤ maxLen) := Lib.hid (by
        unfold fileW
        split
        · simp
        · rw [List.length_append, List.length_drop, itoa9 hn2.1 hn2.2]; decide)
      generalize fileW n = fl at *
      clear hn
      go_wp2_with fail
      refine C2.out.mono ?_
      clear C2
      rintro e w2 ⟨rfl, f2⟩
      have FB2 := Lib.hid (FA.out.trans f2 fun _ _ h => h)
      have C3 := Lib.hid (x_read (HDA.out.keep FB2.out) fl HFL.out)
      have hrl := read_len HDA.out.inv fl
      generalize S.read fl = rd at *
      obtain ⟨D, E2⟩ := rd
      simp only at C3 hrl HLN
      have HRL := Lib.hid hrl
      have hbr2 := HB1.out.of (f2.block _ HB1.out.lt id)
      clear f2 hrl
      clear z0 z1 z2 z3 z4 y0 y1 y2 y3 y4
      go_wp2_with fail
      refine C3.out.mono ?_
      clear C3
      rintro e w3 ⟨rfl, f3⟩
      have FB3 := Lib.hid (FB2.out.trans f3 fun _ _ h => h)
      have hbr3 := hbr2.of (f3.block _ hbr2.lt id)
      have HB3 := Lib.hid hbr3
      clear f3 hbr2
      by_cases h2 : E2 = 0
      · subst h2
        have C4 := Lib.hid (read_ck_any D w3 (by have := HRL.out; omega))
        have HE2 : Hid (loadW S = ((readP D).1, decide ((readP D).2 = 0), (readP D).2)) := Lib.hid (by rw [HE.out, HLN.out, if_pos rfl])
        generalize readP D = rp at *
        obtain ⟨c, E3⟩ := rp
        simp only at C4 HE2
        clear hbr3
        go_wp2_with fail
        refine C4.out.mono ?_
        clear C4
        rintro e w4 ⟨dv, mv, vv, bv, rfl, f4, hck⟩
        obtain ⟨A1, n1, c1, A2, n2, c2, A3, n3, c3, A4, n4, c4, rfl, rfl, rfl, rfl⟩ := hck.forms
        have hbr4 := HB3.out.of (f4.block _ HB3.out.lt id)
        have hlt3 := HB3.out.lt
        have hs4 := f4.size
        obtain ⟨w5, hw5⟩ : ∃ w5, w4.alloc (.cells #[.int .i64 c.seq, .slice A1 n1 c1, .slice A2 n2 c2, .slice A3 n3 c3, .slice A4 n4 c4] 28) = w5 := ⟨_, rfl⟩
        have hfa : Fr No w4 w5 := by rw [← hw5]; exact (Fr.refl _ w4).alloc _
        have hbr5 := hbr4.of (hfa.block _ hbr4.lt id)
        have hb5 : Blk w5 w4.heap.size 28 #[.int .i64 c.seq, .slice A1 n1 c1, .slice A2 n2 c2, .slice A3 n3 c3, .slice A4 n4 c4] := by rw [← hw5]; exact Blk.new w4 28 _
        obtain ⟨g8, hg8⟩ : ∃ g8, w4.heap.size = g8 := ⟨_, rfl⟩
        rw [hg8] at hb5
        have hck5 : CkAt (fun k => gr < k) w5 c (.slice A1 n1 c1) (.slice A2 n2 c2) (.slice A3 n3 c3) (.slice A4 n4 c4) := by
          have hsz5 : w5.heap.size = g8 + 1 := by rw [← hw5]; simp [hg8]
          have q : CkAt (fun k => w3.heap.size ≤ k ∧ k < w4.heap.size) w5 c (.slice A1 n1 c1) (.slice A2 n2 c2) (.slice A3 n3 c3) (.slice A4 n4 c4) := by
            have q1 := (hck.dims.bound (by omega)).of (w' := w5) (E' := strE) (fun k hk => hfa.block k hk.2 id) fun _ _ h => h
            have q2 := (hck.meas.bound (by omega)).of (w' := w5) (E' := strE) (fun k hk => hfa.block k hk.2 id) fun _ _ h => h
            have q3 := (hck.views.bound (by omega)).of (w' := w5) (E' := intE) (fun k hk => hfa.block k hk.2 id) fun _ _ h => h
            have q4 := (hck.bats.bound (by omega)).of (w' := w5) (fun k hk => hfa.block k hk.2 id) fun b cs hb => batG_elem.mono _ (fun k => w3.heap.size ≤ k ∧ k < w4.heap.size) w4 w5 b cs hb fun k hk hlt => ⟨⟨hk, hlt⟩, hfa.block k hlt id⟩
            exact ⟨hck.seq, q1, q2, q3, q4⟩
          exact q.mono fun k hk => by omega
        have x0 : w5.cell? ⟨g8, 0, none⟩ = some (.int .i64 c.seq) := hb5.cell 0
        have x1 : w5.cell? ⟨g8, 1, none⟩ = some (.slice A1 n1 c1) := hb5.cell 1
        have x2 : w5.cell? ⟨g8, 2, none⟩ = some (.slice A2 n2 c2) := hb5.cell 2
        have x3 : w5.cell? ⟨g8, 3, none⟩ = some (.slice A3 n3 c3) := hb5.cell 3
        have x4 : w5.cell? ⟨g8, 4, none⟩ = some (.slice A4 n4 c4) := hb5.cell 4
        have z0 : w5.cell? ⟨gr, 0, none⟩ = some (.int .i64 0) := hbr5.cell 0
        have z1 : w5.cell? ⟨gr, 1, none⟩ = some (.slice none 0 0) := hbr5.cell 1
        have z2 : w5.cell? ⟨gr, 2, none⟩ = some (.slice none 0 0) := hbr5.cell 2
        have z3 : w5.cell? ⟨gr, 3, none⟩ = some (.slice none 0 0) := hbr5.cell 3
        have z4 : w5.cell? ⟨gr, 4, none⟩ = some (.slice none 0 0) := hbr5.cell 4
        have y0 := hbr5.frozen 0
        have y1 := hbr5.frozen 1
        have y2 := hbr5.frozen 2
        have y3 := hbr5.frozen 3
        have y4 := hbr5.frozen 4
        have HCK5 := Lib.hid hck5
        have HF5 := Lib.hid ((HF0.out.trans (FB3.out.trans f4 fun _ _ h => h) fun _ _ h => h).trans hfa fun _ _ h => h)
        have HB5 := Lib.hid hbr5
        have HW5 := Lib.hid hw5
        have HG8 := Lib.hid hg8
        clear hck hbr4 hlt3 hs4 hw5 hfa hbr5 hb5 hg8 hck5 f4
        unfold ckv
        go_upto_region 8 with fail
        rw [HW5.out, HG8.out]
        go_wp2
        by_cases h3 : E3 = 0
        · subst h3
          refine bodyPost_ret (v := .tuple #[.agg #[.int .i64 c.seq, .slice A1 n1 c1, .slice A2 n2 c2, .slice A3 n3 c3, .slice A4 n4 c4], .bool true, .int .i64 0]) (by simp [results, Tryz.results29, go_sem, z0, z1, z2, z3, z4]) rfl ?_
          rw [HE2.out]
          exact ld_fin HGR.out HF5.out HCK5.out HB5.out.lt _ _ _ _ _ _ _
        · have h3b : (E3 == 0) = false := by simpa using h3
          refine bodyPost_ret (v := .tuple #[.agg #[.int .i64 c.seq, .slice A1 n1 c1, .slice A2 n2 c2, .slice A3 n3 c3, .slice A4 n4 c4], .bool false, .int .i64 E3]) (by simp [results, Tryz.results29, go_sem, z0, z1, z2, z3, z4, h3b]) rfl ?_
          rw [HE2.out, decide_eq_false h3]
          exact ld_fin HGR.out HF5.out HCK5.out HB5.out.lt _ _ _ _ _ _ _
      · have h2b : (E2 != 0) = true := by simpa using h2
        have HE2 : Hid (loadW S = (CkP.zero, false, 27)) := Lib.hid (by rw [HE.out, HLN.out, if_neg h2])
        have z0 : w3.cell? ⟨gr, 0, none⟩ = some (.int .i64 0) := hbr3.cell 0
        have z1 : w3.cell? ⟨gr, 1, none⟩ = some (.slice none 0 0) := hbr3.cell 1
        have z2 : w3.cell? ⟨gr, 2, none⟩ = some (.slice none 0 0) := hbr3.cell 2
        have z3 : w3.cell? ⟨gr, 3, none⟩ = some (.slice none 0 0) := hbr3.cell 3
        have z4 : w3.cell? ⟨gr, 4, none⟩ = some (.slice none 0 0) := hbr3.cell 4
        have y0 := hbr3.frozen 0
        have y1 := hbr3.frozen 1
        have y2 := hbr3.frozen 2
        have y3 := hbr3.frozen 3
        have y4 := hbr3.frozen 4
        clear h2 hbr3
        go_wp2
        refine bodyPost_ret (v := .tuple #[.agg #[.int .i64 0, .slice none 0 0, .slice none 0 0, .slice none 0 0, .slice none 0 0], .bool false, .int .i64 27]) (by simp [results, Tryz.results29, go_sem, z0, z1, z2, z3, z4]) rfl ?_
        rw [HE2.out]
        exact ld_fin HGR.out (c := CkP.zero) (HF0.out.trans FB3.out fun _ _ h => h) (CkAt.nil _ _ _ _ _ _ _ (by unfold i64 CkP.zero; simp) rfl rfl rfl rfl) HB3.out.lt _ _ _ _ _ _ _
  · have hEb : (E != 0) = true := by simpa using hE
    have HE : Hid (loadW S = (CkP.zero, false, E)) := Lib.hid (HNO.out (.inl hE))
    clear hE
    go_wp2
    refine bodyPost_ret (v := .tuple #[.agg #[.int .i64 0, .slice none 0 0, .slice none 0 0, .slice none 0 0, .slice none 0 0], .bool false, .int .i64 E]) (by simp [results, Tryz.results29, go_sem, z0, z1, z2, z3, z4]) rfl ?_
    rw [HE.out]
    exact ld_fin HGR.out (c := CkP.zero) F1.out (CkAt.nil _ _ _ _ _ _ _ (by unfold i64 CkP.zero; simp) rfl rfl rfl rfl) HB1.out.lt _ _ _ _ _ _ _
end Go.Proofs.YtoaiofjcjjkfaaaGreatDoor
/- The steps of a Save: as closures in a row of one's own; plain. -/
namespace Go.Proofs.YtoaiofjcjjkfaaaGreatDoor
open Go.RowKit Go.Maps Go.Sort
set_option linter.unusedVariables false

/-! ### plain -/
def freshL : List UInt8 := [109, 97, 110, 105, 102, 101, 115, 116, 46, 110, 101, 119]
inductive Stp where
  | write (a t : List UInt8)
  | sync (a : List UInt8)
  | settle
  | mani (a : List UInt8)
  | syncF
  | renameF
  | remove (a : List UInt8)
def Stp.run (S : AS) : Stp → AS × Int
  | .write a t => S.write a t
  | .sync a => S.sync a
  | .settle => S.settle
  | .mani a => S.write freshL (maniB a)
  | .syncF => S.sync freshL
  | .renameF => S.rename freshL maniL
  | .remove a => S.remove a
def runAll (S : AS) : List Stp → AS × Int
  | [] => (S, 0)
  | s :: l => if (s.run S).2 = 0 then runAll (s.run S).1 l else s.run S
def pre1 (file l : List UInt8) : Bool := l == file || l == freshL
def pre2 (file l : List UInt8) : Bool := decide (0 < numW l) && l != file
def others (S : AS) (file : List UInt8) : List Stp := ((sortedKeys S.names).filter (pre2 file)).map .remove
def stepsW (S : AS) (file data : List UInt8) : List Stp :=
  (((sortedKeys S.names).filter (pre1 file)).map .remove ++ [.write file data, .sync file, .settle, .mani file, .syncF, .renameF, .settle]) ++
    (if others S file = [] then [] else others S file ++ [.settle])
def saveW (S : AS) (c : CkP) : AS × Int :=
  if S.on = false then (S, 13) else if (bytesP c).2 ≠ 0 then (S, (bytesP c).2) else if (validW S).2 ≠ 0 then (S, (validW S).2)
  else runAll S (stepsW S (fileW ((validW S).1 + 1)) (bytesP c).1)

/-! ### closures in memory -/
/-- A variable in a block of its own. -/
def Box (K : Nat → Prop) (w : World) (g : Nat) (v : Value) : Prop := K g ∧ w.cell? ⟨g, 0, none⟩ = some v
theorem Box.mv {K K' : Nat → Prop} {w w' : World} {g : Nat} {v : Value} (h : Box K w g v) (hk : ∀ k, K k → k < w.heap.size → K' k ∧ w'.heap[k]? = w.heap[k]?) : Box K' w' g v := by
  have hlt : g < w.heap.size := World.block_lt_of_cell? w _ h.2
  obtain ⟨h1, h2⟩ := hk g h.1 hlt
  exact ⟨h1, (cell_of_heap h2).trans h.2⟩
def bp (g : Nat) : Value := .pointer (some ⟨g, 0, none⟩)
def stpG (d : Nat) (K : Nat → Prop) (w : World) (s : Stp) (cs : List Value) : Prop :=
  match s with
  | .write a t => a.length ≤ maxLen ∧ t.length ≤ maxLen ∧ ∃ gd gf gt, cs = [.func (.func 109) #[] #[bp gd, bp gf, bp gt]] ∧ Box K w gd (bp d) ∧ Box K w gf (sv a) ∧ Box K w gt (sv t)
  | .sync a => a.length ≤ maxLen ∧ ∃ gd gf, cs = [.func (.func 111) #[] #[bp gd, bp gf]] ∧ Box K w gd (bp d) ∧ Box K w gf (sv a)
  | .settle => cs = [.func (.func 113) #[bp d] #[]]
  | .mani a => a.length ≤ maxLen ∧ ∃ gd gf, cs = [.func (.func 114) #[] #[bp gd, bp gf]] ∧ Box K w gd (bp d) ∧ Box K w gf (sv a)
  | .syncF => ∃ gd, cs = [.func (.func 116) #[] #[bp gd]] ∧ Box K w gd (bp d)
  | .renameF => ∃ gd, cs = [.func (.func 117) #[] #[bp gd]] ∧ Box K w gd (bp d)
  | .remove a => a.length ≤ maxLen ∧ ∃ gd gn, cs = [.func (.func 163) #[] #[bp gd, bp gn]] ∧ Box K w gd (bp d) ∧ Box K w gn (sv a)
theorem stpG_elem (d : Nat) : Elem (stpG d) := ⟨fun K K' w w' s cs h hk => by
  cases s with
  | write a t =>
    obtain ⟨h1, h2, gd, gf, gt, e, x, y, z⟩ := h
    exact ⟨h1, h2, gd, gf, gt, e, x.mv hk, y.mv hk, z.mv hk⟩
  | sync a =>
    obtain ⟨h1, gd, gf, e, x, y⟩ := h
    exact ⟨h1, gd, gf, e, x.mv hk, y.mv hk⟩
  | settle => exact h
  | mani a =>
    obtain ⟨h1, gd, gf, e, x, y⟩ := h
    exact ⟨h1, gd, gf, e, x.mv hk, y.mv hk⟩
  | syncF =>
    obtain ⟨gd, e, x⟩ := h
    exact ⟨gd, e, x.mv hk⟩
  | renameF =>
    obtain ⟨gd, e, x⟩ := h
    exact ⟨gd, e, x.mv hk⟩
  | remove a =>
    obtain ⟨h1, gd, gf, e, x, y⟩ := h
    exact ⟨h1, gd, gf, e, x.mv hk, y.mv hk⟩⟩
theorem info91 : (Tryz.prog.info? 91).map (fun i => (i.zero, i.size, i.bytes)) = some (some .nilFunc, 1, 8) := by kernel_rfl

section
variable {α : Type} {b e size bytes : Nat} {E : (Nat → Prop) → World → α → List Value → Prop}
/-- So many more, which lie at an address. -/
theorem Grow.app (hE : Elem E) {w : World} {v : Value} {l : List α} (h : Grow b e size E w v l) (hb : b ≤ w.heap.size)
    (t : TypeId) (ht : Tryz.prog.underlying t = some (.slice e)) (z : Value) (hinfo : (Tryz.prog.info? e).map (fun i => (i.zero, i.size, i.bytes)) = some (some z, size, bytes)) (hzs : z.cells.size = size) (hsz : 0 < size)
    (a : Addr) (c : Nat) (l2 : List α) (news : List Value) (hn : news.length = l2.length * size) (hnews : ∀ j u, news[j]? = some u → w.cell? (a.add j) = some u) (hone : ∀ u ∈ news, u.oneCell' = true)
    (K2 : Nat → Prop) (hel2 : ∀ j (hj : j < l2.length), ∃ cs : List Value, cs.length = size ∧ (∀ i, i < size → news[j * size + i]? = cs[i]?) ∧ E K2 w l2[j] cs) (hK2 : ∀ k, K2 k → b ≤ k ∧ k < w.heap.size ∧ v.ownBlock ≠ some k)
    (hlen : (l.length + l2.length) * bytes ≤ 140737488355328) (hmax : l.length + l2.length ≤ maxLen) :
    ∃ A c' w', (∀ ty, (Builtin.append_ #[t, t] ty #[v, .slice (some a) l2.length c]).run Tryz.prog w = .ok (.slice A (l.length + l2.length) c') w') ∧ Grow b e size E w' (.slice A (l.length + l2.length) c') (l ++ l2) ∧
      Fr (fun k => v.ownBlock = some k) w w' ∧ (0 < l.length + l2.length → ∃ g, A = some ⟨g, 0, none⟩ ∧ b ≤ g) := by
  obtain ⟨K, xs, ho, hel, hK⟩ := h
  obtain ⟨i0, hi, hz0, hz1, hz2⟩ := info_parts hinfo
  obtain ⟨v', w', hr, how, hgr, hnil, hat⟩ := run_append_own_at (P := Tryz.prog) w b t 0 e i0 z size bytes ht hi hz0 hz1 hz2 hzs hsz v l.length xs ho a l2.length c news hn hnews hone hmax hlen hb
  have hv' : ∃ A c', v' = .slice A (l.length + l2.length) c' ∧ (0 < l.length + l2.length → ∃ g, A = some ⟨g, 0, none⟩ ∧ b ≤ g) := by
    rcases how.2 with ⟨e1, h0⟩ | ⟨g, cap, cur, e1, hbg, _⟩
    · exact ⟨none, 0, by rw [e1, h0], fun h => by omega⟩
    · exact ⟨_, _, e1, fun _ => ⟨g, rfl, hbg⟩⟩
  obtain ⟨A, c', rfl, hA⟩ := hv'
  have hfr : Fr (fun k => v.ownBlock = some k) w w' := (Fr.refl _ w).grown hgr fun k hk _ => hk
  refine ⟨A, c', w', fun ty => hr, ⟨fun k => K k ∨ K2 k, xs ++ news, by simpa using how, fun j hj => ?_, fun k hk => ?_⟩, hfr, hA⟩
  · rw [List.length_append] at hj
    by_cases hjl : j < l.length
    · obtain ⟨cs', h1, h2, h3⟩ := hel j hjl
      refine ⟨cs', h1, fun i hi' => ?_, ?_⟩
      · have hlt : j * size + i < xs.length := by
          rw [ho.1]
          have := Nat.mul_le_mul_right size (show j + 1 ≤ l.length by omega)
          rw [Nat.add_mul, Nat.one_mul] at this
          omega
        rw [List.getElem?_append_left hlt]; exact h2 i hi'
      · rw [List.getElem_append_left hjl]
        exact hE.mono _ _ _ _ _ _ h3 fun k hk hlt => ⟨.inl hk, hfr.block k hlt (hK k hk).2.2⟩
    · obtain ⟨m, rfl⟩ : ∃ m, j = l.length + m := ⟨j - l.length, by omega⟩
      obtain ⟨cs', h1, h2, h3⟩ := hel2 m (by omega)
      refine ⟨cs', h1, fun i hi' => ?_, ?_⟩
      · have e3 : (l.length + m) * size + i - xs.length = m * size + i := by rw [ho.1, Nat.add_mul]; omega
        rw [List.getElem?_append_right (by rw [ho.1, Nat.add_mul]; omega), e3]
        exact h2 i hi'
      · rw [List.getElem_append_right (by omega)]
        simp only [Nat.add_sub_cancel_left]
        exact hE.mono _ _ _ _ _ _ h3 fun k hk hlt => ⟨.inr hk, hfr.block k hlt (hK2 k hk).2.2⟩
  · have hatk : ∀ j, (Value.slice A (l.length + l2.length) c').ownBlock = some j → v.ownBlock = some j ∨ j = w.heap.size := fun j hj => by
      rcases hat with e1 | e1
      · exact .inl (e1 ▸ hj)
      · rw [hj] at e1; exact .inr (Option.some.inj e1)
    have hsz' := hfr.size
    rcases hk with hk | hk
    · obtain ⟨h1, h2, h3⟩ := hK k hk
      refine ⟨h1, by omega, fun e1 => ?_⟩
      rcases hatk k e1 with e2 | e2
      · exact h3 e2
      · omega
    · obtain ⟨h1, h2, h3⟩ := hK2 k hk
      refine ⟨h1, by omega, fun e1 => ?_⟩
      rcases hatk k e1 with e2 | e2
      · exact h3 e2
      · omega
end
/-- A row of names, as any row. -/
theorem rowE_names {w : World} {b n : Nat} {A : Option Addr} {c : Nat} {l : List (List UInt8)} (h : w.ownsRow b 9 1 (.slice A n c) n (l.map encStr)) (hl : ∀ s ∈ l, s.length ≤ maxLen) (hm : l.length ≤ maxLen) : RowE (fun k => b ≤ k) w 1 strE (.slice A n c) l := by
  have hn : l.length = n := by have := h.1; simpa using this
  refine ⟨A, c, by rw [hn], hm, fun h0 => ?_⟩
  rcases h.2 with ⟨_, h1⟩ | ⟨g, cap, cur, e1, hb, hg, h2, h3, h4, h5⟩
  · omega
  · injection e1 with ea _ _
    refine ⟨g, 0, ea, hb, fun j hj => ⟨[sv l[j]], rfl, fun i hi => ?_, rfl, hl _ (List.getElem_mem hj)⟩⟩
    obtain rfl : i = 0 := by omega
    have hc : cur[j]? = some (sv l[j]) := by
      have e2 : (cur.toList.take (n * 1))[j]? = some (sv l[j]) := by
        rw [h5, List.getElem?_map, List.getElem?_eq_getElem hj]; rfl
      rw [List.getElem?_take] at e2
      split at e2
      · simpa using e2
      · cases e2
    simp only [Nat.mul_one, Nat.add_zero, Nat.zero_add]
    rw [cell_of_row w g j cur 9 (0, 0) hg, hc]
    rfl
end Go.Proofs.YtoaiofjcjjkfaaaGreatDoor
/- Which files a Save removes: the steps that do it. -/
namespace Go.Proofs.YtoaiofjcjjkfaaaGreatDoor
open Go.RowKit Go.Maps Go.Sort
set_option linter.unusedVariables false

theorem pred1_any (gf : Nat) (file l : List UInt8) (w : World) (hc : w.cell? ⟨gf, 0, none⟩ = some (sv file)) :
    Calls Tryz.prog 108 #[sv l, bp gf] w fun e w' => e = .returned (.bool (pre1 file l)) ∧ Fr No w w' := by
  unfold bp
  by_cases a : l = file
  · have h1 : (l == file) = true := by simpa using a
    have HE : Hid (pre1 file l = true) := Lib.hid (by unfold pre1; rw [h1]; rfl)
    clear a
    go_enter Tryz.func108, Tryz.ntmps108
    go_wp2
    go_ret
    exact ⟨by rw [HE.out]; first | done | rfl, Fr.refl _ _⟩
  · have h1 : (l == file) = false := by simpa using a
    by_cases b : l = [109, 97, 110, 105, 102, 101, 115, 116, 46, 110, 101, 119]
    · have h2 : (l == [109, 97, 110, 105, 102, 101, 115, 116, 46, 110, 101, 119]) = true := by simpa using b
      have HE : Hid (pre1 file l = true) := Lib.hid (by unfold pre1 freshL; rw [h1, h2]; rfl)
      clear a b
      go_enter Tryz.func108, Tryz.ntmps108
      go_wp2
      go_ret
      exact ⟨by rw [HE.out]; first | done | rfl, Fr.refl _ _⟩
    · have h2 : (l == [109, 97, 110, 105, 102, 101, 115, 116, 46, 110, 101, 119]) = false := by simpa using b
      have HE : Hid (pre1 file l = false) := Lib.hid (by unfold pre1 freshL; rw [h1, h2]; rfl)
      clear a b
      go_enter Tryz.func108, Tryz.ntmps108
      go_wp2
      go_ret
      exact ⟨by rw [HE.out]; first | done | rfl, Fr.refl _ _⟩
theorem pred2_any (gf : Nat) (file l : List UInt8) (w : World) (hc : w.cell? ⟨gf, 0, none⟩ = some (sv file)) (hv : Vr w) (hl : l.length ≤ 1000000) :
    Calls Tryz.prog 119 #[sv l, bp gf] w fun e w' => e = .returned (.bool (pre2 file l)) ∧ Fr No w w' := by
  have HN := Lib.hid (numberOf_any l w hv hl)
  have HP : Hid (pre2 file l = (decide (0 < numW l) && l != file)) := Lib.hid rfl
  have hlt := World.block_lt_of_cell? w _ hc
  have HC := Lib.hid hc
  have HLT := Lib.hid hlt
  unfold bp
  generalize numW l = n at *
  clear hc hv hl hlt
  by_cases a : 0 < n
  · have h0 : decide (0 < n) = true := by simpa using a
    by_cases b : l = file
    · have h2 : (l == file) = true := by simpa using b
      have h3 : (l != file) = false := by simpa using b
      have HE : Hid (pre2 file l = false) := Lib.hid (by rw [HP.out, h3, Bool.and_false])
      clear b
      go_enter Tryz.func119, Tryz.ntmps119
      go_wp2_with fail
      refine HN.out.mono ?_
      rintro e w1 ⟨rfl, f1⟩
      have x0 : w1.cell? ⟨gf, 0, none⟩ = some (sv file) := (cell_of_heap (f1.block gf HLT.out id)).trans HC.out
      have F1 := Lib.hid f1
      clear f1
      go_wp2
      go_ret
      exact ⟨by rw [HE.out]; first | done | rfl, F1.out⟩
    · have h2 : (l == file) = false := by simpa using b
      have h3 : (l != file) = true := by simpa using b
      have HE : Hid (pre2 file l = true) := Lib.hid (by rw [HP.out, h3, h0]; rfl)
      clear b
      go_enter Tryz.func119, Tryz.ntmps119
      go_wp2_with fail
      refine HN.out.mono ?_
      rintro e w1 ⟨rfl, f1⟩
      have x0 : w1.cell? ⟨gf, 0, none⟩ = some (sv file) := (cell_of_heap (f1.block gf HLT.out id)).trans HC.out
      have F1 := Lib.hid f1
      clear f1
      go_wp2
      go_ret
      exact ⟨by rw [HE.out]; first | done | rfl, F1.out⟩
  · have h0 : decide (0 < n) = false := by simpa using a
    have HE : Hid (pre2 file l = false) := Lib.hid (by rw [HP.out, h0, Bool.false_and])
    have hle : n ≤ 0 := by omega
    clear a
    go_enter Tryz.func119, Tryz.ntmps119
    go_wp2_with fail
    refine HN.out.mono ?_
    rintro e w1 ⟨rfl, f1⟩
    have F1 := Lib.hid f1
    clear f1
    go_wp2
    go_ret
    exact ⟨by rw [HE.out]; first | done | rfl, F1.out⟩
theorem filter_snoc (p : List UInt8 → Bool) (l : List (List UInt8)) (j : Nat) (h : j < l.length) : ((l.take (j + 1)).filter p) = if p l[j] = true then (l.take j).filter p ++ [l[j]] else (l.take j).filter p := by
  rw [List.take_succ_eq_append_getElem h, List.filter_append]
  split
  · rename_i h1; simp [h1]
  · rename_i h1; simp [h1]

set_option maxRecDepth 100000 in
set_option maxHeartbeats 2000000 in
theorem removals1_any (d : Nat) (A : Option Addr) (n c : Nat) (l : List (List UInt8)) (K0 : Nat → Prop) (gf : Nat) (file : List UInt8) (w : World) (hr : RowE K0 w 1 strE (.slice A n c) l) (hK0 : ∀ k, K0 k → k < w.heap.size) (hlen : l.length ≤ 1000) (hs : ∀ s ∈ l, s.length ≤ 1000000)
    (hf : w.cell? ⟨gf, 0, none⟩ = some (sv file)) (hv : Vr w) :
    Calls Tryz.prog 107 #[bp d, .slice A n c, .func (.func 108) #[] #[bp gf]] w fun e w' => ∃ g m cc, e = .returned (.slice (some ⟨g, 0, none⟩) m cc) ∧ m = ((l.filter (pre1 file)).map Stp.remove).length ∧
      Grow w.heap.size 91 1 (stpG d) w' (.slice (some ⟨g, 0, none⟩) m cc) ((l.filter (pre1 file)).map Stp.remove) ∧ Fr No w w' := by
  obtain ⟨B, hB⟩ : ∃ B, w.heap.size = B := ⟨_, rfl⟩
  have hgf := World.block_lt_of_cell? w _ hf
  obtain ⟨wa, hwa⟩ : ∃ wa, w.alloc (.cells #[bp d] 40) = wa := ⟨_, rfl⟩
  have hsa : wa.heap.size = B + 1 := by rw [← hwa, ← hB]; simp
  have hbd : Blk wa B 40 #[bp d] := by rw [← hwa, ← hB]; exact Blk.new w 40 _
  have hfa : Fr No w wa := by rw [← hwa]; exact (Fr.refl _ w).alloc _
  obtain ⟨wb, hwb⟩ : ∃ wb, wa.alloc (.cells #[] 91) = wb := ⟨_, rfl⟩
  have hfb : Fr No wa wb := by rw [← hwb]; exact (Fr.refl _ wa).alloc _
  have hg0 : Grow B 91 1 (stpG d) wb (.slice (some ⟨B + 1, 0, none⟩) 0 0) [] := by rw [← hwb, ← hsa]; exact Grow.nil B 91 1 (stpG d) wa (by omega)
  have hfab : Fr No w wb := hfa.trans hfb fun _ _ h => h
  obtain ⟨Ar, cr, er, _, hel⟩ := hr
  injection er with ea en ec
  subst ea
  have hn : n = l.length := en
  have HEL := Lib.hid hel
  have HKL := Lib.hid hK0
  have HS := Lib.hid hs
  have HFC := Lib.hid hf
  have HV := Lib.hid hv
  have HG0 := Lib.hid hg0
  have HFAB := Lib.hid hfa
  have HFB := Lib.hid hfb
  have HBD := Lib.hid hbd
  have HWA := Lib.hid hwa
  have HWB := Lib.hid hwb
  have HSA := Lib.hid hsa
  have HB := Lib.hid hB
  have HN := Lib.hid hn
  have HGF := Lib.hid hgf
  have hn1 : n ≤ 1000 := by omega
  have hmf := mkf
  clear hel hK0 hs hf hv hg0 hfab hfa hfb hbd hwa hwb hsa hn hgf hlen en ec hB
  generalize hbpd : bp d = P at *
  have HPD := Lib.hid hbpd
  generalize hbpf : bp gf = PF at *
  have HPF := Lib.hid hbpf
  clear hbpd hbpf
  go_enter Tryz.func107, Tryz.ntmps107
  go_wp2
  rw [HWA.out, HWB.out, HB.out]
  go_loopw [7, 13] (fun v i wr => ∃ (j g m c' : Nat) (acc : List Stp), j ≤ n ∧ i = .int .i64 j ∧ v = .slice (some ⟨g, 0, none⟩) m c' ∧ acc.length = m ∧ m ≤ j ∧ acc = ((l.take j).filter (pre1 file)).map Stp.remove ∧ Grow B 91 1 (stpG d) wr (.slice (some ⟨g, 0, none⟩) m c') acc ∧ Fr No wa wr) (fun _ i _ => n - (intOf i).toNat)
  case atStart => exact ⟨0, _, 0, _, [], by omega, rfl, rfl, rfl, by omega, rfl, HG0.out, HFB.out⟩
  case round =>
    obtain ⟨j, g, m, c', acc, hj, rfl, rfl, hm, hmj, hacc, hg, hfr⟩ := hrel
    have HM := Lib.hid hm
    have HACC := Lib.hid hacc
    have HGR := Lib.hid hg
    have HFR := Lib.hid hfr
    clear hm hacc hg hfr
    by_cases hlt : j < n
    · have hjl : j < l.length := by have := HN.out; omega
      obtain ⟨gr, off, rfl, hgr, hcell⟩ := HEL.out (by omega)
      obtain ⟨cs, _, hcs2, rfl, hmx⟩ := hcell j hjl
      have hgl := HKL.out gr hgr
      have hbw := HB.out
      have hfw : Fr No w wr := HFAB.out.trans HFR.out fun _ _ h => h
      have hc : wr.cell? ⟨gr, off + j, none⟩ = some (sv l[j]) := by
        have h1 := (cell_of_heap (o := off + j * 1 + 0) (hfw.block gr (by omega) id)).trans (hcs2 0 (by omega))
        simpa using h1
      have hxd : Blk wr B 40 #[P] := HBD.out.of (HFR.out.block B HBD.out.lt id)
      obtain ⟨gn, hgn⟩ : ∃ gn, wr.heap.size = gn := ⟨_, rfl⟩
      obtain ⟨wc, hwc⟩ : ∃ wc, wr.alloc (.cells #[sv l[j]] 9) = wc := ⟨_, rfl⟩
      have hfc : Fr No wr wc := by rw [← hwc]; exact (Fr.refl _ wr).alloc _
      have hxn : wc.cell? ⟨gn, 0, none⟩ = some (sv l[j]) := by rw [← hwc, ← hgn]; exact (Blk.new wr 9 _).cell 0
      have hsl := HS.out _ (List.getElem_mem hjl)
      have hfwc := hfw.trans hfc fun _ _ h => h
      have HX := Lib.hid hxn
      have HXD := Lib.hid hxd
      have hfgc : wc.cell? ⟨gf, 0, none⟩ = some (sv file) := (cell_of_heap (hfwc.block gf HGF.out id)).trans HFC.out
      have CP := pred1_any gf file l[j] wc hfgc
      have HFS := Lib.hid (filter_snoc (pre1 file) l j hjl)
      have HCP := Lib.hid CP
      have HFC2 := Lib.hid hfc
      have HWC := Lib.hid hwc
      have HGN := Lib.hid hgn
      have HSL := Lib.hid hsl
      have HJL : Hid (l[j].length ≤ maxLen) := Lib.hid (by unfold maxLen; omega)
      have hsn : gn < wc.heap.size := by rw [← hwc]; simp [hgn]
      have HSN := Lib.hid hsn
      generalize l[j] = s at *
      rw [HPF.out] at HCP
      clear hcell hcs2 hmx hgl hbw hfw hxd hwc hfc hxn hsl hfwc hfgc CP hgn hsn
      go_wp2_with fail
      rw [HWC.out, HGN.out]
      have HCP2 := HCP
      refine HCP.out.mono ?_
      rintro e w5 ⟨rfl, f5⟩
      have F5 := Lib.hid (HFC2.out.trans f5 fun _ _ h => h)
      have F5c := Lib.hid f5
      clear f5 hc
      by_cases hp : pre1 file s = true
      · rw [hp]
        rw [if_pos hp] at HFS
        have hsz5 := F5.out.size
        have hgnb := HGN.out
        have hg5 := HGR.out.keep (stpG_elem d) F5.out (fun k hk => hk.elim)
        obtain ⟨g9, hg9⟩ : ∃ g9, w5.heap.size = g9 := ⟨_, rfl⟩
        obtain ⟨w6, hw6⟩ : ∃ w6, w5.alloc (.cells #[.func (.func 163) #[] #[bp B, bp gn]] 91) = w6 := ⟨_, rfl⟩
        have hf6 : Fr No w5 w6 := by rw [← hw6]; exact (Fr.refl _ w5).alloc _
        have hg6 := hg5.keep (stpG_elem d) hf6 (fun k hk => hk.elim)
        have hx6 : w6.cell? ⟨gn, 0, none⟩ = some (sv s) := (cell_of_heap (hf6.block gn (by have := F5c.out.size; have := HSN.out; omega) id)).trans ((cell_of_heap (F5c.out.block gn HSN.out id)).trans HX.out)
        have hBl := HXD.out.lt
        have hd6 : w6.cell? ⟨B, 0, none⟩ = some (bp d) := by
          rw [HPD.out]
          exact (cell_of_heap (hf6.block B (by omega) id)).trans ((cell_of_heap (F5.out.block B hBl id)).trans (HXD.out.cell 0))
        have hown := HGR.out.lt
        have hs6 : w6.heap.size = g9 + 1 := by rw [← hw6]; simp [hg9]
        have hel6 : ∀ i (hi : i < [Stp.remove s].length), ∃ cs : List Value, cs.length = 1 ∧ (∀ q, q < 1 → [Value.func (.func 163) #[] #[bp B, bp gn]][i * 1 + q]? = cs[q]?) ∧ stpG d (fun k => k = B ∨ k = gn) w6 [Stp.remove s][i] cs := fun i hi => by
          obtain rfl : i = 0 := by simpa using hi
          refine ⟨[.func (.func 163) #[] #[bp B, bp gn]], rfl, fun q hq => ?_, ?_⟩
          · obtain rfl : q = 0 := by omega
            rfl
          · exact ⟨HJL.out, B, gn, rfl, ⟨.inl rfl, hd6⟩, ⟨.inr rfl, hx6⟩⟩
        obtain ⟨A7, c7, w7, hap, hg7, f7, hA7⟩ := hg6.app (stpG_elem d) (by have := HB.out; have := HFAB.out.size; have := HFR.out.size; omega) 129 Tryz.underlying129 .nilFunc info91 rfl (by omega) ⟨g9, 0, none⟩ 1 [Stp.remove s] [.func (.func 163) #[] #[bp B, bp gn]] rfl
          (fun i u hu => by
            rw [Addr.add_lit, Nat.zero_add, ← hw6, ← hg9]
            exact ((Blk.new w5 91 #[.func (.func 163) #[] #[bp B, bp gn]]).cell i).trans (by simpa using hu))
          (by simp [Value.oneCell']) (fun k => k = B ∨ k = gn)
          hel6
          (fun k hk => by
            have h2 := HB.out; have h3 := HFAB.out.size; have h4 := HFR.out.size
            rcases hk with rfl | rfl
            · refine ⟨Nat.le_refl _, by omega, fun e => ?_⟩
              obtain ⟨K1, xs1, ho1, _, _⟩ := HGR.out
              exact own_blk_ne ho1 e HXD.out (by decide) rfl
            · refine ⟨by omega, by omega, fun e => ?_⟩
              have := (hown _ e).2
              omega)
          (by rw [HM.out]; simp; omega) (by rw [HM.out]; unfold maxLen; simp; omega)
        have hgw7 : Fr No wa w7 := (HFR.out.trans ((F5.out.trans hf6 fun _ _ h => h)) fun _ _ h => h).trans f7 fun k hk e => by
          have h5 := HGR.out.lt k e
          have h6 := HSA.out
          obtain ⟨K1, xs1, ho1, _, _⟩ := HGR.out
          have h7 : k = B := by omega
          subst h7
          exact own_blk_ne ho1 e HXD.out (by decide) rfl
        rw [HM.out] at hap hg7 hA7
        obtain ⟨g7, rfl, hg7b⟩ := hA7 (by simp)
        rw [← hw6, ← hg9] at hap
        unfold bp at hap
        have HAP := Lib.hid hap
        have HE7 : Hid (acc ++ [Stp.remove s] = ((l.take (j + 1)).filter (pre1 file)).map Stp.remove) := Lib.hid (by rw [HFS.out, List.map_append, ← HACC.out]; rfl)
        have HM7 : Hid ((acc ++ [Stp.remove s]).length = m + 1) := Lib.hid (by rw [List.length_append, HM.out]; rfl)
        have HG7 := Lib.hid hg7
        have HF7 := Lib.hid hgw7
        clear hap hg7 hgw7 f7 hg5 hg6 hf6 hx6 hd6 hown hs6 hw6 hg9 hsz5 hgnb hBl hp hA7
        go_wp2_with (at_builtin; refine wpList_add rfl _ _ _ _ rfl _ _ _ _ rfl rfl (HAP.out _) ?_)
        go_roundw
        case rel => exact ⟨j + 1, g7, m + 1, c7, _, by omega, by go_num, rfl, HM7.out, by omega, HE7.out, HG7.out, HF7.out⟩
        case measure => simp [intOf]; omega
      · rw [if_neg hp] at HFS
        have hp' : pre1 file s = false := by simpa using hp
        rw [hp']
        have HE7 : Hid (acc = ((l.take (j + 1)).filter (pre1 file)).map Stp.remove) := Lib.hid (by rw [HFS.out]; exact HACC.out)
        have HG7 := Lib.hid (HGR.out.keep (stpG_elem d) F5.out (fun k hk => hk.elim))
        have HF7 : Hid (Fr No wa w5) := Lib.hid (HFR.out.trans F5.out fun _ _ h => h)
        clear hp hp'
        go_wp2
        go_roundw
        case rel => exact ⟨j + 1, g, m, c', acc, by omega, by go_num, rfl, HM.out, by omega, HE7.out, HG7.out, HF7.out⟩
        case measure => simp [intOf]; omega
    · obtain rfl : j = n := by omega
      go_wp2
      go_ret
      have he : l.take j = l := by rw [HN.out, List.take_length]
      have ha := HACC.out
      rw [he] at ha
      have hg := HGR.out
      rw [ha] at hg
      exact ⟨g, m, c', rfl, by rw [← ha, HM.out], by rw [HB.out]; exact hg, HFAB.out.trans HFR.out fun _ _ h => h⟩

set_option maxRecDepth 100000 in
set_option maxHeartbeats 2000000 in
theorem removals2_any (d : Nat) (A : Option Addr) (n c : Nat) (l : List (List UInt8)) (K0 : Nat → Prop) (gf : Nat) (file : List UInt8) (w : World) (hr : RowE K0 w 1 strE (.slice A n c) l) (hK0 : ∀ k, K0 k → k < w.heap.size) (hlen : l.length ≤ 1000) (hs : ∀ s ∈ l, s.length ≤ 1000000)
    (hf : w.cell? ⟨gf, 0, none⟩ = some (sv file)) (hv : Vr w) :
    Calls Tryz.prog 107 #[bp d, .slice A n c, .func (.func 119) #[] #[bp gf]] w fun e w' => ∃ g m cc, e = .returned (.slice (some ⟨g, 0, none⟩) m cc) ∧ m = ((l.filter (pre2 file)).map Stp.remove).length ∧
      Grow w.heap.size 91 1 (stpG d) w' (.slice (some ⟨g, 0, none⟩) m cc) ((l.filter (pre2 file)).map Stp.remove) ∧ Fr No w w' := by
  obtain ⟨B, hB⟩ : ∃ B, w.heap.size = B := ⟨_, rfl⟩
  have hgf := World.block_lt_of_cell? w _ hf
  obtain ⟨wa, hwa⟩ : ∃ wa, w.alloc (.cells #[bp d] 40) = wa := ⟨_, rfl⟩
  have hsa : wa.heap.size = B + 1 := by rw [← hwa, ← hB]; simp
  have hbd : Blk wa B 40 #[bp d] := by rw [← hwa, ← hB]; exact Blk.new w 40 _
  have hfa : Fr No w wa := by rw [← hwa]; exact (Fr.refl _ w).alloc _
  obtain ⟨wb, hwb⟩ : ∃ wb, wa.alloc (.cells #[] 91) = wb := ⟨_, rfl⟩
  have hfb : Fr No wa wb := by rw [← hwb]; exact (Fr.refl _ wa).alloc _
  have hg0 : Grow B 91 1 (stpG d) wb (.slice (some ⟨B + 1, 0, none⟩) 0 0) [] := by rw [← hwb, ← hsa]; exact Grow.nil B 91 1 (stpG d) wa (by omega)
  have hfab : Fr No w wb := hfa.trans hfb fun _ _ h => h
  obtain ⟨Ar, cr, er, _, hel⟩ := hr
  injection er with ea en ec
  subst ea
  have hn : n = l.length := en
  have HEL := Lib.hid hel
  have HKL := Lib.hid hK0
  have HS := Lib.hid hs
  have HFC := Lib.hid hf
  have HV := Lib.hid hv
  have HG0 := Lib.hid hg0
  have HFAB := Lib.hid hfa
  have HFB := Lib.hid hfb
  have HBD := Lib.hid hbd
  have HWA := Lib.hid hwa
  have HWB := Lib.hid hwb
  have HSA := Lib.hid hsa
  have HB := Lib.hid hB
  have HN := Lib.hid hn
  have HGF := Lib.hid hgf
  have hn1 : n ≤ 1000 := by omega
  have hmf := mkf
  clear hel hK0 hs hf hv hg0 hfab hfa hfb hbd hwa hwb hsa hn hgf hlen en ec hB
  generalize hbpd : bp d = P at *
  have HPD := Lib.hid hbpd
  generalize hbpf : bp gf = PF at *
  have HPF := Lib.hid hbpf
  clear hbpd hbpf
  go_enter Tryz.func107, Tryz.ntmps107
  go_wp2
  rw [HWA.out, HWB.out, HB.out]
  go_loopw [7, 13] (fun v i wr => ∃ (j g m c' : Nat) (acc : List Stp), j ≤ n ∧ i = .int .i64 j ∧ v = .slice (some ⟨g, 0, none⟩) m c' ∧ acc.length = m ∧ m ≤ j ∧ acc = ((l.take j).filter (pre2 file)).map Stp.remove ∧ Grow B 91 1 (stpG d) wr (.slice (some ⟨g, 0, none⟩) m c') acc ∧ Fr No wa wr) (fun _ i _ => n - (intOf i).toNat)
  case atStart => exact ⟨0, _, 0, _, [], by omega, rfl, rfl, rfl, by omega, rfl, HG0.out, HFB.out⟩
  case round =>
    obtain ⟨j, g, m, c', acc, hj, rfl, rfl, hm, hmj, hacc, hg, hfr⟩ := hrel
    have HM := Lib.hid hm
    have HACC := Lib.hid hacc
    have HGR := Lib.hid hg
    have HFR := Lib.hid hfr
    clear hm hacc hg hfr
    by_cases hlt : j < n
    · have hjl : j < l.length := by have := HN.out; omega
      obtain ⟨gr, off, rfl, hgr, hcell⟩ := HEL.out (by omega)
      obtain ⟨cs, _, hcs2, rfl, hmx⟩ := hcell j hjl
      have hgl := HKL.out gr hgr
      have hbw := HB.out
      have hfw : Fr No w wr := HFAB.out.trans HFR.out fun _ _ h => h
      have hc : wr.cell? ⟨gr, off + j, none⟩ = some (sv l[j]) := by
        have h1 := (cell_of_heap (o := off + j * 1 + 0) (hfw.block gr (by omega) id)).trans (hcs2 0 (by omega))
        simpa using h1
      have hxd : Blk wr B 40 #[P] := HBD.out.of (HFR.out.block B HBD.out.lt id)
      obtain ⟨gn, hgn⟩ : ∃ gn, wr.heap.size = gn := ⟨_, rfl⟩
      obtain ⟨wc, hwc⟩ : ∃ wc, wr.alloc (.cells #[sv l[j]] 9) = wc := ⟨_, rfl⟩
      have hfc : Fr No wr wc := by rw [← hwc]; exact (Fr.refl _ wr).alloc _
      have hxn : wc.cell? ⟨gn, 0, none⟩ = some (sv l[j]) := by rw [← hwc, ← hgn]; exact (Blk.new wr 9 _).cell 0
      have hsl := HS.out _ (List.getElem_mem hjl)
      have hfwc := hfw.trans hfc fun _ _ h => h
      have HX := Lib.hid hxn
      have HXD := Lib.hid hxd
      have hfgc : wc.cell? ⟨gf, 0, none⟩ = some (sv file) := (cell_of_heap (hfwc.block gf HGF.out id)).trans HFC.out
      have CP := pred2_any gf file l[j] wc hfgc (HV.out.keep hfwc) hsl
      have HFS := Lib.hid (filter_snoc (pre2 file) l j hjl)
      have HCP := Lib.hid CP
      have HFC2 := Lib.hid hfc
      have HWC := Lib.hid hwc
      have HGN := Lib.hid hgn
      have HSL := Lib.hid hsl
      have HJL : Hid (l[j].length ≤ maxLen) := Lib.hid (by unfold maxLen; omega)
      have hsn : gn < wc.heap.size := by rw [← hwc]; simp [hgn]
      have HSN := Lib.hid hsn
      generalize l[j] = s at *
      rw [HPF.out] at HCP
      clear hcell hcs2 hmx hgl hbw hfw hxd hwc hfc hxn hsl hfwc hfgc CP hgn hsn
      go_wp2_with fail
      rw [HWC.out, HGN.out]
      have HCP2 := HCP
      refine HCP.out.mono ?_
      rintro e w5 ⟨rfl, f5⟩
      have F5 := Lib.hid (HFC2.out.trans f5 fun _ _ h => h)
      have F5c := Lib.hid f5
      clear f5 hc
      by_cases hp : pre2 file s = true
      · rw [hp]
        rw [if_pos hp] at HFS
        have hsz5 := F5.out.size
        have hgnb := HGN.out
        have hg5 := HGR.out.keep (stpG_elem d) F5.out (fun k hk => hk.elim)
        obtain ⟨g9, hg9⟩ : ∃ g9, w5.heap.size = g9 := ⟨_, rfl⟩
        obtain ⟨w6, hw6⟩ : ∃ w6, w5.alloc (.cells #[.func (.func 163) #[] #[bp B, bp gn]] 91) = w6 := ⟨_, rfl⟩
        have hf6 : Fr No w5 w6 := by rw [← hw6]; exact (Fr.refl _ w5).alloc _
        have hg6 := hg5.keep (stpG_elem d) hf6 (fun k hk => hk.elim)
        have hx6 : w6.cell? ⟨gn, 0, none⟩ = some (sv s) := (cell_of_heap (hf6.block gn (by have := F5c.out.size; have := HSN.out; omega) id)).trans ((cell_of_heap (F5c.out.block gn HSN.out id)).trans HX.out)
        have hBl := HXD.out.lt
        have hd6 : w6.cell? ⟨B, 0, none⟩ = some (bp d) := by
          rw [HPD.out]
          exact (cell_of_heap (hf6.block B (by omega) id)).trans ((cell_of_heap (F5.out.block B hBl id)).trans (HXD.out.cell 0))
        have hown := HGR.out.lt
        have hs6 : w6.heap.size = g9 + 1 := by rw [← hw6]; simp [hg9]
        have hel6 : ∀ i (hi : i < [Stp.remove s].length), ∃ cs : List Value, cs.length = 1 ∧ (∀ q, q < 1 → [Value.func (.func 163) #[] #[bp B, bp gn]][i * 1 + q]? = cs[q]?) ∧ stpG d (fun k => k = B ∨ k = gn) w6 [Stp.remove s][i] cs := fun i hi => by
          obtain rfl : i = 0 := by simpa using hi
          refine ⟨[.func (.func 163) #[] #[bp B, bp gn]], rfl, fun q hq => ?_, ?_⟩
          · obtain rfl : q = 0 := by omega
            rfl
          · exact ⟨HJL.out, B, gn, rfl, ⟨.inl rfl, hd6⟩, ⟨.inr rfl, hx6⟩⟩
        obtain ⟨A7, c7, w7, hap, hg7, f7, hA7⟩ := hg6.app (stpG_elem d) (by have := HB.out; have := HFAB.out.size; have := HFR.out.size; omega) 129 Tryz.underlying129 .nilFunc info91 rfl (by omega) ⟨g9, 0, none⟩ 1 [Stp.remove s] [.func (.func 163) #[] #[bp B, bp gn]] rfl
          (fun i u hu => by
            rw [Addr.add_lit, Nat.zero_add, ← hw6, ← hg9]
            exact ((Blk.new w5 91 #[.func (.func 163) #[] #[bp B, bp gn]]).cell i).trans (by simpa using hu))
          (by simp [Value.oneCell']) (fun k => k = B ∨ k = gn)
          hel6
          (fun k hk => by
            have h2 := HB.out; have h3 := HFAB.out.size; have h4 := HFR.out.size
            rcases hk with rfl | rfl
            · refine ⟨Nat.le_refl _, by omega, fun e => ?_⟩
              obtain ⟨K1, xs1, ho1, _, _⟩ := HGR.out
              exact own_blk_ne ho1 e HXD.out (by decide) rfl
            · refine ⟨by omega, by omega, fun e => ?_⟩
              have := (hown _ e).2
              omega)
          (by rw [HM.out]; simp; omega) (by rw [HM.out]; unfold maxLen; simp; omega)
        have hgw7 : Fr No wa w7 := (HFR.out.trans ((F5.out.trans hf6 fun _ _ h => h)) fun _ _ h => h).trans f7 fun k hk e => by
          have h5 := HGR.out.lt k e
          have h6 := HSA.out
          obtain ⟨K1, xs1, ho1, _, _⟩ := HGR.out
          have h7 : k = B := by omega
          subst h7
          exact own_blk_ne ho1 e HXD.out (by decide) rfl
        rw [HM.out] at hap hg7 hA7
        obtain ⟨g7, rfl, hg7b⟩ := hA7 (by simp)
        rw [← hw6, ← hg9] at hap
        unfold bp at hap
        have HAP := Lib.hid hap
        have HE7 : Hid (acc ++ [Stp.remove s] = ((l.take (j + 1)).filter (pre2 file)).map Stp.remove) := Lib.hid (by rw [HFS.out, List.map_append, ← HACC.out]; rfl)
        have HM7 : Hid ((acc ++ [Stp.remove s]).length = m + 1) := Lib.hid (by rw [List.length_append, HM.out]; rfl)
        have HG7 := Lib.hid hg7
        have HF7 := Lib.hid hgw7
        clear hap hg7 hgw7 f7 hg5 hg6 hf6 hx6 hd6 hown hs6 hw6 hg9 hsz5 hgnb hBl hp hA7
        go_wp2_with (at_builtin; refine wpList_add rfl _ _ _ _ rfl _ _ _ _ rfl rfl (HAP.out _) ?_)
        go_roundw
        case rel => exact ⟨j + 1, g7, m + 1, c7, _, by omega, by go_num, rfl, HM7.out, by omega, HE7.out, HG7.out, HF7.out⟩
        case measure => simp [intOf]; omega
      · rw [if_neg hp] at HFS
        have hp' : pre2 file s = false := by simpa using hp
        rw [hp']
        have HE7 : Hid (acc = ((l.take (j + 1)).filter (pre2 file)).map Stp.remove) := Lib.hid (by rw [HFS.out]; exact HACC.out)
        have HG7 := Lib.hid (HGR.out.keep (stpG_elem d) F5.out (fun k hk => hk.elim))
        have HF7 : Hid (Fr No wa w5) := Lib.hid (HFR.out.trans F5.out fun _ _ h => h)
        clear hp hp'
        go_wp2
        go_roundw
        case rel => exact ⟨j + 1, g, m, c', acc, by omega, by go_num, rfl, HM.out, by omega, HE7.out, HG7.out, HF7.out⟩
        case measure => simp [intOf]; omega
    · obtain rfl : j = n := by omega
      go_wp2
      go_ret
      have he : l.take j = l := by rw [HN.out, List.take_length]
      have ha := HACC.out
      rw [he] at ha
      have hg := HGR.out
      rw [ha] at hg
      exact ⟨g, m, c', rfl, by rw [← ha, HM.out], by rw [HB.out]; exact hg, HFAB.out.trans HFR.out fun _ _ h => h⟩
end Go.Proofs.YtoaiofjcjjkfaaaGreatDoor
/- Each step of a Save, called. -/
namespace Go.Proofs.YtoaiofjcjjkfaaaGreatDoor
open Go.RowKit Go.Maps Go.Sort
set_option linter.unusedVariables false

section
variable {w : World} {X : Nat → Prop} {d N : Nat} {S : AS}
/-- What a step leaves. -/
def StepP (w : World) (X : Nat → Prop) (d N : Nat) (r : AS × Int) (e : Ending) (w' : World) : Prop := e = .returned (.int .i64 r.2) ∧ Dk w' X d (N + 1) r.1 ∧ Fr (fun k => ¬ X k) w w'
theorem clo_write (h : Dk w X d N S) (hN : N + 1 ≤ 1000000000000) (a t : List UInt8) (ha : a.length ≤ maxLen) (ht : t.length ≤ maxLen) (gd gf gt : Nat) (x0 : w.cell? ⟨gd, 0, none⟩ = some (bp d)) (x1 : w.cell? ⟨gf, 0, none⟩ = some (sv a)) (x2 : w.cell? ⟨gt, 0, none⟩ = some (sv t)) :
    Calls Tryz.prog 109 #[bp gd, bp gf, bp gt] w (StepP w X d N (Stp.run S (.write a t))) := by
  have C1 := Lib.hid (x_write h hN a t ha ht)
  have HR : Hid (Stp.run S (.write a t) = S.write a t) := Lib.hid rfl
  unfold bp at x0 ⊢
  generalize S.write a t = r at *
  obtain ⟨S1, E⟩ := r
  simp only at C1
  clear h
  go_enter Tryz.func109, Tryz.ntmps109
  go_wp2_with fail
  refine C1.out.mono ?_
  rintro e w1 ⟨rfl, h1, f1⟩
  have H1 := Lib.hid h1
  have F1 := Lib.hid f1
  clear h1 f1
  go_wp2
  go_ret
  rw [HR.out]
  exact ⟨rfl, H1.out, F1.out⟩
theorem clo_sync (h : Dk w X d N S) (hN : N + 1 ≤ 1000000000000) (a : List UInt8) (ha : a.length ≤ maxLen) (gd gf : Nat) (x0 : w.cell? ⟨gd, 0, none⟩ = some (bp d)) (x1 : w.cell? ⟨gf, 0, none⟩ = some (sv a)) :
    Calls Tryz.prog 111 #[bp gd, bp gf] w (StepP w X d N (Stp.run S (.sync a))) := by
  have C1 := Lib.hid (x_sync h a ha)
  have HR : Hid (Stp.run S (.sync a) = S.sync a) := Lib.hid rfl
  unfold bp at x0 ⊢
  generalize S.sync a = r at *
  obtain ⟨S1, E⟩ := r
  simp only at C1
  clear h
  go_enter Tryz.func111, Tryz.ntmps111
  go_wp2_with fail
  refine C1.out.mono ?_
  rintro e w1 ⟨rfl, h1, f1⟩
  have H1 := Lib.hid h1
  have F1 := Lib.hid f1
  clear h1 f1
  go_wp2
  go_ret
  rw [HR.out]
  exact ⟨rfl, H1.out.more (by omega) hN, F1.out⟩
theorem clo_settle (h : Dk w X d N S) (hN : N + 1 ≤ 1000000000000) : Calls Tryz.prog 113 #[bp d] w (StepP w X d N (Stp.run S .settle)) :=
  (x_settle h).mono fun e w' hw => ⟨hw.1, hw.2.1.more (by omega) hN, hw.2.2⟩
theorem clo_syncF (h : Dk w X d N S) (hN : N + 1 ≤ 1000000000000) (gd : Nat) (x0 : w.cell? ⟨gd, 0, none⟩ = some (bp d)) :
    Calls Tryz.prog 116 #[bp gd] w (StepP w X d N (Stp.run S .syncF)) := by
  have C1 := Lib.hid (x_sync h freshL (by decide))
  have HR : Hid (Stp.run S .syncF = S.sync freshL) := Lib.hid rfl
  generalize S.sync freshL = r at *
  obtain ⟨S1, E⟩ := r
  simp only at C1
  unfold bp at x0 ⊢
  unfold freshL at C1
  clear h
  go_enter Tryz.func116, Tryz.ntmps116
  go_wp2_with fail
  refine C1.out.mono ?_
  rintro e w1 ⟨rfl, h1, f1⟩
  have H1 := Lib.hid h1
  have F1 := Lib.hid f1
  clear h1 f1
  go_wp2
  go_ret
  rw [HR.out]
  exact ⟨rfl, H1.out.more (by omega) hN, F1.out⟩
theorem clo_renameF (h : Dk w X d N S) (hN : N + 1 ≤ 1000000000000) (gd : Nat) (x0 : w.cell? ⟨gd, 0, none⟩ = some (bp d)) :
    Calls Tryz.prog 117 #[bp gd] w (StepP w X d N (Stp.run S .renameF)) := by
  have C1 := Lib.hid (x_rename h hN freshL maniL (by decide) (by decide))
  have HR : Hid (Stp.run S .renameF = S.rename freshL maniL) := Lib.hid rfl
  generalize S.rename freshL maniL = r at *
  obtain ⟨S1, E⟩ := r
  simp only at C1
  unfold bp at x0 ⊢
  unfold freshL maniL at C1
  clear h
  go_enter Tryz.func117, Tryz.ntmps117
  go_wp2_with fail
  refine C1.out.mono ?_
  rintro e w1 ⟨rfl, h1, f1⟩
  have H1 := Lib.hid h1
  have F1 := Lib.hid f1
  clear h1 f1
  go_wp2
  go_ret
  rw [HR.out]
  exact ⟨rfl, H1.out, F1.out⟩
theorem clo_remove (h : Dk w X d N S) (hN : N + 1 ≤ 1000000000000) (a : List UInt8) (ha : a.length ≤ maxLen) (gd gf : Nat) (x0 : w.cell? ⟨gd, 0, none⟩ = some (bp d)) (x1 : w.cell? ⟨gf, 0, none⟩ = some (sv a)) :
    Calls Tryz.prog 163 #[bp gd, bp gf] w (StepP w X d N (Stp.run S (.remove a))) := by
  have C1 := Lib.hid (x_remove h hN a ha)
  have HR : Hid (Stp.run S (.remove a) = S.remove a) := Lib.hid rfl
  unfold bp at x0 ⊢
  generalize S.remove a = r at *
  obtain ⟨S1, E⟩ := r
  simp only at C1
  clear h
  go_enter Tryz.func163, Tryz.ntmps163
  go_wp2_with fail
  refine C1.out.mono ?_
  rintro e w1 ⟨rfl, h1, f1⟩
  have H1 := Lib.hid h1
  have F1 := Lib.hid f1
  clear h1 f1
  go_wp2
  go_ret
  rw [HR.out]
  exact ⟨rfl, H1.out, F1.out⟩
theorem lay_len {S : WS} (m : List UInt8) (h : S.data.length ≤ 65536) : (S.lay m).data.length ≤ 65536 := by
  unfold WS.lay
  split
  · split
    · simp
    · simp only [List.length_append]; omega
  · exact h
theorem count_len {S : WS} (n : Int) (h : S.data.length ≤ 65536) : (S.count n).data.length ≤ 65536 := by
  unfold WS.count WS.fail
  split
  · split
    · simp
    · exact h
  · exact lay_len _ h
theorem maniB_len (a : List UInt8) : (maniB a).length ≤ 65544 := by
  have h : (WS.zero.text a).data.length ≤ 65536 := lay_len _ (count_len _ (by simp [WS.zero]))
  unfold maniB frW
  split
  · simp only
    rw [frameR_len]
    omega
  · simp
set_option maxHeartbeats 1000000 in
theorem clo_mani (h : Dk w X d N S) (hN : N + 1 ≤ 1000000000000) (a : List UInt8) (ha : a.length ≤ maxLen) (gd gf : Nat) (x0 : w.cell? ⟨gd, 0, none⟩ = some (bp d)) (x1 : w.cell? ⟨gf, 0, none⟩ = some (sv a)) :
    Calls Tryz.prog 114 #[bp gd, bp gf] w (StepP w X d N (Stp.run S (.mani a))) := by
  have hl0 := World.block_lt_of_cell? w _ x0
  have hl1 := World.block_lt_of_cell? w _ x1
  have CM : Hid (∀ wx : World, Fr No w wx → Calls Tryz.prog 115 #[sv a] wx fun e w1 => e = .returned (sv (maniB a)) ∧ Fr No w w1 ∧ w1.cell? ⟨gd, 0, none⟩ = some (bp d) ∧ w1.cell? ⟨gf, 0, none⟩ = some (sv a)) := Lib.hid fun wx hx => (manifestOf_any a wx ha).mono fun e w1 h1 => by
    have f := hx.trans h1.2 fun _ _ h => h
    exact ⟨h1.1, f, (cell_of_heap (f.block gd hl0 id)).trans x0, (cell_of_heap (f.block gf hl1 id)).trans x1⟩
  have CW : Hid (∀ wx : World, Fr No w wx → Calls Tryz.prog 110 #[bp d, .string ⟨freshL.toArray⟩, .string ⟨(maniB a).toArray⟩] wx (StepP w X d N (S.write freshL (maniB a)))) := Lib.hid fun wx hx =>
    (x_write (h.keep hx) hN freshL (maniB a) (by decide) (by have := maniB_len a; unfold maxLen; omega)).mono fun e w1 h1 => ⟨h1.1, h1.2.1, hx.any.trans h1.2.2 fun _ _ h => h⟩
  have HR : Hid (Stp.run S (.mani a) = S.write freshL (maniB a)) := Lib.hid rfl
  generalize maniB a = B at *
  generalize S.write freshL B = r at *
  unfold bp at x0 CM CW ⊢
  unfold freshL at CW
  clear h hl0 hl1
  go_enter Tryz.func114, Tryz.ntmps114
  go_wp2_with fail
  go_region_with (first
    | (go_at_call 115; refine (CM.out _ (((Fr.refl No w).drew))).mono ?_; rintro e w1 ⟨rfl, f1, x3, x4⟩; have F1 := Lib.hid f1; clear f1)
    | (go_at_call 110; refine (CW.out _ F1.out).mono ?_; rintro e w2 ⟨rfl, h2, f2⟩; have H2 := Lib.hid h2; have F2 := Lib.hid f2; clear h2 f2))
  all_goals
    go_wp2
    go_ret
    rw [HR.out]
    exact ⟨rfl, H2.out, F2.out⟩
end
end Go.Proofs.YtoaiofjcjjkfaaaGreatDoor
/- The list of a Save's steps is made. -/
namespace Go.Proofs.YtoaiofjcjjkfaaaGreatDoor
open Go.RowKit Go.Maps Go.Sort
set_option linter.unusedVariables false

/-! ### the names of a disk -/
theorem keys_mem {f : Int → Option FR} {D : DU} (h : Good f D) (l : List UInt8) : l ∈ sortedKeys D ↔ ∃ n, look D l = some n := by
  have h1 : l ∈ sortedKeys D ↔ l ∈ strKeys D := (List.mergeSort_perm _ _).mem_iff
  rw [h1]
  obtain ⟨es, rfl, hp, hk⟩ := h.canon
  constructor
  · intro hl
    obtain ⟨p, hp', e⟩ := List.mem_map.1 (show l ∈ es.map fun p => strOf p.1 from hl)
    obtain ⟨v, hv⟩ := hk p hp'
    obtain ⟨x, _, hx, hxl⟩ := Maps.keyOf_str Tryz.underlying9 hv
    have hlx : l = x := by rw [← e, hx]; rfl
    subst hlx
    have hh : has (.map es : DU) (.string l) = true := by
      rw [has_eq, List.any_eq_true]
      exact ⟨p, hp', by rw [hx]; exact WideAt.sameKey_self (isKey l)⟩
    obtain ⟨n, hn⟩ := h.ints l hh
    exact ⟨n, by unfold look; rw [hn .nil]⟩
  · rintro ⟨n, hn⟩
    have hh : has (.map es : DU) (.string l) = true := by rw [has_look h.ints, hn]; rfl
    rw [has_eq, List.any_eq_true] at hh
    obtain ⟨p, hp', e⟩ := hh
    obtain ⟨v, hv⟩ := hk p hp'
    obtain ⟨x, _, hx, hxl⟩ := Maps.keyOf_str Tryz.underlying9 hv
    refine (List.mem_map.2 ⟨p, hp', ?_⟩ : l ∈ es.map fun p => strOf p.1)
    rw [hx] at e ⊢
    have e2 : (Lit.string x) = .string l := (WideAt.sameKey_iff (isKey l)).1 e
    injection e2
theorem keys_len {f : Int → Option FR} {D : DU} (h : Good f D) : (sortedKeys D).length ≤ 64 := by
  have h2 := h.small
  obtain ⟨es, rfl, hp, hk⟩ := h.canon
  unfold sortedKeys
  rw [List.length_mergeSort]
  have : (strKeys (.map es : DU)).length = es.length := by simp [strKeys]
  rw [this]
  simpa [Maps.size] using h2
theorem keys_short {f : Int → Option FR} {D : DU} (h : Good f D) : ∀ s ∈ sortedKeys D, s.length ≤ 32 := fun s hs => by
  obtain ⟨n, hn⟩ := (keys_mem h s).1 hs
  exact (nameOk_len (h.ok _ _ hn)).2

section
variable {α : Type} {b e bytes : Nat} {E : (Nat → Prop) → World → α → List Value → Prop}
/-- A row of one's own behind another. -/
theorem Grow.join (hE : Elem E) {w : World} {v : Value} {l1 l2 : List α} (h1 : Grow b e 1 E w v l1) {b2 g2 c2 : Nat} (h2 : Grow b2 e 1 E w (.slice (some ⟨g2, 0, none⟩) l2.length c2) l2) (hb : b ≤ w.heap.size) (hb2 : b ≤ b2) (hv1 : ∀ k, v.ownBlock = some k → k < b2)
    (t : TypeId) (ht : Tryz.prog.underlying t = some (.slice e)) (z : Value) (hinfo : (Tryz.prog.info? e).map (fun i => (i.zero, i.size, i.bytes)) = some (some z, 1, bytes)) (hzs : z.cells.size = 1)
    (hone : ∀ x K cs, E K w x cs → ∀ u ∈ cs, u.oneCell' = true)
    (hlen : (l1.length + l2.length) * bytes ≤ 140737488355328) (hmax : l1.length + l2.length ≤ maxLen) :
    ∃ A c' w', (∀ ty, (Builtin.append_ #[t, t] ty #[v, .slice (some ⟨g2, 0, none⟩) l2.length c2]).run Tryz.prog w = .ok (.slice A (l1.length + l2.length) c') w') ∧ Grow b e 1 E w' (.slice A (l1.length + l2.length) c') (l1 ++ l2) ∧
      Fr (fun k => v.ownBlock = some k) w w' ∧ (0 < l1.length + l2.length → ∃ g, A = some ⟨g, 0, none⟩ ∧ b ≤ g) := by
  obtain ⟨K2, xs2, ho2, hel2, hK2⟩ := h2
  refine h1.app hE hb t ht z hinfo hzs (by omega) ⟨g2, 0, none⟩ c2 l2 xs2 ho2.1 (ho2.cells rfl) ?_ K2 hel2 (fun k hk => ?_) hlen hmax
  · intro u hu
    obtain ⟨j, hj, e1⟩ := List.getElem_of_mem hu
    have hj2 : j < l2.length := by have := ho2.1; omega
    obtain ⟨cs, hc1, hc2, hc3⟩ := hel2 j hj2
    have h3 := hc2 0 (by omega)
    simp only [Nat.mul_one, Nat.add_zero] at h3
    rw [List.getElem?_eq_getElem hj, e1] at h3
    exact hone _ _ _ hc3 u (List.mem_of_getElem? h3.symm)
  · obtain ⟨a1, a2, a3⟩ := hK2 k hk
    exact ⟨by omega, a2, fun e1 => by have := hv1 k e1; omega⟩
end
theorem stpG_one {d : Nat} {w : World} (s : Stp) (K : Nat → Prop) (cs : List Value) (h : stpG d K w s cs) : ∃ fn a b, cs = [.func fn a b] := by
  cases s with
  | write a t => obtain ⟨_, _, _, _, _, e, _⟩ := h; exact ⟨_, _, _, e⟩
  | sync a => obtain ⟨_, _, _, e, _⟩ := h; exact ⟨_, _, _, e⟩
  | settle => exact ⟨_, _, _, h⟩
  | mani a => obtain ⟨_, _, _, e, _⟩ := h; exact ⟨_, _, _, e⟩
  | syncF => obtain ⟨_, e, _⟩ := h; exact ⟨_, _, _, e⟩
  | renameF => obtain ⟨_, e, _⟩ := h; exact ⟨_, _, _, e⟩
  | remove a => obtain ⟨_, _, _, e, _⟩ := h; exact ⟨_, _, _, e⟩
theorem stpG_cell {d : Nat} {w : World} (s : Stp) (K : Nat → Prop) (cs : List Value) (h : stpG d K w s cs) : ∀ u ∈ cs, u.oneCell' = true := by
  obtain ⟨fn, a, b, rfl⟩ := stpG_one s K cs h
  simp [Value.oneCell']
end Go.Proofs.YtoaiofjcjjkfaaaGreatDoor
/- The list of a Save's steps, walked. -/
namespace Go.Proofs.YtoaiofjcjjkfaaaGreatDoor
open Go.RowKit Go.Maps Go.Sort
set_option linter.unusedVariables false

def seven (file data : List UInt8) : List Stp := [.write file data, .sync file, .settle, .mani file, .syncF, .renameF, .settle]
def sevenV (d B : Nat) : List Value := [.func (.func 109) #[] #[bp B, bp (B + 1), bp (B + 2)], .func (.func 111) #[] #[bp B, bp (B + 1)], .func (.func 113) #[bp d] #[], .func (.func 114) #[] #[bp B, bp (B + 1)], .func (.func 116) #[] #[bp B], .func (.func 117) #[] #[bp B], .func (.func 113) #[bp d] #[]]
theorem seven_el (d B : Nat) (file data : List UInt8) (hf : file.length ≤ maxLen) (hd : data.length ≤ maxLen) (w : World) (x0 : w.cell? ⟨B, 0, none⟩ = some (bp d)) (x1 : w.cell? ⟨B + 1, 0, none⟩ = some (sv file)) (x2 : w.cell? ⟨B + 2, 0, none⟩ = some (sv data)) :
    ∀ j (hj : j < (seven file data).length), ∃ cs : List Value, cs.length = 1 ∧ (∀ i, i < 1 → (sevenV d B)[j * 1 + i]? = cs[i]?) ∧ stpG d (fun k => k = B ∨ k = B + 1 ∨ k = B + 2) w (seven file data)[j] cs := by
  intro j hj
  have hj7 : j < 7 := hj
  have h7 : j = 0 ∨ j = 1 ∨ j = 2 ∨ j = 3 ∨ j = 4 ∨ j = 5 ∨ j = 6 := by omega
  have hi : ∀ (P : Nat → Prop), P 0 → ∀ i, i < 1 → P i := by
    intro P h i hi
    obtain rfl : i = 0 := by omega
    exact h
  rcases h7 with rfl | rfl | rfl | rfl | rfl | rfl | rfl
  · exact ⟨[.func (.func 109) #[] #[bp B, bp (B + 1), bp (B + 2)]], rfl, hi _ rfl, hf, hd, B, B + 1, B + 2, rfl, ⟨.inl rfl, x0⟩, ⟨.inr (.inl rfl), x1⟩, ⟨.inr (.inr rfl), x2⟩⟩
  · exact ⟨[.func (.func 111) #[] #[bp B, bp (B + 1)]], rfl, hi _ rfl, hf, B, B + 1, rfl, ⟨.inl rfl, x0⟩, ⟨.inr (.inl rfl), x1⟩⟩
  · exact ⟨[.func (.func 113) #[bp d] #[]], rfl, hi _ rfl, rfl⟩
  · exact ⟨[.func (.func 114) #[] #[bp B, bp (B + 1)]], rfl, hi _ rfl, hf, B, B + 1, rfl, ⟨.inl rfl, x0⟩, ⟨.inr (.inl rfl), x1⟩⟩
  · exact ⟨[.func (.func 116) #[] #[bp B]], rfl, hi _ rfl, B, rfl, ⟨.inl rfl, x0⟩⟩
  · exact ⟨[.func (.func 117) #[] #[bp B]], rfl, hi _ rfl, B, rfl, ⟨.inl rfl, x0⟩⟩
  · exact ⟨[.func (.func 113) #[bp d] #[]], rfl, hi _ rfl, rfl⟩
theorem sevenV_one (d B : Nat) : ∀ u ∈ sevenV d B, u.oneCell' = true := by
  unfold sevenV
  intro u hu
  simp only [List.mem_cons, List.not_mem_nil, or_false] at hu
  rcases hu with rfl | rfl | rfl | rfl | rfl | rfl | rfl <;> rfl
set_option maxRecDepth 100000 in
set_option maxHeartbeats 400000 in
theorem cat_steps_any {w : World} {X : Nat → Prop} {d N : Nat} {S : AS} (h : Dk w X d N S) (hon : S.on = true) (hv : Vr w) (file data : List UInt8) (hf : file.length ≤ maxLen) (hdt : data.length ≤ maxLen) :
    Calls Tryz.prog 62 #[bp d, sv file, sv data] w fun e w' => ∃ A n c, e = .returned (.slice A n c) ∧ n = (stepsW S file data).length ∧ Grow w.heap.size 91 1 (stpG d) w' (.slice A n c) (stepsW S file data) ∧ Fr No w w' := by
  have hgood := h.inv.names
  have hkl := keys_len hgood
  have hks := keys_short hgood
  obtain ⟨B, hB⟩ : ∃ B, w.heap.size = B := ⟨_, rfl⟩
  obtain ⟨w1, hw1⟩ : ∃ w1, w.alloc (.cells #[.pointer (some ⟨d, 0, none⟩)] 40) = w1 := ⟨_, rfl⟩
  have hs1 : w1.heap.size = B + 1 := by rw [← hw1, ← hB]; simp
  obtain ⟨w2, hw2⟩ : ∃ w2, w1.alloc (.cells #[sv file] 9) = w2 := ⟨_, rfl⟩
  have hs2 : w2.heap.size = B + 2 := by rw [← hw2]; simp [hs1]
  obtain ⟨w3, hw3⟩ : ∃ w3, w2.alloc (.cells #[sv data] 9) = w3 := ⟨_, rfl⟩
  have hs3 : w3.heap.size = B + 3 := by rw [← hw3]; simp [hs2]
  have f1 : Fr No w w1 := by rw [← hw1]; exact (Fr.refl _ w).alloc _
  have f2 : Fr No w1 w2 := by rw [← hw2]; exact (Fr.refl _ w1).alloc _
  have f3 : Fr No w2 w3 := by rw [← hw3]; exact (Fr.refl _ w2).alloc _
  have b0 : Blk w1 B 40 #[.pointer (some ⟨d, 0, none⟩)] := by rw [← hw1, ← hB]; exact Blk.new w 40 _
  have b1 : Blk w2 (B + 1) 9 #[sv file] := by rw [← hw2, ← hs1]; exact Blk.new w1 9 _
  have b2 : Blk w3 (B + 2) 9 #[sv data] := by rw [← hw3, ← hs2]; exact Blk.new w2 9 _
  have B0 : Blk w3 B 40 #[.pointer (some ⟨d, 0, none⟩)] := (b0.of (f2.block _ b0.lt id)).of (f3.block _ (by omega) id)
  have B1 : Blk w3 (B + 1) 9 #[sv file] := b1.of (f3.block _ b1.lt id)
  have fw3 : Fr No w w3 := (f1.trans f2 fun _ _ h => h).trans f3 fun _ _ h => h
  have CL := x_list (h.keep fw3) hon
  have HCL := Lib.hid CL
  have HOT : Hid (others S file = ((sortedKeys S.names).filter (pre2 file)).map .remove) := Lib.hid rfl
  have HST : Hid (stepsW S file data = (((sortedKeys S.names).filter (pre1 file)).map .remove ++ seven file data) ++ (if others S file = [] then [] else others S file ++ [.settle])) := Lib.hid rfl
  generalize sortedKeys S.names = L at *
  generalize others S file = OT at *
  have HB0 := Lib.hid B0
  have HB1 := Lib.hid B1
  have HB2 := Lib.hid b2
  have HV := Lib.hid (hv.keep fw3)
  have HF3 := Lib.hid fw3
  have HW1 := Lib.hid hw1
  have HW2 := Lib.hid hw2
  have HW3 := Lib.hid hw3
  have HS3 := Lib.hid hs3
  have HB := Lib.hid hB
  have HKL := Lib.hid hkl
  have HKS := Lib.hid hks
  have HFL := Lib.hid hf
  have HDL := Lib.hid hdt
  have hmf := mkf
  clear h hon hgood hkl hks hB hw1 hs1 hw2 hs2 hw3 hs3 f1 f2 f3 b0 b1 b2 B0 B1 fw3 CL hf hdt hv
  unfold bp
  go_enter Tryz.func62, Tryz.ntmps62
  go_wp2_with fail
  rw [HW1.out, HW2.out, HW3.out, HB.out]
  refine HCL.out.mono ?_
  clear HCL
  rintro e w4 ⟨A, c, rfl, hrow, f4⟩
  have hre := rowE_names hrow (fun s hs => by have := HKS.out s hs; unfold maxLen; omega) (by have := HKL.out; unfold maxLen; omega)
  obtain ⟨nL, hnL⟩ : ∃ nL, L.length = nL := ⟨_, rfl⟩
  have c0 : w4.cell? ⟨B, 0, none⟩ = some (.pointer (some ⟨d, 0, none⟩)) := (HB0.out.of (f4.block _ HB0.out.lt id)).cell 0
  have c1 : w4.cell? ⟨B + 1, 0, none⟩ = some (sv file) := (HB1.out.of (f4.block _ HB1.out.lt id)).cell 0
  have hre4 := hre.bound (by omega)
  have CR := removals1_any d A L.length c L _ (B + 1) file w4 hre4 (fun k hk => hk.2) (by have := HKL.out; omega) (fun s hs => by have := HKS.out s hs; omega) c1 (HV.out.keep f4)
  unfold bp at CR
  rw [hnL] at CR ⊢
  have HCR := Lib.hid CR
  have HRE := Lib.hid hre4
  have F4 := Lib.hid f4
  have HNL := Lib.hid hnL
  clear hrow hre hre4 CR f4 hnL
  go_wp2_with fail
  refine HCR.out.mono ?_
  clear HCR c0 c1
  rintro e w5 ⟨g5, m5, q5, rfl, hm5, hg5, f5⟩
  have F5 := Lib.hid (F4.out.trans f5 fun _ _ h => h)
  have hs5 : B + 3 ≤ w5.heap.size := by have := F5.out.size; have := HS3.out; omega
  have c0 : w5.cell? ⟨B, 0, none⟩ = some (.pointer (some ⟨d, 0, none⟩)) := (HB0.out.of (F5.out.block _ HB0.out.lt id)).cell 0
  -- the seven steps
  obtain ⟨L1, hL1⟩ : ∃ L1, (L.filter (pre1 file)).map Stp.remove = L1 := ⟨_, rfl⟩
  rw [hL1] at hm5 hg5 HST
  have hl1 : L1.length ≤ 64 := by
    rw [← hL1, List.length_map]
    exact Nat.le_trans (List.length_filter_le _ _) HKL.out
  obtain ⟨w6, hw6⟩ : ∃ w6, w5.alloc (.cells (sevenV d B).toArray 91) = w6 := ⟨_, rfl⟩
  have f6 : Fr No w5 w6 := by rw [← hw6]; exact (Fr.refl _ w5).alloc _
  have hs6 : w6.heap.size = w5.heap.size + 1 := by rw [← hw6]; simp
  have F6 := F5.out.trans f6 fun _ _ h => h
  have e0 : w6.cell? ⟨B, 0, none⟩ = some (bp d) := (HB0.out.of (F6.block _ HB0.out.lt id)).cell 0
  have e1 : w6.cell? ⟨B + 1, 0, none⟩ = some (sv file) := (HB1.out.of (F6.block _ HB1.out.lt id)).cell 0
  have e2 : w6.cell? ⟨B + 2, 0, none⟩ = some (sv data) := (HB2.out.of (F6.block _ HB2.out.lt id)).cell 0
  have hg6 : Grow B 91 1 (stpG d) w6 (.slice (some ⟨g5, 0, none⟩) m5 q5) L1 := by
    obtain ⟨K1, xs1, ho1, hel1, hK1⟩ := hg5.keep (stpG_elem d) f6 (fun k hk => hk.elim)
    have h4 := F4.out.size
    have h3 := HS3.out
    exact ⟨K1, xs1, own_base ho1 (by omega), hel1, fun k hk => by obtain ⟨a1, a2, a3⟩ := hK1 k hk; exact ⟨by omega, a2, a3⟩⟩
  have hown5 : ∀ k, (Value.slice (some ⟨g5, 0, none⟩) m5 q5).ownBlock = some k → B + 3 ≤ k ∧ k < w5.heap.size := fun k hk => by
    have h5 := hg5.lt k hk
    have h4 := F4.out.size
    have h3 := HS3.out
    omega
  have hown5b : ∀ k, (Value.slice (some ⟨g5, 0, none⟩) m5 q5).ownBlock = some k → w4.heap.size ≤ k := fun k hk => (hg5.lt k hk).1
  obtain ⟨A7, q7, w7, hap7, hg7, f7, hA7⟩ := hg6.app (stpG_elem d) (by omega) 129 Tryz.underlying129 .nilFunc info91 rfl (by omega) ⟨w5.heap.size, 0, none⟩ 7 (seven file data) (sevenV d B) rfl
    (fun i u hu => by
      rw [Addr.add_lit, Nat.zero_add, ← hw6]
      exact ((Blk.new w5 91 (sevenV d B).toArray).cell i).trans (by simpa using hu))
    (sevenV_one d B) (fun k => k = B ∨ k = B + 1 ∨ k = B + 2) (seven_el d B file data HFL.out HDL.out w6 e0 e1 e2)
    (fun k hk => ⟨by omega, by omega, fun e => by have := hown5 k e; omega⟩) (by show (L1.length + 7) * 8 ≤ _; omega) (by show L1.length + 7 ≤ maxLen; unfold maxLen; omega)
  have hlen7 : (seven file data).length = 7 := rfl
  rw [hlen7, ← hm5, ← hw6] at hap7
  rw [hlen7, ← hm5] at hg7 hA7
  have F7 : Fr No w3 w7 := F6.trans f7 fun k hk e => by have h5 := hown5 k e; have h3 := HS3.out; omega
  have h3s := HS3.out
  have h4s := F4.out.size
  have F47 : Fr No w4 w7 := ((f5.trans f6 fun _ _ h => h)).trans f7 fun k hk e => by have h5 := hown5b k e; omega
  have d0 : w7.cell? ⟨B, 0, none⟩ = some (.pointer (some ⟨d, 0, none⟩)) := (HB0.out.of (F7.block _ HB0.out.lt id)).cell 0
  have d1 : w7.cell? ⟨B + 1, 0, none⟩ = some (sv file) := (HB1.out.of (F7.block _ HB1.out.lt id)).cell 0
  have hre7 := HRE.out.of (w' := w7) (E' := strE) (fun k hk => F47.block k hk.2 id) fun _ _ h => h
  have h7s := F47.size
  have CR2 := removals2_any d A L.length c L _ (B + 1) file w7 hre7 (fun k hk => by have := hk.2; omega) (by have := HKL.out; omega) (fun s hs => by have := HKS.out s hs; omega) d1 (HV.out.keep F7)
  rw [HNL.out] at CR2
  unfold bp at CR2
  unfold sevenV bp at hap7
  have HCR2 := Lib.hid CR2
  have HAP7 := Lib.hid hap7
  have HG7 := Lib.hid hg7
  have HF7 := Lib.hid F7
  have HM5 := Lib.hid hm5
  have HL1 := Lib.hid hl1
  have HB7 : Hid (B ≤ w7.heap.size) := Lib.hid (by omega)
  have HL2 : Hid (OT.length ≤ 64) := Lib.hid (by
    rw [HOT.out, List.length_map]
    exact Nat.le_trans (List.length_filter_le _ _) HKL.out)
  clear hap7 hg7 F7 hg6 hg5 e0 e1 e2 F6 hs6 f6 hw6 hown5 f7 hlen7 hm5 f5 hL1 hA7 hl1 h3s h4s F47 hre7 h7s CR2 d1 hs5 hown5b
  go_wp2_with (at_builtin; refine wpList_add rfl _ _ _ _ rfl _ _ _ _ rfl rfl (HAP7.out _) ?_)
  clear c0
  refine HCR2.out.mono ?_
  clear HCR2
  rintro e w8 ⟨g8, m8, q8, rfl, hm8, hg8, f8⟩
  rw [← HOT.out] at hm8 hg8
  have d8 : w8.cell? ⟨B, 0, none⟩ = some (.pointer (some ⟨d, 0, none⟩)) := by
    have hlt := World.block_lt_of_cell? w7 _ d0
    exact (cell_of_heap (f8.block B hlt id)).trans d0
  by_cases h0 : m8 = 0
  · subst h0
    have hot : OT = [] := List.length_eq_zero_iff.1 hm8.symm
    have hg8' : Grow w7.heap.size 91 1 (stpG d) w8 (.slice (some ⟨g8, 0, none⟩) ([] : List Stp).length q8) [] := by rw [hot] at hg8; exact hg8
    have hg7' := HG7.out.keep (stpG_elem d) f8 (fun k hk => hk.elim)
    obtain ⟨A9, q9, w9, hap, hg9, f9, hA9⟩ := hg7'.join (stpG_elem d) hg8' (by have := f8.size; have := HB7.out; omega) HB7.out (fun k hk => (HG7.out.lt k hk).2) 129 Tryz.underlying129 .nilFunc info91 rfl (fun x K cs hx => stpG_cell x K cs hx)
      (by rw [List.length_append]; show (L1.length + 7 + 0) * 8 ≤ _; have := HL1.out; omega) (by rw [List.length_append]; show L1.length + 7 + 0 ≤ _; have := HL1.out; unfold maxLen; omega)
    have hle : (L1 ++ seven file data).length = m5 + 7 := by rw [List.length_append, ← HM5.out]; rfl
    have hl0 : ([] : List Stp).length = 0 := rfl
    rw [hle, hl0, Nat.add_zero] at hap hg9
    rw [List.append_nil] at hg9
    have HST2 : Hid (stepsW S file data = L1 ++ seven file data) := Lib.hid (by rw [HST.out, if_pos hot, List.append_nil])
    have HAP := Lib.hid hap
    have HG9 := Lib.hid hg9
    have HF9 : Hid (Fr No w w9) := Lib.hid ((HF3.out.trans (HF7.out.trans f8 fun _ _ h => h) fun _ _ h => h).trans f9 fun k hk e => by have := (HG7.out.lt k e).1; have := HB.out; omega)
    have HLE := Lib.hid hle
    clear hot hg8 hg8' hg7' hap hg9 f9 hA9 hle hl0 hm8 f8
    go_wp2_with (at_builtin; refine wpList_add rfl _ _ _ _ rfl _ _ _ _ rfl rfl (HAP.out _) ?_)
    go_ret
    exact ⟨A9, m5 + 7, q9, rfl, by rw [HST2.out, HLE.out], by rw [HST2.out, HB.out]; exact HG9.out, HF9.out⟩
  · have hpos : 0 < m8 := by omega
    have hot : OT ≠ [] := fun e => by rw [e] at hm8; simp at hm8; omega
    have hl2 := HL2.out
    have hown8 : ∀ k, (Value.slice (some ⟨g8, 0, none⟩) m8 q8).ownBlock = some k → w7.heap.size ≤ k ∧ k < w8.heap.size := hg8.lt
    have h8s := f8.size
    obtain ⟨w9, hw9⟩ : ∃ w9, w8.alloc (.cells #[.func (.func 113) #[bp d] #[]] 91) = w9 := ⟨_, rfl⟩
    have f9 : Fr No w8 w9 := by rw [← hw9]; exact (Fr.refl _ w8).alloc _
    have hg9 := hg8.keep (stpG_elem d) f9 (fun k hk => hk.elim)
    have hel9 : ∀ i (hi : i < [Stp.settle].length), ∃ cs : List Value, cs.length = 1 ∧ (∀ q, q < 1 → [Value.func (.func 113) #[bp d] #[]][i * 1 + q]? = cs[q]?) ∧ stpG d No w9 [Stp.settle][i] cs := fun i hi => by
      obtain rfl : i = 0 := by simpa using hi
      refine ⟨[.func (.func 113) #[bp d] #[]], rfl, fun q hq => ?_, rfl⟩
      obtain rfl : q = 0 := by omega
      rfl
    obtain ⟨A10, q10, w10, hap10, hg10, f10, hA10⟩ := hg9.app (stpG_elem d) (by have := f9.size; omega) 129 Tryz.underlying129 .nilFunc info91 rfl (by omega) ⟨w8.heap.size, 0, none⟩ 1 [Stp.settle] [.func (.func 113) #[bp d] #[]] rfl
      (fun i u hu => by
        rw [Addr.add_lit, Nat.zero_add, ← hw9]
        exact ((Blk.new w8 91 #[.func (.func 113) #[bp d] #[]]).cell i).trans (by simpa using hu))
      (by simp [Value.oneCell']) No hel9 (fun k hk => hk.elim) (by show (OT.length + 1) * 8 ≤ _; omega) (by show OT.length + 1 ≤ _; unfold maxLen; omega)
    obtain ⟨g10, rfl, hg10b⟩ := hA10 (by simp)
    have f710 : Fr No w7 w10 := ((f8.trans f9 fun _ _ h => h)).trans f10 fun k hk e => by have := (hown8 k e).1; omega
    have hg7' := HG7.out.keep (stpG_elem d) f710 (fun k hk => hk.elim)
    have hg10' : Grow w7.heap.size 91 1 (stpG d) w10 (.slice (some ⟨g10, 0, none⟩) (OT ++ [Stp.settle]).length q10) (OT ++ [Stp.settle]) := by rw [List.length_append]; exact hg10
    obtain ⟨A11, q11, w11, hap, hg11, f11, hA11⟩ := hg7'.join (stpG_elem d) hg10' (by have := f710.size; have := HB7.out; omega) HB7.out (fun k hk => (HG7.out.lt k hk).2) 129 Tryz.underlying129 .nilFunc info91 rfl (fun x K cs hx => stpG_cell x K cs hx)
      (by rw [List.length_append, List.length_append]; show (L1.length + 7 + (OT.length + 1)) * 8 ≤ _; have := HL1.out; omega) (by rw [List.length_append, List.length_append]; show L1.length + 7 + (OT.length + 1) ≤ _; have := HL1.out; unfold maxLen; omega)
    have hle : (L1 ++ seven file data).length = m5 + 7 := by rw [List.length_append, ← HM5.out]; rfl
    have hle2 : (OT ++ [Stp.settle]).length = m8 + 1 := by rw [List.length_append, ← hm8]; rfl
    rw [hle, hle2] at hap hg11
    have hs1 : [Stp.settle].length = 1 := rfl
    rw [hs1, ← hm8, ← hw9] at hap10
    unfold bp at hap10
    have HST2 : Hid (stepsW S file data = (L1 ++ seven file data) ++ (OT ++ [.settle])) := Lib.hid (by rw [HST.out, if_neg hot])
    have HAP10 := Lib.hid hap10
    have HAP := Lib.hid hap
    have HG11 := Lib.hid hg11
    have HF11 : Hid (Fr No w w11) := Lib.hid ((HF3.out.trans (HF7.out.trans f710 fun _ _ h => h) fun _ _ h => h).trans f11 fun k hk e => by have := (HG7.out.lt k e).1; have := HB.out; omega)
    have HLE : Hid ((L1 ++ seven file data ++ (OT ++ [Stp.settle])).length = m5 + 7 + (m8 + 1)) := Lib.hid (by rw [List.length_append, hle, hle2])
    have hd8 : decide (0 < m8) = true := by simpa using hpos
    have hsum : ((m5 : Int) + 7 + ((m8 : Int) + 1)) = ((m5 + 7 + (m8 + 1) : Nat) : Int) := by omega
    clear hot hg8 hg7' hap hg9 f9 hA10 hle hl2 hm8 f8 hap10 hs1 hle2 hg10 hg10' f10 f11 hA11 hg11 f710 hel9 hw9 hown8 h8s h0 hsum
    go_upto_region 7 with (at_builtin; refine wpList_add rfl _ _ _ _ rfl _ _ _ _ rfl rfl (HAP10.out _) ?_)
    go_wp2_with (at_builtin; refine wpList_add rfl _ _ _ _ rfl _ _ _ _ rfl rfl (HAP.out _) ?_)
    go_ret
    exact ⟨A11, m5 + 7 + (m8 + 1), q11, rfl, by rw [HST2.out, HLE.out], by rw [HST2.out, HB.out]; exact HG11.out, HF11.out⟩
end Go.Proofs.YtoaiofjcjjkfaaaGreatDoor
/- A Save. -/
namespace Go.Proofs.YtoaiofjcjjkfaaaGreatDoor
open Go.RowKit Go.Maps Go.Sort
set_option linter.unusedVariables false

theorem stepsW_len {N : Nat} {S : AS} (h : Inv N S) (file data : List UInt8) : (stepsW S file data).length ≤ 136 := by
  have h1 := keys_len h.names
  have h2 : (others S file).length ≤ 64 := by
    unfold others
    rw [List.length_map]
    exact Nat.le_trans (List.length_filter_le _ _) h1
  have h3 : (((sortedKeys S.names).filter (pre1 file)).map Stp.remove).length ≤ 64 := by
    rw [List.length_map]
    exact Nat.le_trans (List.length_filter_le _ _) h1
  unfold stepsW
  rw [List.length_append, List.length_append]
  have h4 : (if others S file = [] then [] else others S file ++ [Stp.settle]).length ≤ 65 := by
    split
    · simp
    · rw [List.length_append, List.length_singleton]; omega
  have h5 : ([Stp.write file data, .sync file, .settle, .mani file, .syncF, .renameF, .settle] : List Stp).length = 7 := rfl
  omega
theorem facts_len (l : List FactP) : (WS.zero.facts l).data.length ≤ 65536 := by
  have h : ∀ (m : List FactP) (S : WS), S.data.length ≤ 65536 → (m.foldl WS.fact S).data.length ≤ 65536 := by
    intro m
    induction m with
    | nil => intro S h; exact h
    | cons f m ih =>
      intro S h
      refine ih _ ?_
      have ht : ∀ (l : List (List UInt8)) (S : WS), S.data.length ≤ 65536 → (l.foldl WS.text S).data.length ≤ 65536 := by
        intro l
        induction l with
        | nil => intro S h; exact h
        | cons s l ih => intro S h; exact ih _ (lay_len _ (count_len _ h))
      have hi : ∀ (l : List Int) (S : WS), S.data.length ≤ 65536 → (l.foldl WS.int S).data.length ≤ 65536 := by
        intro l
        induction l with
        | nil => intro S h; exact h
        | cons s l ih => intro S h; exact ih _ (lay_len _ h)
      exact hi _ _ (count_len _ (ht _ _ (count_len _ h)))
  exact h l _ (count_len _ (by simp [WS.zero]))
theorem catB_len : ∀ (l : List (List FactP)) (acc : List UInt8) (m : Nat), acc.length ≤ 65544 * m → (catB l acc).1.length ≤ 65544 * (m + l.length)
  | [], acc, m, h => by simpa [catB] using h
  | b :: l, acc, m, h => by
    unfold catB
    split
    · have h2 := catB_len l (acc ++ frameR (WS.zero.facts b).data) (m + 1) (by
        rw [List.length_append, frameR_len]
        have := facts_len b
        omega)
      rw [List.length_cons]
      have e : m + 1 + l.length = m + (l.length + 1) := by omega
      rw [e] at h2
      exact h2
    · simp
theorem headW_len (c : CkP) : (headW c).data.length ≤ 65536 := by
  have ht : ∀ (l : List (List UInt8)) (S : WS), S.data.length ≤ 65536 → (l.foldl WS.text S).data.length ≤ 65536 := by
    intro l
    induction l with
    | nil => intro S h; exact h
    | cons s l ih => intro S h; exact ih _ (lay_len _ (count_len _ h))
  have hi : ∀ (l : List Int) (S : WS), S.data.length ≤ 65536 → (l.foldl WS.int S).data.length ≤ 65536 := by
    intro l
    induction l with
    | nil => intro S h; exact h
    | cons s l ih => intro S h; exact ih _ (lay_len _ h)
  exact count_len _ (hi _ _ (count_len _ (ht _ _ (count_len _ (ht _ _ (count_len _ (lay_len _ (by simp [WS.zero]))))))))
theorem bytesP_len (c : CkP) (h : c.bats.length ≤ 2000000000) : (bytesP c).1.length ≤ maxLen := by
  unfold bytesP
  split
  · simp
  · split
    · have h2 := catB_len c.bats (frameR (headW c).data) 1 (by rw [frameR_len]; have := headW_len c; omega)
      unfold maxLen
      omega
    · simp
/-- The steps done one behind the other. -/
def SaveP (w : World) (X : Nat → Prop) (d N : Nat) (r : AS × Int) (e : Ending) (w' : World) : Prop := e = .returned (.int .i64 r.2) ∧ Dk w' X d (N + 200) r.1 ∧ Fr (fun k => ¬ X k) w w'
set_option maxRecDepth 100000 in
set_option maxHeartbeats 1000000 in
theorem save_any {w : World} {X : Nat → Prop} {d N : Nat} {S : AS} (h : Dk w X d N S) (hN : N + 200 ≤ 1000000000000) (hv : Vr w) (K : Nat → Prop) (c : CkP) (dv mv vv bv : Value) (hck : CkAt K w c dv mv vv bv) (hK : ∀ k, K k → k < w.heap.size) (hn : c.bats.length ≤ 2000000000) :
    Calls Tryz.prog 27 #[.pointer (some ⟨d, 0, none⟩), ckv c dv mv vv bv] w (SaveP w X d N (saveW S c)) := by
  obtain ⟨B, hB⟩ : ∃ B, w.heap.size = B := ⟨_, rfl⟩
  obtain ⟨A1, n1, k1, A2, n2, k2, A3, n3, k3, A4, n4, k4, rfl, rfl, rfl, rfl⟩ := hck.forms
  obtain ⟨w1, hw1⟩ : ∃ w1, w.alloc (.cells #[.int .i64 c.seq, .slice A1 n1 k1, .slice A2 n2 k2, .slice A3 n3 k3, .slice A4 n4 k4] 28) = w1 := ⟨_, rfl⟩
  have f1 : Fr No w w1 := by rw [← hw1]; exact (Fr.refl _ w).alloc _
  have hd1 := h.keep f1
  have CO := Lib.hid (x_on hd1)
  have hck1 : CkAt K w1 c (.slice A1 n1 k1) (.slice A2 n2 k2) (.slice A3 n3 k3) (.slice A4 n4 k4) := hck.of fun k hk => f1.block k (hK k hk) id
  have CB := bytes_any K c _ _ _ _ w1 hck1 (fun k hk => Nat.lt_of_lt_of_le (hK k hk) f1.size) hn
  have HSV : Hid (saveW S c = if S.on = false then (S, 13) else if (bytesP c).2 ≠ 0 then (S, (bytesP c).2) else if (validW S).2 ≠ 0 then (S, (validW S).2) else runAll S (stepsW S (fileW ((validW S).1 + 1)) (bytesP c).1)) := Lib.hid rfl
  have hblen := bytesP_len c hn
  -- nothing was done
  have hnone : ∀ E w', Fr No w w' → saveW S c = (S, E) → SaveP w X d N (saveW S c) (.returned (.int .i64 E)) w' := fun E w' hf he => by
    rw [he]
    exact ⟨rfl, (h.keep hf).more (by omega) hN, hf.any⟩
  have HNONE := Lib.hid hnone
  have HD := Lib.hid h
  have HV := Lib.hid hv
  have HW1 := Lib.hid hw1
  have HF1 := Lib.hid f1
  have HB := Lib.hid hB
  have HNN := Lib.hid hN
  unfold ckv at CB ⊢
  have HVC := Lib.hid (validW_cases S)
  have HVA := Lib.hid (fun (w' : World) (hf : Fr No w w') => valid_any (h.keep hf) (hv.keep hf))
  generalize bytesP c = bb at *
  obtain ⟨D, E1⟩ := bb
  simp only at CB HSV hblen
  have HCB := Lib.hid CB
  have HBL := Lib.hid hblen
  have hs1 : w1.heap.size = B + 1 := by rw [← hw1]; simp [hB]
  have hbx : Blk w1 B 28 #[.int .i64 c.seq, .slice A1 n1 k1, .slice A2 n2 k2, .slice A3 n3 k3, .slice A4 n4 k4] := by rw [← hw1, ← hB]; exact Blk.new w 28 _
  have x0 : w1.cell? ⟨B, 0, none⟩ = some (.int .i64 c.seq) := hbx.cell 0
  have x1 : w1.cell? ⟨B, 1, none⟩ = some (.slice A1 n1 k1) := hbx.cell 1
  have x2 : w1.cell? ⟨B, 2, none⟩ = some (.slice A2 n2 k2) := hbx.cell 2
  have x3 : w1.cell? ⟨B, 3, none⟩ = some (.slice A3 n3 k3) := hbx.cell 3
  have x4 : w1.cell? ⟨B, 4, none⟩ = some (.slice A4 n4 k4) := hbx.cell 4
  clear hbx
  have HS1 := Lib.hid hs1
  clear h hv hck hck1 CB hd1 hnone hw1 f1 hB hK hn hblen hN hs1
  by_cases hon : S.on = true
  · have HON : Hid (S.on = true) := Lib.hid hon
    rw [hon] at CO
    by_cases h1 : E1 = 0
    · subst h1
      generalize validW S = v at *
      obtain ⟨nv, E2⟩ := v
      simp only at HVA HSV HVC
      by_cases h2 : E2 = 0
      · subst h2
        have hnv : 0 ≤ nv ∧ nv ≤ 99999999 := by
          rcases HVC.out with ⟨h, _⟩ | h | ⟨m, h, h3, h4⟩
          · exact absurd rfl h
          · injection h with h5 _; omega
          · injection h with h5 _; omega
        have HSV2 : Hid (saveW S c = runAll S (stepsW S (fileW (nv + 1)) D)) := Lib.hid (by rw [HSV.out, hon]; rfl)
        have hfl : (fileW (nv + 1)).length ≤ maxLen := by
          unfold fileW
          split
          · simp
          · rename_i h5
            rw [List.length_append, List.length_drop, itoa9 (by omega) (by omega)]; decide
        have HFL := Lib.hid hfl
        have HFA := Lib.hid (fun (w' : World) (hf : Fr No w w') => file_any (nv + 1) w' (HV.out.keep hf) (by omega) (by omega))
        generalize fileW (nv + 1) = fl at *
        clear hon hfl HSV
        go_enter Tryz.func27, Tryz.ntmps27
        go_wp2_with fail
        rw [HW1.out, HB.out]
        refine CO.out.mono ?_
        rintro e w' ⟨rfl, rfl⟩
        go_wp2_with fail
        clear x0 x1 x2 x3 x4
        refine HCB.out.mono ?_
        rintro e w2 ⟨rfl, f2⟩
        have F2 := Lib.hid (HF1.out.trans f2 fun _ _ h => h)
        clear f2
        have C3 := Lib.hid (HVA.out w2 F2.out)
        go_wp2_with fail
        refine C3.out.mono ?_
        rintro e w3 ⟨rfl, f3⟩
        have F3 := Lib.hid (F2.out.trans f3 fun _ _ h => h)
        clear f3
        have C4 := Lib.hid (HFA.out w3 F3.out)
        have hsum : IntKind.i64.wrap (nv + 1) = nv + 1 := IntWalk.i64_in _ (by omega)
        go_wp2_with fail
        refine C4.out.mono ?_
        rintro e w4 ⟨rfl, f4⟩
        have F4 := Lib.hid (F3.out.trans f4 fun _ _ h => h)
        clear f4 hsum
        have C5' := cat_steps_any (HD.out.keep F4.out) HON.out (HV.out.keep F4.out) fl D HFL.out HBL.out
        unfold bp at C5'
        have C5 := Lib.hid C5'
        have hlen := stepsW_len HD.out.inv fl D
        clear C5'
        obtain ⟨L, hL⟩ : ∃ L, stepsW S fl D = L := ⟨_, rfl⟩
        rw [hL] at C5 HSV2 hlen
        clear hL
        go_wp2_with fail
        refine C5.out.mono ?_
        rintro e w5 ⟨A, n, cc, rfl, hnl, hg, f5⟩
        have F5 : Fr No w w5 := F4.out.trans f5 fun _ _ h => h
        obtain ⟨Y, hY⟩ : ∃ Y : Nat → Prop, (fun k => X k ∨ (B ≤ k ∧ k < w5.heap.size)) = Y := ⟨_, rfl⟩
        have hsz5 := F5.size
        have hbw := HB.out
        have hd5 : Dk w5 Y d N S := by
          rw [← hY]
          exact HD.out.grow F5.any fun k hk => by
            rcases hk with hk | hk
            · exact ⟨Nat.lt_of_lt_of_le (HD.out.base k hk) hsz5, .inl hk⟩
            · exact ⟨hk.2, .inr (by omega)⟩
        have hXY : ∀ k, X k → Y k := fun k hk => by rw [← hY]; exact .inl hk
        have hNY : ∀ k, k < w.heap.size → ¬ Y k → ¬ X k := fun k _ hk hx => hk (hXY k hx)
        have hrow : RowE (fun k => B ≤ k ∧ k < w5.heap.size) w5 1 (stpG d (fun k => B ≤ k ∧ k < w5.heap.size) w5) (.slice A n cc) L := by
          have h4s := F4.out.size
          have q := (hg.row (stpG_elem d) (by unfold maxLen; omega)).bound (by omega)
          exact (q.mono fun k hk => ⟨by omega, hk.2⟩).imp fun s cs hs => (stpG_elem d).mono _ _ w5 w5 s cs hs fun k hk hlt => ⟨⟨by omega, hlt⟩, rfl⟩
        have HROW := Lib.hid hrow
        have HD5 := Lib.hid hd5
        have HXY := Lib.hid hXY
        have HNY := Lib.hid hNY
        have HF5 := Lib.hid F5
        have HY : Hid (∀ k, B ≤ k ∧ k < w5.heap.size → Y k) := Lib.hid fun k hk => by rw [← hY]; exact .inr hk
        have HNL := Lib.hid hnl
        have hn136 : n ≤ 136 := by omega
        clear hnl hg f5 F5 hY hsz5 hbw hd5 hXY hNY hrow hlen C5 C4 C3
        go_wp2
        go_loopw [39] (fun i wr => ∃ (j : Nat) (Sj : AS), j ≤ n ∧ i = .int .i64 j ∧ Dk wr Y d (N + j) Sj ∧ Fr (fun k => ¬ Y k) w5 wr ∧ runAll S L = runAll Sj (L.drop j)) (fun i _ => n - (intOf i).toNat)
        case atStart => exact ⟨0, S, by omega, rfl, HD5.out, Fr.refl _ _, rfl⟩
        case round =>
          obtain ⟨j, Sj, hj, rfl, hdk, hfr, hrun⟩ := hrel
          have hfw : Fr (fun k => ¬ X k) w wr := HF5.out.any.trans hfr fun k hk hy => HNY.out k hk hy
          by_cases hlt : j < n
          · have hjl : j < L.length := by have := HNL.out; omega
            have hN1 : N + j + 1 ≤ 1000000000000 := by have := HNN.out; omega
            have hrow : RowE (fun k => B ≤ k ∧ k < w5.heap.size) wr 1 (stpG d (fun k => B ≤ k ∧ k < w5.heap.size) wr) (.slice A n cc) L := HROW.out.of (fun k hk => hfr.block k hk.2 fun hy => hy (HY.out k hk)) fun s cs hs => (stpG_elem d).mono _ _ w5 wr s cs hs fun k hk hlt => ⟨hk, hfr.block k hlt fun hy => hy (HY.out k hk)⟩
            obtain ⟨A', c', e', _, hel⟩ := hrow
            injection e' with ea eb ec
            subst ea
            obtain ⟨g, off, rfl, hg, hcell⟩ := hel (by omega)
            obtain ⟨cs, _, hcs2, hst⟩ := hcell j hjl
            have hc0 := hcs2 0 (by omega)
            simp only [Nat.mul_one, Nat.add_zero] at hc0
            have hdr : L.drop j = L[j] :: L.drop (j + 1) := List.drop_eq_getElem_cons hjl
            have HNX : Hid ((Stp.run Sj L[j]).2 = 0 → runAll S L = runAll (Stp.run Sj L[j]).1 (L.drop (j + 1))) := Lib.hid fun h0 => by rw [hrun, hdr]; show (if (Stp.run Sj L[j]).2 = 0 then _ else _) = _; rw [if_pos h0]
            have HER : Hid ((Stp.run Sj L[j]).2 ≠ 0 → ∀ w6, Dk w6 Y d (N + j + 1) (Stp.run Sj L[j]).1 → Fr (fun k => ¬ Y k) wr w6 → SaveP w X d N (saveW S c) (.returned (.int .i64 (Stp.run Sj L[j]).2)) w6) := Lib.hid fun h0 w6 h6 f6 => by
              have e1 : saveW S c = Stp.run Sj L[j] := by rw [HSV2.out, hrun, hdr]; show (if (Stp.run Sj L[j]).2 = 0 then _ else _) = _; rw [if_neg h0]
              rw [e1]
              exact ⟨rfl, (h6.less HXY.out).more (by omega) HNN.out, hfw.trans f6 fun k hk hy => HNY.out k hk hy⟩
            have HFR := Lib.hid hfr
            generalize L[j] = s at *
            clear hcell hcs2 hel hrun hfr hfw hdr eb ec
            cases s with
            | write a t =>
              obtain ⟨ha, ht, gd, gf, gt, rfl, ⟨_, x0⟩, ⟨_, x1⟩, ⟨_, x2⟩⟩ := hst
              have C := clo_write hdk hN1 a t ha ht gd gf gt x0 x1 x2
              have hc : wr.cell? ⟨g, off + j, none⟩ = some _ := hc0
              generalize Stp.run Sj (.write a t) = r at *
              obtain ⟨S', E⟩ := r
              simp only at HNX HER
              unfold bp at C hc
              have HC := Lib.hid C
              clear hc0 C x0 x1 x2
              by_cases hE : E = 0
              · subst hE
                go_wp2_with (go_at_call 109; refine HC.out.mono ?_; rintro e w6 ⟨rfl, h6, f6⟩; have H6 := Lib.hid h6; have F6 := Lib.hid f6; clear h6 f6)
                go_roundw
                case rel => exact ⟨j + 1, S', by omega, by go_num, H6.out, HFR.out.trans F6.out fun _ _ h => h, HNX.out (by trivial)⟩
                case measure => simp [intOf]; omega
              · have hEb : (E != 0) = true := by simpa using hE
                go_wp2_with (go_at_call 109; refine HC.out.mono ?_; rintro e w6 ⟨rfl, h6, f6⟩; have H6 := Lib.hid h6; have F6 := Lib.hid f6; clear h6 f6)
                go_ret
                exact HER.out hE w6 H6.out F6.out
            | sync a =>
              obtain ⟨ha, gd, gf, rfl, ⟨_, x0⟩, ⟨_, x1⟩⟩ := hst
              have C := clo_sync hdk hN1 a ha gd gf x0 x1
              have hc : wr.cell? ⟨g, off + j, none⟩ = some _ := hc0
              generalize Stp.run Sj (.sync a) = r at *
              obtain ⟨S', E⟩ := r
              simp only at HNX HER
              unfold bp at C hc
              have HC := Lib.hid C
              clear hc0 C x0 x1
              by_cases hE : E = 0
              · subst hE
                go_wp2_with (go_at_call 111; refine HC.out.mono ?_; rintro e w6 ⟨rfl, h6, f6⟩; have H6 := Lib.hid h6; have F6 := Lib.hid f6; clear h6 f6)
                go_roundw
                case rel => exact ⟨j + 1, S', by omega, by go_num, H6.out, HFR.out.trans F6.out fun _ _ h => h, HNX.out (by trivial)⟩
                case measure => simp [intOf]; omega
              · have hEb : (E != 0) = true := by simpa using hE
                go_wp2_with (go_at_call 111; refine HC.out.mono ?_; rintro e w6 ⟨rfl, h6, f6⟩; have H6 := Lib.hid h6; have F6 := Lib.hid f6; clear h6 f6)
                go_ret
                exact HER.out hE w6 H6.out F6.out
            | settle =>
              obtain rfl := hst
              have C := clo_settle hdk hN1
              have hc : wr.cell? ⟨g, off + j, none⟩ = some _ := hc0
              generalize Stp.run Sj (.settle) = r at *
              obtain ⟨S', E⟩ := r
              simp only at HNX HER
              unfold bp at C hc
              have HC := Lib.hid C
              clear hc0 C
              by_cases hE : E = 0
              · subst hE
                go_wp2_with (go_at_call 113; refine HC.out.mono ?_; rintro e w6 ⟨rfl, h6, f6⟩; have H6 := Lib.hid h6; have F6 := Lib.hid f6; clear h6 f6)
                go_roundw
                case rel => exact ⟨j + 1, S', by omega, by go_num, H6.out, HFR.out.trans F6.out fun _ _ h => h, HNX.out (by trivial)⟩
                case measure => simp [intOf]; omega
              · have hEb : (E != 0) = true := by simpa using hE
                go_wp2_with (go_at_call 113; refine HC.out.mono ?_; rintro e w6 ⟨rfl, h6, f6⟩; have H6 := Lib.hid h6; have F6 := Lib.hid f6; clear h6 f6)
                go_ret
                exact HER.out hE w6 H6.out F6.out
            | mani a =>
              obtain ⟨ha, gd, gf, rfl, ⟨_, x0⟩, ⟨_, x1⟩⟩ := hst
              have C := clo_mani hdk hN1 a ha gd gf x0 x1
              have hc : wr.cell? ⟨g, off + j, none⟩ = some _ := hc0
              generalize Stp.run Sj (.mani a) = r at *
              obtain ⟨S', E⟩ := r
              simp only at HNX HER
              unfold bp at C hc
              have HC := Lib.hid C
              clear hc0 C x0 x1
              by_cases hE : E = 0
              · subst hE
                go_wp2_with (go_at_call 114; refine HC.out.mono ?_; rintro e w6 ⟨rfl, h6, f6⟩; have H6 := Lib.hid h6; have F6 := Lib.hid f6; clear h6 f6)
                go_roundw
                case rel => exact ⟨j + 1, S', by omega, by go_num, H6.out, HFR.out.trans F6.out fun _ _ h => h, HNX.out (by trivial)⟩
                case measure => simp [intOf]; omega
              · have hEb : (E != 0) = true := by simpa using hE
                go_wp2_with (go_at_call 114; refine HC.out.mono ?_; rintro e w6 ⟨rfl, h6, f6⟩; have H6 := Lib.hid h6; have F6 := Lib.hid f6; clear h6 f6)
                go_ret
                exact HER.out hE w6 H6.out F6.out
            | syncF =>
              obtain ⟨gd, rfl, ⟨_, x0⟩⟩ := hst
              have C := clo_syncF hdk hN1 gd x0
              have hc : wr.cell? ⟨g, off + j, none⟩ = some _ := hc0
              generalize Stp.run Sj (.syncF) = r at *
              obtain ⟨S', E⟩ := r
              simp only at HNX HER
              unfold bp at C hc
              have HC := Lib.hid C
              clear hc0 C x0
              by_cases hE : E = 0
              · subst hE
                go_wp2_with (go_at_call 116; refine HC.out.mono ?_; rintro e w6 ⟨rfl, h6, f6⟩; have H6 := Lib.hid h6; have F6 := Lib.hid f6; clear h6 f6)
                go_roundw
                case rel => exact ⟨j + 1, S', by omega, by go_num, H6.out, HFR.out.trans F6.out fun _ _ h => h, HNX.out (by trivial)⟩
                case measure => simp [intOf]; omega
              · have hEb : (E != 0) = true := by simpa using hE
                go_wp2_with (go_at_call 116; refine HC.out.mono ?_; rintro e w6 ⟨rfl, h6, f6⟩; have H6 := Lib.hid h6; have F6 := Lib.hid f6; clear h6 f6)
                go_ret
                exact HER.out hE w6 H6.out F6.out
            | renameF =>
              obtain ⟨gd, rfl, ⟨_, x0⟩⟩ := hst
              have C := clo_renameF hdk hN1 gd x0
              have hc : wr.cell? ⟨g, off + j, none⟩ = some _ := hc0
              generalize Stp.run Sj (.renameF) = r at *
              obtain ⟨S', E⟩ := r
              simp only at HNX HER
              unfold bp at C hc
              have HC := Lib.hid C
              clear hc0 C x0
              by_cases hE : E = 0
              · subst hE
                go_wp2_with (go_at_call 117; refine HC.out.mono ?_; rintro e w6 ⟨rfl, h6, f6⟩; have H6 := Lib.hid h6; have F6 := Lib.hid f6; clear h6 f6)
                go_roundw
                case rel => exact ⟨j + 1, S', by omega, by go_num, H6.out, HFR.out.trans F6.out fun _ _ h => h, HNX.out (by trivial)⟩
                case measure => simp [intOf]; omega
              · have hEb : (E != 0) = true := by simpa using hE
                go_wp2_with (go_at_call 117; refine HC.out.mono ?_; rintro e w6 ⟨rfl, h6, f6⟩; have H6 := Lib.hid h6; have F6 := Lib.hid f6; clear h6 f6)
                go_ret
                exact HER.out hE w6 H6.out F6.out
            | remove a =>
              obtain ⟨ha, gd, gf, rfl, ⟨_, x0⟩, ⟨_, x1⟩⟩ := hst
              have C := clo_remove hdk hN1 a ha gd gf x0 x1
              have hc : wr.cell? ⟨g, off + j, none⟩ = some _ := hc0
              generalize Stp.run Sj (.remove a) = r at *
              obtain ⟨S', E⟩ := r
              simp only at HNX HER
              unfold bp at C hc
              have HC := Lib.hid C
              clear hc0 C x0 x1
              by_cases hE : E = 0
              · subst hE
                go_wp2_with (go_at_call 163; refine HC.out.mono ?_; rintro e w6 ⟨rfl, h6, f6⟩; have H6 := Lib.hid h6; have F6 := Lib.hid f6; clear h6 f6)
                go_roundw
                case rel => exact ⟨j + 1, S', by omega, by go_num, H6.out, HFR.out.trans F6.out fun _ _ h => h, HNX.out (by trivial)⟩
                case measure => simp [intOf]; omega
              · have hEb : (E != 0) = true := by simpa using hE
                go_wp2_with (go_at_call 163; refine HC.out.mono ?_; rintro e w6 ⟨rfl, h6, f6⟩; have H6 := Lib.hid h6; have F6 := Lib.hid f6; clear h6 f6)
                go_ret
                exact HER.out hE w6 H6.out F6.out
          · obtain rfl : j = n := by omega
            have HFIN : Hid (SaveP w X d N (saveW S c) (.returned (.int .i64 0)) wr) := Lib.hid (by
              have e1 : saveW S c = (Sj, 0) := by rw [HSV2.out, hrun, HNL.out, List.drop_length]; rfl
              rw [e1]
              exact ⟨rfl, (hdk.less HXY.out).more (by omega) HNN.out, hfw⟩)
            clear hdk hfr hrun hfw
            go_wp2
            go_ret
            exact HFIN.out
      · have h2b : (E2 != 0) = true := by simpa using h2
        have HE : Hid (saveW S c = (S, E2)) := Lib.hid (by rw [HSV.out, hon, if_neg (by decide), if_neg (by simp), if_pos h2])
        clear hon h2 HSV
        go_enter Tryz.func27, Tryz.ntmps27
        go_wp2_with fail
        rw [HW1.out, HB.out]
        refine CO.out.mono ?_
        rintro e w' ⟨rfl, rfl⟩
        go_wp2_with fail
        clear x0 x1 x2 x3 x4
        refine HCB.out.mono ?_
        rintro e w2 ⟨rfl, f2⟩
        have F2 := Lib.hid (HF1.out.trans f2 fun _ _ h => h)
        clear f2
        have C3 := Lib.hid (HVA.out w2 F2.out)
        go_wp2_with fail
        refine C3.out.mono ?_
        rintro e w3 ⟨rfl, f3⟩
        have F3 := Lib.hid (F2.out.trans f3 fun _ _ h => h)
        clear f3
        go_wp2
        go_ret
        exact HNONE.out E2 w3 F3.out HE.out
    · have h1b : (E1 != 0) = true := by simpa using h1
      have HE : Hid (saveW S c = (S, E1)) := Lib.hid (by rw [HSV.out, hon, if_neg (by decide), if_pos h1])
      clear hon h1 HSV
      go_enter Tryz.func27, Tryz.ntmps27
      go_wp2_with fail
      rw [HW1.out, HB.out]
      refine CO.out.mono ?_
      rintro e w' ⟨rfl, rfl⟩
      go_wp2_with fail
      clear x0 x1 x2 x3 x4
      refine HCB.out.mono ?_
      rintro e w2 ⟨rfl, f2⟩
      have F2 := Lib.hid (HF1.out.trans f2 fun _ _ h => h)
      clear f2
      go_wp2
      go_ret
      exact HNONE.out E1 w2 F2.out HE.out
  · have hoff : S.on = false := by simpa using hon
    rw [hoff] at CO
    have HE : Hid (saveW S c = (S, 13)) := Lib.hid (by rw [HSV.out, if_pos hoff])
    clear hon hoff HSV
    go_enter Tryz.func27, Tryz.ntmps27
    go_wp2_with fail
    rw [HW1.out, HB.out]
    refine CO.out.mono ?_
    rintro e w' ⟨rfl, rfl⟩
    go_wp2
    go_ret
    exact HNONE.out 13 w1 HF1.out HE.out
end Go.Proofs.YtoaiofjcjjkfaaaGreatDoor
/- The document's bytes of a checkpoint. -/
namespace Go.Proofs.YtoaiofjcjjkfaaaGreatDoor
open Go.RowKit Go.Maps Go.Sort
set_option linter.unusedVariables false

theorem refcount_any (n : Nat) (hn : n < 2 ^ 63) (w : World) : Calls Tryz.prog 40 #[.int .i64 (n : Int)] w (Told (low n 4) w) := by
  have HL := Lib.hid (Num_any n 4 w (by omega) (by omega))
  have hu : IntKind.u64.wrap (n : Int) = (n : Int) := by rw [IntKind.wrap_u64]; omega
  clear hn
  go_enter Tryz.func40, Tryz.ntmps40
  go_wp2_with (go_at_call 38; refine HL.out.mono ?_; rintro e w1 ⟨rfl, hb1⟩)
  go_ret
  exact ⟨rfl, hb1⟩
theorem thing_told (t : ThingP) (lv cv fv mv : Value) (w : World) (ht : ThingAt (fun k => k < w.heap.size) w t lv cv fv mv) (hb : (bThing t).length ≤ 1152921504606846976) (hok : okB t = true) :
    Calls Tryz.prog 39 #[.agg (tcells t lv cv fv mv).toArray] w (Told (bThing t) w) := by
  obtain ⟨A1, n1, k1, rfl⟩ := ht.l.slice
  obtain ⟨A2, n2, k2, rfl⟩ := ht.c.slice
  obtain ⟨A3, n3, k3, rfl⟩ := ht.f.slice
  obtain ⟨A4, n4, k4, rfl⟩ := ht.m.slice
  obtain ⟨wa, hwa⟩ : ∃ wa, w.alloc (.cells #[.int .i64 t.kind, .int .i64 t.n, sv t.s, .slice A1 n1 k1, .slice A2 n2 k2, .slice A3 n3 k3, .slice A4 n4 k4] 86) = wa := ⟨_, rfl⟩
  obtain ⟨gb, hgb⟩ : ∃ gb, w.heap.size = gb := ⟨_, rfl⟩
  have hbx : Blk wa gb 86 #[.int .i64 t.kind, .int .i64 t.n, sv t.s, .slice A1 n1 k1, .slice A2 n2 k2, .slice A3 n3 k3, .slice A4 n4 k4] := by rw [← hwa, ← hgb]; exact Blk.new w 86 _
  have hba : Below w.heap.size w wa := by rw [← hwa]; exact (Below.refl _ _).alloc (Nat.le_refl _) _
  have hta : ThingAt (fun k => k < wa.heap.size) wa t (.slice A1 n1 k1) (.slice A2 n2 k2) (.slice A3 n3 k3) (.slice A4 n4 k4) := (ht.of fun k hk => hba.block k hk).mono fun k hk => Nat.lt_of_lt_of_le hk hba.size
  have CD := dbytes_any t _ _ _ _ wa hta hb
  unfold Told2 ok2 at CD
  rw [if_pos hok, hok] at CD
  have x0 : wa.cell? ⟨gb, 0, none⟩ = some (.int .i64 t.kind) := hbx.cell 0
  have x1 : wa.cell? ⟨gb, 1, none⟩ = some (.int .i64 t.n) := hbx.cell 1
  have x2 : wa.cell? ⟨gb, 2, none⟩ = some (sv t.s) := hbx.cell 2
  have x3 : wa.cell? ⟨gb, 3, none⟩ = some (.slice A1 n1 k1) := hbx.cell 3
  have x4 : wa.cell? ⟨gb, 4, none⟩ = some (.slice A2 n2 k2) := hbx.cell 4
  have x5 : wa.cell? ⟨gb, 5, none⟩ = some (.slice A3 n3 k3) := hbx.cell 5
  have x6 : wa.cell? ⟨gb, 6, none⟩ = some (.slice A4 n4 k4) := hbx.cell 6
  have HCD := Lib.hid CD
  have HBA := Lib.hid hba
  have HWA := Lib.hid hwa
  have HGB := Lib.hid hgb
  generalize bThing t = B at *
  unfold tcells at HCD ⊢
  clear CD hbx hba hta hwa hgb ht hok hb
  go_enter Tryz.func39, Tryz.ntmps39
  go_wp2_with fail
  rw [HWA.out, HGB.out]
  go_wp2_with fail
  refine HCD.out.mono ?_
  rintro e w1 ⟨rfl, b1⟩
  have B1 := Lib.hid b1
  clear b1
  go_wp2
  go_ret
  exact ⟨rfl, HBA.out.trans (B1.out.mono HBA.out.size)⟩

/-! ### Bytes, plain -/
def rBody (c : CkP) : List UInt8 := (enc8 c.seq ++ (bRow bText c.dims ++ bRow bText c.meas) ++ low c.views.length 4 ++ c.views.flatMap enc8) ++ low c.bats.length 4
def rcat : List (List FactP) → List UInt8 → List UInt8 × Int
  | [], acc => (acc, 0)
  | b :: l, acc => if (bRow bFact b).length > 65536 then ([], 23) else rcat l (acc ++ frameR (bRow bFact b))
def rbytesP (c : CkP) : List UInt8 × Int :=
  if c.seq < 0 then ([], 1) else if (rBody c).length > 65536 then ([], 23) else rcat c.bats (frameR (rBody c))
/-- It is not too great. -/
structure CkB (c : CkP) : Prop where
  texts : (bRow bText c.dims ++ bRow bText c.meas).length ≤ 1099511627776
  views : c.views.length ≤ 1099511627776
  bats : c.bats.length ≤ 2000000000
  each : ∀ b ∈ c.bats, (bRow bFact b).length ≤ 1099511627776
theorem rcat_step {bats : List (List FactP)} {acc : List UInt8} {j : Nat} (hj : j < bats.length) : rcat (bats.drop j) acc = if (bRow bFact bats[j]).length > 65536 then ([], 23) else rcat (bats.drop (j + 1)) (acc ++ frameR (bRow bFact bats[j])) := by
  rw [List.drop_eq_getElem_cons hj]; rfl
end Go.Proofs.YtoaiofjcjjkfaaaGreatDoor
/- The document's bytes of a checkpoint, walked; whether two are the same. -/
namespace Go.Proofs.YtoaiofjcjjkfaaaGreatDoor
open Go.RowKit Go.Maps Go.Sort
set_option linter.unusedVariables false

theorem enc8_nat (q : Nat) (h : q < 18446744073709551616) : enc8 (q : Int) = low q 8 := by
  unfold enc8
  congr 1
  omega
theorem u64_of (n : Int) : IntKind.u64.wrap n = (((n % 18446744073709551616).toNat : Nat) : Int) := by rw [IntKind.wrap_u64]; omega
set_option maxRecDepth 100000 in
set_option maxHeartbeats 2000000 in
theorem refBytes_any (c : CkP) (dv mv vv bv : Value) (w : World) (h : CkAt (fun k => k < w.heap.size) w c dv mv vv bv) (hc : CkB c) :
    Calls Tryz.prog 12 #[ckv c dv mv vv bv] w fun e w' => e = .returned (.tuple #[sv (rbytesP c).1, .int .i64 (rbytesP c).2]) ∧ Fr No w w' := by
  obtain ⟨seq, dims, meas, views, bats⟩ := c
  obtain ⟨hcT, hcV, hcB, hcE⟩ := hc
  simp only at hcT hcV hcB hcE
  obtain ⟨A1, n1, k1, A2, n2, k2, A3, n3, k3, A4, n4, k4, rfl, rfl, rfl, rfl⟩ := h.forms
  obtain ⟨_, _, e3', hm3, _⟩ := h.views
  obtain ⟨_, _, e4', hm4, _⟩ := h.bats
  have en3 : n3 = views.length := by simpa using congrArg (fun v : Value => match v with | .slice _ n _ => n | _ => 0) e3'
  have en4 : n4 = bats.length := by simpa using congrArg (fun v : Value => match v with | .slice _ n _ => n | _ => 0) e4'
  obtain ⟨B, hB⟩ : ∃ B, w.heap.size = B := ⟨_, rfl⟩
  obtain ⟨wa, hwa⟩ : ∃ wa, w.alloc (.cells #[.int .i64 seq, .slice A1 n1 k1, .slice A2 n2 k2, .slice A3 n3 k3, .slice A4 n4 k4] 28) = wa := ⟨_, rfl⟩
  have hbx : Blk wa B 28 #[.int .i64 seq, .slice A1 n1 k1, .slice A2 n2 k2, .slice A3 n3 k3, .slice A4 n4 k4] := by rw [← hwa, ← hB]; exact Blk.new w 28 _
  have bw : Below B w wa := by rw [← hwa, ← hB]; exact (Below.refl _ _).alloc (Nat.le_refl _) _
  have hsa : wa.heap.size = B + 1 := by rw [← hwa, ← hB]; simp
  have hsq := h.seq
  unfold i64 at hsq
  simp only at hsq
  by_cases hs : seq < 0
  · have HV : Hid (rbytesP ⟨seq, dims, meas, views, bats⟩ = ([], 1)) := Lib.hid (by unfold rbytesP; rw [if_pos hs])
    have hlt : decide (seq < 0) = true := by simpa using hs
    have HBW := Lib.hid bw
    have HWA := Lib.hid hwa
    have HB := Lib.hid hB
    unfold ckv
    clear h hcT hcV hcB hcE e3' e4' hm3 hm4 en3 en4 hbx bw hsa hwa hB hsq
    go_enter Tryz.func12, Tryz.ntmps12
    go_wp2
    go_ret2
    exact ⟨by rw [HV.out]; rfl, by rw [HWA.out]; exact Fr.of_below (by rw [HB.out]; exact HBW.out)⟩
  obtain ⟨q, rfl⟩ : ∃ q : Nat, seq = (q : Int) := ⟨seq.toNat, by omega⟩
  have hlt : decide ((q : Int) < 0) = false := by simp
  have hu : IntKind.u64.wrap (q : Int) = (q : Int) := by rw [u64_of]; omega
  have HV : Hid (rbytesP ⟨(q : Int), dims, meas, views, bats⟩ = if (rBody ⟨(q : Int), dims, meas, views, bats⟩).length > 65536 then ([], 23) else rcat bats (frameR (rBody ⟨(q : Int), dims, meas, views, bats⟩))) := Lib.hid (by unfold rbytesP; rw [if_neg hs])
  have hcka : CkAt (fun k => k < B) wa ⟨(q : Int), dims, meas, views, bats⟩ (.slice A1 n1 k1) (.slice A2 n2 k2) (.slice A3 n3 k3) (.slice A4 n4 k4) := by rw [← hB]; exact h.of fun k hk => bw.block k (by omega)
  -- in any later world
  have hx : ∀ {w1 : World}, Below wa.heap.size wa w1 → Blk w1 B 28 #[.int .i64 (q : Int), .slice A1 n1 k1, .slice A2 n2 k2, .slice A3 n3 k3, .slice A4 n4 k4] ∧ CkAt (fun k => k < B) w1 ⟨(q : Int), dims, meas, views, bats⟩ (.slice A1 n1 k1) (.slice A2 n2 k2) (.slice A3 n3 k3) (.slice A4 n4 k4) := fun {w1} hb => ⟨hbx.of (hb.block B hbx.lt), hcka.of fun k hk => hb.block k (by omega)⟩
  have hHX : ∀ (w1 : World), Below wa.heap.size wa w1 → Blk w1 B 28 #[.int .i64 (q : Int), .slice A1 n1 k1, .slice A2 n2 k2, .slice A3 n3 k3, .slice A4 n4 k4] ∧ CkAt (fun k => k < B) w1 ⟨(q : Int), dims, meas, views, bats⟩ (.slice A1 n1 k1) (.slice A2 n2 k2) (.slice A3 n3 k3) (.slice A4 n4 k4) := fun w1 hb => hx hb
  have HX := Lib.hid hHX
  -- the three calls of the first region
  have K1 : Hid (∀ dd os, Calls Tryz.prog 38 #[.int .u64 (q : Int), .int .i64 8] (grow (redrawn wa dd) os) fun e w'' => e = .returned (sv (low q 8)) ∧ ∃ p : Regrown, w'' = grow (redrawn wa p.d) p.os) := Lib.hid fun dd os => Calls.regrown_of (Num_any q 8 _ (by omega) (by omega))
  have K2 : Hid (∀ dd os, Calls Tryz.prog 39 #[.agg #[.int .i64 9, .int .i64 0, sv [], .slice A1 n1 k1, .slice none 0 0, .slice none 0 0, .slice A2 n2 k2]] (grow (redrawn wa dd) os) fun e w'' => e = .returned (sv (bRow bText dims ++ bRow bText meas)) ∧ ∃ p : Regrown, w'' = grow (redrawn wa p.d) p.os) := Lib.hid fun dd os => by
    have hbb := below_regrown wa dd os
    have hth : ThingAt (fun k => k < (grow (redrawn wa dd) os).heap.size) (grow (redrawn wa dd) os) ⟨9, 0, [], dims, [], [], meas⟩ (.slice A1 n1 k1) (.slice none 0 0) (.slice none 0 0) (.slice A2 n2 k2) := by
      have hk := hx hbb
      have hs2 := hbb.size
      exact ⟨by unfold i64; simp, by unfold i64; simp, by simp [maxLen], hk.2.dims.mono fun k hk => by omega, RowE.nil _ _ _ _ _, RowE.nil _ _ _ _ _, hk.2.meas.mono fun k hk => by omega⟩
    have e9 : bThing ⟨9, 0, [], dims, [], [], meas⟩ = bRow bText dims ++ bRow bText meas := by unfold bThing; simp
    have := thing_told ⟨9, 0, [], dims, [], [], meas⟩ _ _ _ _ _ hth (by rw [e9]; omega) (by unfold okB; simp)
    rw [e9] at this
    exact Calls.regrown_of this
  have K3 : Hid (∀ dd os, Calls Tryz.prog 40 #[.int .i64 (n3 : Int)] (grow (redrawn wa dd) os) fun e w'' => e = .returned (sv (low n3 4)) ∧ ∃ p : Regrown, w'' = grow (redrawn wa p.d) p.os) := Lib.hid fun dd os => Calls.regrown_of (refcount_any n3 (by omega) _)
  have z0 : ∀ dd os, (grow (redrawn wa dd) os).cell? ⟨B, 0, none⟩ = some (.int .i64 (q : Int)) := fun dd os => cell_regrown (hbx.cell 0) dd os
  have z1 : ∀ dd os, (grow (redrawn wa dd) os).cell? ⟨B, 1, none⟩ = some (.slice A1 n1 k1) := fun dd os => cell_regrown (hbx.cell 1) dd os
  have z2 : ∀ dd os, (grow (redrawn wa dd) os).cell? ⟨B, 2, none⟩ = some (.slice A2 n2 k2) := fun dd os => cell_regrown (hbx.cell 2) dd os
  have z3 : ∀ dd os, (grow (redrawn wa dd) os).cell? ⟨B, 3, none⟩ = some (.slice A3 n3 k3) := fun dd os => cell_regrown (hbx.cell 3) dd os
  have x0 : wa.cell? ⟨B, 0, none⟩ = some (.int .i64 (q : Int)) := hbx.cell 0
  obtain ⟨E0, hE0⟩ : ∃ E0, low q 8 = E0 := ⟨_, rfl⟩
  obtain ⟨TT, hTT⟩ : ∃ TT, bRow bText dims ++ bRow bText meas = TT := ⟨_, rfl⟩
  obtain ⟨C0, hC0⟩ : ∃ C0, low n3 4 = C0 := ⟨_, rfl⟩
  obtain ⟨Y1, hY1⟩ : ∃ Y1, E0 ++ TT = Y1 := ⟨_, rfl⟩
  obtain ⟨Y2, hY2⟩ : ∃ Y2, Y1 ++ C0 = Y2 := ⟨_, rfl⟩
  have hle : E0.length = 8 := by rw [← hE0, low_len]
  have hlc : C0.length = 4 := by rw [← hC0, low_len]
  have hlt2 : TT.length ≤ 1099511627776 := by rw [← hTT]; exact hcT
  have hl1 : Y1.length ≤ 1099511627784 := by rw [← hY1, List.length_append]; omega
  have hl2 : Y2.length ≤ 1099511627788 := by rw [← hY2, List.length_append]; omega
  rw [hE0] at K1
  rw [hTT] at K2
  rw [hC0] at K3
  have hcat1 : ∀ w0, (Op.stringOp .add ⟨E0.toArray⟩ ⟨TT.toArray⟩).run Tryz.prog w0 = .ok (.string ⟨Y1.toArray⟩) w0 := fun w0 => by rw [run_cat _ _ (by omega), hY1]
  have hcat2 : ∀ w0, (Op.stringOp .add ⟨Y1.toArray⟩ ⟨C0.toArray⟩).run Tryz.prog w0 = .ok (.string ⟨Y2.toArray⟩) w0 := fun w0 => by rw [run_cat _ _ (by omega), hY2]
  have HBD : Hid (rBody ⟨(q : Int), dims, meas, views, bats⟩ = (Y2 ++ views.flatMap enc8) ++ low n4 4) := Lib.hid (by
    unfold rBody
    simp only
    rw [enc8_nat q (by omega), hE0, hTT, hY1, ← en3, hC0, hY2, en4])
  have HL2 := Lib.hid hl2
  have HBW := Lib.hid bw
  have HWA := Lib.hid hwa
  have HSA := Lib.hid hsa
  have HB := Lib.hid hB
  have HN3 := Lib.hid en3
  have HN4 := Lib.hid en4
  have HCE := Lib.hid hcE
  have hb3 : n3 ≤ 1099511627776 := by omega
  have hb4 : n4 ≤ 2000000000 := by omega
  generalize rBody ⟨(q : Int), dims, meas, views, bats⟩ = RB at *
  unfold ckv
  clear h hcT hcV hcB hcE e3' e4' hm3 hm4 en3 en4 hbx bw hsa hwa hB hsq hcka hx hHX hE0 hTT hC0 hY1 hY2 hle hlc hlt2 hl1 hl2 hs
  go_enter Tryz.func12, Tryz.ntmps12
  go_upto_region 3 with fail
  rw [HWA.out, HB.out]
  clear x0
  go_cut [4] (fun x wx => x = sv Y2 ∧ Below wa.heap.size wa wx)
  case first =>
    refine wp_region_quiet_below mixed (by kernel_rfl) ?_
    repeat (first | go_big_quiet_step (first | (with_reducible exact K1.out _ _) | (with_reducible exact K2.out _ _) | (with_reducible exact K3.out _ _)) | quiet_step (first | (with_reducible exact K1.out _ _) | (with_reducible exact K2.out _ _) | (with_reducible exact K3.out _ _)))
    refine wpQuiet_nil ?_
    intro wx hp
    have hbw : Below wa.heap.size wa wx := by obtain ⟨p, rfl⟩ := hp; exact below_regrown _ _ _
    go_wp2_with fail
    go_meet
    exact ⟨rfl, hbw⟩
  case rest =>
    obtain ⟨rfl, hbw⟩ := hcut
    have HBW0 := Lib.hid hbw
    have x3 := fun (w1 : World) (hb : Below wa.heap.size wa w1) => ((HX.out w1 hb).1.cell 3 : w1.cell? ⟨B, 3, none⟩ = some (.slice A3 n3 k3))
    have x4 := fun (w1 : World) (hb : Below wa.heap.size wa w1) => ((HX.out w1 hb).1.cell 4 : w1.cell? ⟨B, 4, none⟩ = some (.slice A4 n4 k4))
    have HX3 := Lib.hid x3
    have HX4 := Lib.hid x4
    clear hbw x3 x4 z0 z1 z2 z3 hcat1 hcat2 K1 K2 K3
    go_wp2
    go_loopw [4, 5] (fun b i wr => ∃ (j : Nat) (Acc : List UInt8), j ≤ n3 ∧ i = .int .i64 j ∧ b = sv Acc ∧ Acc.length = Y2.length + 8 * j ∧ Acc = Y2 ++ (views.take j).flatMap enc8 ∧ Below wa.heap.size wa wr) (fun _ i _ => n3 - (intOf i).toNat)
    case atStart => exact ⟨0, Y2, by omega, rfl, rfl, by omega, by simp, HBW0.out⟩
    case round =>
      obtain ⟨j, Acc, hj, rfl, rfl, hal, hacc, hbw⟩ := hrel
      have x3 := HX3.out wr hbw
      have hl2 := HL2.out
      have hal2 : Acc.length ≤ 9895604649996 := by omega
      by_cases hlt3 : j < n3
      · have hjl : j < views.length := by have := HN3.out; omega
        have hdec : decide ((j : Int) < (n3 : Int)) = true := by simpa using hlt3
        obtain ⟨A', c', e', _, hel⟩ := (HX.out wr hbw).2.views
        injection e' with ea eb ec
        subst ea
        obtain ⟨g, off, rfl, hg, hcell⟩ := hel (by omega)
        obtain ⟨cs, _, hcs2, rfl, hmx⟩ := hcell j hjl
        have hc : _ = some (Value.int .i64 views[j]) := hcs2 0 (by omega)
        simp only [Nat.mul_one, Nat.add_zero] at hc
        have hsn : (views.take (j + 1)).flatMap enc8 = (views.take j).flatMap enc8 ++ enc8 views[j] := flat_snoc enc8 views j hjl
        have hu8 := u64_of views[j]
        have CN := Num_any (views[j] % 18446744073709551616).toNat 8 wr (by omega) (by omega)
        have he8 : (enc8 views[j]).length = 8 := by unfold enc8; rw [low_len]
        have hlw : low (views[j] % 18446744073709551616).toNat 8 = enc8 views[j] := rfl
        unfold Low at CN
        rw [hlw] at CN
        have HCN := Lib.hid CN
        obtain ⟨Z, hZ⟩ : ∃ Z, Acc ++ enc8 views[j] = Z := ⟨_, rfl⟩
        have hcat : ∀ w0, (Op.stringOp .add ⟨Acc.toArray⟩ ⟨(enc8 views[j]).toArray⟩).run Tryz.prog w0 = .ok (.string ⟨Z.toArray⟩) w0 := fun w0 => by rw [run_cat _ _ (by omega), hZ]
        have HZ : Hid (Z.length = Y2.length + 8 * (j + 1) ∧ Z = Y2 ++ (views.take (j + 1)).flatMap enc8) := Lib.hid ⟨by rw [← hZ, List.length_append]; omega, by rw [← hZ, hsn, hacc, List.append_assoc]⟩
        generalize enc8 views[j] = E8 at *
        generalize (views[j] % 18446744073709551616).toNat = nv at *
        have HBW2 := Lib.hid hbw
        clear hcell hcs2 hel eb ec hmx hsn he8 hlw CN hZ hacc hal hbw hl2
        go_wp2_with fail
        refine HCN.out.mono ?_
        rintro e w5 ⟨rfl, b5⟩
        have HB5 := Lib.hid (HBW2.out.trans (b5.mono HBW2.out.size))
        clear b5 HCN
        go_wp2
        go_roundw
        case rel => exact ⟨j + 1, Z, by omega, by go_num, rfl, HZ.out.1, HZ.out.2, HB5.out⟩
        case measure => simp [intOf]; omega
      · obtain rfl : j = n3 := by omega
        have hdec : decide ((j : Int) < (j : Int)) = false := by simp
        have x4 := HX4.out wr hbw
        have hRB : RB = Acc ++ low n4 4 := by
          have e2 : (views.take j).flatMap enc8 = views.flatMap enc8 := by rw [HN3.out, List.take_length]
          rw [HBD.out, hacc, e2]
        have CC := refcount_any n4 (by omega) wr
        unfold Told at CC
        have HCC := Lib.hid CC
        have hlc : (low n4 4).length = 4 := low_len _ _
        have hcat : ∀ w0, (Op.stringOp .add ⟨Acc.toArray⟩ ⟨(low n4 4).toArray⟩).run Tryz.prog w0 = .ok (.string ⟨RB.toArray⟩) w0 := fun w0 => by rw [run_cat _ _ (by omega), hRB]
        have hrl : RB.length ≤ maxLen := by rw [hRB, List.length_append]; unfold maxLen; omega
        have HFR := Lib.hid (fun w1 : World => rframe_any RB w1 hrl)
        have HBW2 := Lib.hid hbw
        have HRL := Lib.hid hrl
        generalize low n4 4 = L4 at *
        clear hacc hal hbw hl2 hRB CC hlc hrl
        go_wp2_with fail
        refine HCC.out.mono ?_
        rintro e w5 ⟨rfl, b5⟩
        have HB5 := Lib.hid (HBW2.out.trans (b5.mono HBW2.out.size))
        clear b5 HCC
        have CF := HFR.out w5
        unfold Framed at CF
        by_cases hbig : RB.length > 65536
        · rw [frameV_no (by omega)] at CF
          have HCF := Lib.hid CF
          have HE : Hid (rbytesP ⟨(q : Int), dims, meas, views, bats⟩ = ([], 23)) := Lib.hid (by rw [HV.out, if_pos hbig])
          clear CF hbig
          go_wp2_with fail
          refine HCF.out.mono ?_
          rintro e w6 ⟨rfl, b6⟩
          have HB6 := Lib.hid (HB5.out.trans (b6.mono HB5.out.size))
          clear b6
          go_wp2
          go_ret2
          exact ⟨by rw [HE.out]; rfl, Fr.of_below (by rw [HB.out]; exact HBW.out.trans (HB6.out.mono (by have := HSA.out; omega)))⟩
        · rw [frameV_ok (by omega)] at CF
          have hfl : (frameR RB).length ≤ 65544 := by rw [frameR_len]; omega
          have HE : Hid (rbytesP ⟨(q : Int), dims, meas, views, bats⟩ = rcat bats (frameR RB)) := Lib.hid (by rw [HV.out, if_neg hbig])
          generalize frameR RB = acc0 at *
          have HCF := Lib.hid CF
          have HFL := Lib.hid hfl
          clear CF hbig hfl
          go_wp2_with fail
          clear x3 hcat hdec
          refine HCF.out.mono ?_
          rintro e w6 ⟨rfl, b6⟩
          have HB6 := Lib.hid (HB5.out.trans (b6.mono HB5.out.size))
          clear b6 x4
          go_wp2
          go_loopw [6, 8] (fun o i wr => ∃ (k : Nat) (acc : List UInt8), k ≤ n4 ∧ i = .int .i64 k ∧ o = sv acc ∧ acc.length ≤ 65544 * (k + 1) ∧ rcat (bats.drop k) acc = rcat bats acc0 ∧ Below wa.heap.size wa wr) (fun _ i _ => n4 - (intOf i).toNat)
          case atStart => exact ⟨0, acc0, by omega, rfl, rfl, by have := HFL.out; omega, rfl, HB6.out⟩
          case round =>
            obtain ⟨k, acc, hk, rfl, rfl, hal, hcat, hbw⟩ := hrel
            have x4 := HX4.out wr hbw
            by_cases hlt4 : k < n4
            · have hkl : k < bats.length := by have := HN4.out; omega
              have hdec : decide ((k : Int) < (n4 : Int)) = true := by simpa using hlt4
              rw [rcat_step hkl] at hcat
              have hbe := HCE.out bats[k] (List.getElem_mem hkl)
              obtain ⟨A', c', e', _, hel⟩ := (HX.out wr hbw).2.bats
              injection e' with ea eb ec
              subst ea
              obtain ⟨g, off, rfl, hg, hcell⟩ := hel (by omega)
              obtain ⟨cs, _, hcs2, vb, rfl, hrow⟩ := hcell k hkl
              have hc : _ = some vb := hcs2 0 (by omega)
              simp only [Nat.mul_one, Nat.add_zero] at hc
              obtain ⟨Ab, nb, cb, rfl⟩ := hrow.slice
              have hbs : B ≤ wr.heap.size := by have := hbw.size; have := HSA.out; omega
              have hth : ThingAt (fun k => k < wr.heap.size) wr ⟨8, 0, [], [], [], bats[k], []⟩ (.slice none 0 0) (.slice none 0 0) (.slice Ab nb cb) (.slice none 0 0) :=
                ⟨by unfold i64; simp, by unfold i64; simp, by simp [maxLen], RowE.nil _ _ _ _ _, RowE.nil _ _ _ _ _, (hrow.mono fun k hk => by omega).imp fun _ _ h => h.mono fun k hk => by omega, RowE.nil _ _ _ _ _⟩
              have e8 : bThing ⟨8, 0, [], [], [], bats[k], []⟩ = bRow bFact bats[k] := by unfold bThing; simp
              have CT := thing_told ⟨8, 0, [], [], [], bats[k], []⟩ _ _ _ _ wr hth (by rw [e8]; omega) (by unfold okB; simp)
              rw [e8] at CT
              unfold Told tcells at CT
              simp only at CT
              have HCT := Lib.hid CT
              have HFR2 := Lib.hid (fun w1 : World => rframe_any (bRow bFact bats[k]) w1 (by unfold maxLen; omega))
              have HBW3 := Lib.hid hbw
              have HCAT := Lib.hid hcat
              have HAL := Lib.hid hal
              generalize bRow bFact bats[k] = BB at *
              clear hcell hcs2 hel eb ec hrow hth e8 CT hbs hbw hcat
              go_wp2_with fail
              refine HCT.out.mono ?_
              rintro e w7 ⟨rfl, b7⟩
              have HB7 := Lib.hid (HBW3.out.trans (b7.mono HBW3.out.size))
              clear b7 HCT
              have CF := HFR2.out w7
              unfold Framed at CF
              by_cases hbig : BB.length > 65536
              · rw [frameV_no (by omega)] at CF
                have HCF := Lib.hid CF
                have HE2 : Hid (rcat bats acc0 = ([], 23)) := Lib.hid (by rw [← HCAT.out, if_pos hbig])
                clear CF hbig
                go_wp2_with fail
                refine HCF.out.mono ?_
                rintro e w8 ⟨rfl, b8⟩
                have HB8 := Lib.hid (HB7.out.trans (b8.mono HB7.out.size))
                clear b8
                go_wp2
                go_ret2
                exact ⟨by rw [HE.out, HE2.out]; rfl, Fr.of_below (by rw [HB.out]; exact HBW.out.trans (HB8.out.mono (by have := HSA.out; omega)))⟩
              · rw [frameV_ok (by omega)] at CF
                have hfl : (frameR BB).length ≤ 65544 := by rw [frameR_len]; omega
                have HE2 : Hid (rcat (bats.drop (k + 1)) (acc ++ frameR BB) = rcat bats acc0) := Lib.hid (by rw [← HCAT.out, if_neg hbig])
                generalize frameR BB = FB0 at *
                obtain ⟨Z, hZ⟩ : ∃ Z, acc ++ FB0 = Z := ⟨_, rfl⟩
                have hcat2 : ∀ w0, (Op.stringOp .add ⟨acc.toArray⟩ ⟨FB0.toArray⟩).run Tryz.prog w0 = .ok (.string ⟨Z.toArray⟩) w0 := fun w0 => by rw [run_cat _ _ (by omega), hZ]
                have HZ : Hid (Z.length ≤ 65544 * (k + 1 + 1)) := Lib.hid (by rw [← hZ, List.length_append]; omega)
                rw [hZ] at HE2
                have HCF := Lib.hid CF
                clear CF hbig hfl hZ hal hbe
                go_wp2_with fail
                refine HCF.out.mono ?_
                rintro e w8 ⟨rfl, b8⟩
                have HB8 := Lib.hid (HB7.out.trans (b8.mono HB7.out.size))
                clear b8
                go_wp2
                go_roundw
                case rel => exact ⟨k + 1, Z, by omega, by go_num, rfl, HZ.out, HE2.out, HB8.out⟩
                case measure => simp [intOf]; omega
            · obtain rfl : k = n4 := by omega
              have hdec : decide ((k : Int) < (k : Int)) = false := by simp
              have HE2 : Hid (rcat bats acc0 = (acc, 0)) := Lib.hid (by rw [← hcat, HN4.out, List.drop_length]; rfl)
              have HBW3 := Lib.hid hbw
              clear hcat hbw hal
              go_wp2
              go_ret2
              exact ⟨by rw [HE.out, HE2.out]; rfl, Fr.of_below (by rw [HB.out]; exact HBW.out.trans (HBW3.out.mono (by have := HSA.out; omega)))⟩

def sameP (a b : CkP) : Bool := decide ((rbytesP a).1 = (rbytesP b).1 ∧ (rbytesP a).2 = (rbytesP b).2 ∧ (rbytesP a).2 = 0)
end Go.Proofs.YtoaiofjcjjkfaaaGreatDoor
/- Whether two checkpoints are the same; the law's own small one. -/
namespace Go.Proofs.YtoaiofjcjjkfaaaGreatDoor
open Go.RowKit Go.Maps Go.Sort
set_option linter.unusedVariables false

set_option maxRecDepth 100000 in
set_option maxHeartbeats 1000000 in
theorem same_any (a b : CkP) (d1 m1 v1 b1 d2 m2 v2 b2 : Value) (w : World) (ha : CkAt (fun k => k < w.heap.size) w a d1 m1 v1 b1) (hb : CkAt (fun k => k < w.heap.size) w b d2 m2 v2 b2) (ca : CkB a) (cb : CkB b) :
    Calls Tryz.prog 16 #[ckv a d1 m1 v1 b1, ckv b d2 m2 v2 b2] w fun e w' => e = .returned (.bool (sameP a b)) ∧ Fr No w w' := by
  obtain ⟨A1, n1, k1, A2, n2, k2, A3, n3, k3, A4, n4, k4, rfl, rfl, rfl, rfl⟩ := ha.forms
  obtain ⟨C1, i1, j1, C2, i2, j2, C3, i3, j3, C4, i4, j4, rfl, rfl, rfl, rfl⟩ := hb.forms
  obtain ⟨B, hB⟩ : ∃ B, w.heap.size = B := ⟨_, rfl⟩
  obtain ⟨w1, hw1⟩ : ∃ w1, w.alloc (.cells #[.int .i64 a.seq, .slice A1 n1 k1, .slice A2 n2 k2, .slice A3 n3 k3, .slice A4 n4 k4] 28) = w1 := ⟨_, rfl⟩
  obtain ⟨w2, hw2⟩ : ∃ w2, w1.alloc (.cells #[.int .i64 b.seq, .slice C1 i1 j1, .slice C2 i2 j2, .slice C3 i3 j3, .slice C4 i4 j4] 28) = w2 := ⟨_, rfl⟩
  have hs1 : w1.heap.size = B + 1 := by rw [← hw1, ← hB]; simp
  have f1 : Fr No w w1 := by rw [← hw1]; exact (Fr.refl _ w).alloc _
  have f2 : Fr No w1 w2 := by rw [← hw2]; exact (Fr.refl _ w1).alloc _
  have b1 : Blk w1 B 28 #[.int .i64 a.seq, .slice A1 n1 k1, .slice A2 n2 k2, .slice A3 n3 k3, .slice A4 n4 k4] := by rw [← hw1, ← hB]; exact Blk.new w 28 _
  have b2 : Blk w2 (B + 1) 28 #[.int .i64 b.seq, .slice C1 i1 j1, .slice C2 i2 j2, .slice C3 i3 j3, .slice C4 i4 j4] := by rw [← hw2, ← hs1]; exact Blk.new w1 28 _
  have b1' := b1.of (f2.block _ b1.lt id)
  have f12 : Fr No w w2 := f1.trans f2 fun _ _ h => h
  have ha2 : CkAt (fun k => k < w2.heap.size) w2 a (.slice A1 n1 k1) (.slice A2 n2 k2) (.slice A3 n3 k3) (.slice A4 n4 k4) := (ha.of fun k hk => f12.block k hk id).mono fun k hk => Nat.lt_of_lt_of_le hk f12.size
  have CA := refBytes_any a _ _ _ _ w2 ha2 ca
  have CBf : ∀ w3, Fr No w2 w3 → Calls Tryz.prog 12 #[ckv b (.slice C1 i1 j1) (.slice C2 i2 j2) (.slice C3 i3 j3) (.slice C4 i4 j4)] w3 fun e w' => e = .returned (.tuple #[sv (rbytesP b).1, .int .i64 (rbytesP b).2]) ∧ Fr No w3 w' := fun w3 f3 => by
    have f := f12.trans f3 fun _ _ h => h
    exact refBytes_any b _ _ _ _ w3 ((hb.of fun k hk => f.block k hk id).mono fun k hk => Nat.lt_of_lt_of_le hk f.size) cb
  have HS : Hid (sameP a b = decide ((rbytesP a).1 = (rbytesP b).1 ∧ (rbytesP a).2 = (rbytesP b).2 ∧ (rbytesP a).2 = 0)) := Lib.hid rfl
  generalize rbytesP a = ra at *
  generalize rbytesP b = rb at *
  obtain ⟨s, e1⟩ := ra
  obtain ⟨t, e2⟩ := rb
  simp only at CA CBf HS
  unfold ckv at CA CBf ⊢
  have HCA := Lib.hid CA
  have HCB := Lib.hid CBf
  have HB1 := Lib.hid b1'
  have HB2 := Lib.hid b2
  have HF12 := Lib.hid f12
  have HW1 := Lib.hid hw1
  have HW2 := Lib.hid hw2
  have HB := Lib.hid hB
  have x0 : w2.cell? ⟨B, 0, none⟩ = some (.int .i64 a.seq) := b1'.cell 0
  have x1 : w2.cell? ⟨B, 1, none⟩ = some (.slice A1 n1 k1) := b1'.cell 1
  have x2 : w2.cell? ⟨B, 2, none⟩ = some (.slice A2 n2 k2) := b1'.cell 2
  have x3 : w2.cell? ⟨B, 3, none⟩ = some (.slice A3 n3 k3) := b1'.cell 3
  have x4 : w2.cell? ⟨B, 4, none⟩ = some (.slice A4 n4 k4) := b1'.cell 4
  clear ha hb ca cb hB hw1 hw2 hs1 f1 f2 b1 b2 b1' f12 ha2 CA CBf
  go_enter Tryz.func16, Tryz.ntmps16
  go_wp2_with fail
  rw [HW1.out, HW2.out, HB.out]
  refine HCA.out.mono ?_
  rintro e w3 ⟨rfl, f3⟩
  have CX := Lib.hid (HCB.out w3 f3)
  have b23 := HB2.out.of (f3.block _ HB2.out.lt id)
  have y0 : w3.cell? ⟨B + 1, 0, none⟩ = some (.int .i64 b.seq) := b23.cell 0
  have y1 : w3.cell? ⟨B + 1, 1, none⟩ = some (.slice C1 i1 j1) := b23.cell 1
  have y2 : w3.cell? ⟨B + 1, 2, none⟩ = some (.slice C2 i2 j2) := b23.cell 2
  have y3 : w3.cell? ⟨B + 1, 3, none⟩ = some (.slice C3 i3 j3) := b23.cell 3
  have y4 : w3.cell? ⟨B + 1, 4, none⟩ = some (.slice C4 i4 j4) := b23.cell 4
  have F3 := Lib.hid (HF12.out.trans f3 fun _ _ h => h)
  clear f3 b23 x0 x1 x2 x3 x4
  go_wp2_with fail
  refine CX.out.mono ?_
  rintro e w4 ⟨rfl, f4⟩
  have F4 := Lib.hid (F3.out.trans f4 fun _ _ h => h)
  clear f4 y0 y1 y2 y3 y4
  by_cases h1 : s = t
  · have h1b : (s == t) = true := by simpa using h1
    by_cases h2 : e1 = e2
    · have h2b : (e1 == e2) = true := by simpa using h2
      by_cases h3 : e1 = 0
      · have h3b : (e1 == 0) = true := by simpa using h3
        have HE : Hid (sameP a b = true) := Lib.hid (by rw [HS.out, decide_eq_true]; exact ⟨h1, h2, h3⟩)
        clear h1 h2 h3
        go_wp2
        go_ret
        exact ⟨by rw [HE.out]; first | done | rfl, F4.out⟩
      · have h3b : (e1 == 0) = false := by simpa using h3
        have HE : Hid (sameP a b = false) := Lib.hid (by rw [HS.out, decide_eq_false]; exact fun h => h3 h.2.2)
        clear h1 h2 h3
        go_wp2
        go_ret
        exact ⟨by rw [HE.out]; first | done | rfl, F4.out⟩
    · have h2b : (e1 == e2) = false := by simpa using h2
      have HE : Hid (sameP a b = false) := Lib.hid (by rw [HS.out, decide_eq_false]; exact fun h => h2 h.2.1)
      clear h1 h2
      go_wp2
      go_ret
      exact ⟨by rw [HE.out]; first | done | rfl, F4.out⟩
  · have h1b : (s == t) = false := by simpa using h1
    have HE : Hid (sameP a b = false) := Lib.hid (by rw [HS.out, decide_eq_false]; exact fun h => h1 h.1)
    clear h1
    go_wp2
    go_ret
    exact ⟨by rw [HE.out]; first | done | rfl, F4.out⟩

/-! ### small -/
def smallP (n : Int) : CkP := ⟨n, [[97]], [[109]], [1], [[⟨[[120]], [5]⟩], []]⟩
theorem Blk.more {w : World} {g : Nat} {t : TypeId} {cs : Array Value} (h : Blk w g t cs) (o : Obj) : Blk (w.alloc o) g t cs := h.of (((Fr.refl No w).alloc o).block g h.lt id)
theorem Blk.at_ {w : World} {g B : Nat} (t : TypeId) (cs : Array Value) (h : w.heap.size = B) : Blk (w.alloc (.cells cs t)) B t cs := by rw [← h]; exact Blk.new w t cs
theorem rowOne {α : Type} {w : World} {K : Nat → Prop} {E : α → List Value → Prop} {g : Nat} {t : TypeId} {cs : Array Value} (size : Nat) (hs : cs.size = size) (hb : Blk w g t cs) (hk : K g) (x : α) (hx : E x cs.toList) : RowE K w size E (.slice (some ⟨g, 0, none⟩) 1 1) [x] := by
  refine ⟨_, _, rfl, by unfold maxLen; simp, fun _ => ⟨g, 0, rfl, hk, fun j hj => ?_⟩⟩
  obtain rfl : j = 0 := by simpa using hj
  refine ⟨cs.toList, by simpa using hs, fun i hi => ?_, hx⟩
  rw [Nat.zero_mul, Nat.add_zero, Nat.zero_add, hb.cell i]
  simp
set_option maxRecDepth 100000 in
set_option maxHeartbeats 1000000 in
theorem small_any (n : Int) (hn : i64 n) (w : World) : Calls Tryz.prog 33 #[.int .i64 n] w fun e w' => ∃ dv mv vv bv, e = .returned (ckv (smallP n) dv mv vv bv) ∧ Fr No w w' ∧ CkAt (fun k => w.heap.size ≤ k) w' (smallP n) dv mv vv bv := by
  obtain ⟨B, hB⟩ : ∃ B, w.heap.size = B := ⟨_, rfl⟩
  obtain ⟨w0, hw0⟩ : ∃ w0, w.alloc (.cells #[.int .i64 n, .slice (some ⟨B + 1, 0, none⟩) 1 1, .slice (some ⟨B + 2, 0, none⟩) 1 1, .slice (some ⟨B + 3, 0, none⟩) 1 1, .slice (some ⟨B + 7, 0, none⟩) 2 2] 28) = w0 := ⟨_, rfl⟩
  have hs0 : w0.heap.size = B + 1 := by rw [← hw0]; simp [hB]
  obtain ⟨w1, hw1⟩ : ∃ w1, w0.alloc (.cells #[sv [97]] 9) = w1 := ⟨_, rfl⟩
  have hs1 : w1.heap.size = B + 2 := by rw [← hw1]; simp [hs0]
  obtain ⟨w2, hw2⟩ : ∃ w2, w1.alloc (.cells #[sv [109]] 9) = w2 := ⟨_, rfl⟩
  have hs2 : w2.heap.size = B + 3 := by rw [← hw2]; simp [hs1]
  obtain ⟨w3, hw3⟩ : ∃ w3, w2.alloc (.cells #[.int .i64 1] 3) = w3 := ⟨_, rfl⟩
  have hs3 : w3.heap.size = B + 4 := by rw [← hw3]; simp [hs2]
  obtain ⟨w4, hw4⟩ : ∃ w4, w3.alloc (.cells #[sv [120]] 9) = w4 := ⟨_, rfl⟩
  have hs4 : w4.heap.size = B + 5 := by rw [← hw4]; simp [hs3]
  obtain ⟨w5, hw5⟩ : ∃ w5, w4.alloc (.cells #[.int .i64 5] 2) = w5 := ⟨_, rfl⟩
  have hs5 : w5.heap.size = B + 6 := by rw [← hw5]; simp [hs4]
  obtain ⟨w6, hw6⟩ : ∃ w6, w5.alloc (.cells #[.slice (some ⟨B + 4, 0, none⟩) 1 1, .slice (some ⟨B + 5, 0, none⟩) 1 1] 139) = w6 := ⟨_, rfl⟩
  have hs6 : w6.heap.size = B + 7 := by rw [← hw6]; simp [hs5]
  obtain ⟨w7, hw7⟩ : ∃ w7, w6.alloc (.cells #[.slice (some ⟨B + 6, 0, none⟩) 1 1, .slice none 0 0] 76) = w7 := ⟨_, rfl⟩
  have hs7 : w7.heap.size = B + 8 := by rw [← hw7]; simp [hs6]
  have b0 : Blk w7 B 28 #[.int .i64 n, .slice (some ⟨B + 1, 0, none⟩) 1 1, .slice (some ⟨B + 2, 0, none⟩) 1 1, .slice (some ⟨B + 3, 0, none⟩) 1 1, .slice (some ⟨B + 7, 0, none⟩) 2 2] := by rw [← hw7, ← hw6, ← hw5, ← hw4, ← hw3, ← hw2, ← hw1, ← hw0]; exact ((((((((Blk.at_ (g := 0) 28 #[.int .i64 n, .slice (some ⟨B + 1, 0, none⟩) 1 1, .slice (some ⟨B + 2, 0, none⟩) 1 1, .slice (some ⟨B + 3, 0, none⟩) 1 1, .slice (some ⟨B + 7, 0, none⟩) 2 2] hB).more _).more _).more _).more _).more _).more _).more _)
  have b1 : Blk w7 (B + 1) 9 #[sv [97]] := by rw [← hw7, ← hw6, ← hw5, ← hw4, ← hw3, ← hw2, ← hw1]; exact (((((((Blk.at_ (g := 0) 9 #[sv [97]] hs0).more _).more _).more _).more _).more _).more _)
  have b2 : Blk w7 (B + 2) 9 #[sv [109]] := by rw [← hw7, ← hw6, ← hw5, ← hw4, ← hw3, ← hw2]; exact ((((((Blk.at_ (g := 0) 9 #[sv [109]] hs1).more _).more _).more _).more _).more _)
  have b3 : Blk w7 (B + 3) 3 #[.int .i64 1] := by rw [← hw7, ← hw6, ← hw5, ← hw4, ← hw3]; exact (((((Blk.at_ (g := 0) 3 #[.int .i64 1] hs2).more _).more _).more _).more _)
  have b4 : Blk w7 (B + 4) 9 #[sv [120]] := by rw [← hw7, ← hw6, ← hw5, ← hw4]; exact ((((Blk.at_ (g := 0) 9 #[sv [120]] hs3).more _).more _).more _)
  have b5 : Blk w7 (B + 5) 2 #[.int .i64 5] := by rw [← hw7, ← hw6, ← hw5]; exact (((Blk.at_ (g := 0) 2 #[.int .i64 5] hs4).more _).more _)
  have b6 : Blk w7 (B + 6) 139 #[.slice (some ⟨B + 4, 0, none⟩) 1 1, .slice (some ⟨B + 5, 0, none⟩) 1 1] := by rw [← hw7, ← hw6]; exact ((Blk.at_ (g := 0) 139 #[.slice (some ⟨B + 4, 0, none⟩) 1 1, .slice (some ⟨B + 5, 0, none⟩) 1 1] hs5).more _)
  have b7 : Blk w7 (B + 7) 76 #[.slice (some ⟨B + 6, 0, none⟩) 1 1, .slice none 0 0] := by rw [← hw7]; exact (Blk.at_ (g := 0) 76 #[.slice (some ⟨B + 6, 0, none⟩) 1 1, .slice none 0 0] hs6)
  have hf : Fr No w w7 := by rw [← hw7, ← hw6, ← hw5, ← hw4, ← hw3, ← hw2, ← hw1, ← hw0]; exact ((((((((Fr.refl _ w).alloc _).alloc _).alloc _).alloc _).alloc _).alloc _).alloc _).alloc _
  have hck : CkAt (fun k => B ≤ k) w7 (smallP n) (.slice (some ⟨B + 1, 0, none⟩) 1 1) (.slice (some ⟨B + 2, 0, none⟩) 1 1) (.slice (some ⟨B + 3, 0, none⟩) 1 1) (.slice (some ⟨B + 7, 0, none⟩) 2 2) := by
    refine ⟨hn, rowOne 1 rfl b1 (by omega) _ ⟨rfl, by simp [maxLen]⟩, rowOne 1 rfl b2 (by omega) _ ⟨rfl, by simp [maxLen]⟩, rowOne 1 rfl b3 (by omega) _ ⟨rfl, by unfold i64; omega⟩, ?_⟩
    refine ⟨_, _, rfl, by unfold maxLen; simp [smallP], fun _ => ⟨B + 7, 0, rfl, by omega, fun j hj => ?_⟩⟩
    have hj2 : j < 2 := hj
    rcases (by omega : j = 0 ∨ j = 1) with rfl | rfl
    · refine ⟨[.slice (some ⟨B + 6, 0, none⟩) 1 1], rfl, fun i hi => ?_, _, rfl, rowOne 2 rfl b6 (by omega) _ ⟨_, _, rfl, rowOne 1 rfl b4 (by omega) _ ⟨rfl, by simp [maxLen]⟩, rowOne 1 rfl b5 (by omega) _ ⟨rfl, by unfold i64; omega⟩⟩⟩
      obtain rfl : i = 0 := by omega
      exact b7.cell 0
    · refine ⟨[.slice none 0 0], rfl, fun i hi => ?_, _, rfl, RowE.nil _ _ _ _ _⟩
      obtain rfl : i = 0 := by omega
      exact b7.cell 1
  have y0 : w7.cell? ⟨B, 0, none⟩ = some (.int .i64 n) := b0.cell 0
  have y1 : w7.cell? ⟨B, 1, none⟩ = some (.slice (some ⟨B + 1, 0, none⟩) 1 1) := b0.cell 1
  have y2 : w7.cell? ⟨B, 2, none⟩ = some (.slice (some ⟨B + 2, 0, none⟩) 1 1) := b0.cell 2
  have y3 : w7.cell? ⟨B, 3, none⟩ = some (.slice (some ⟨B + 3, 0, none⟩) 1 1) := b0.cell 3
  have y4 : w7.cell? ⟨B, 4, none⟩ = some (.slice (some ⟨B + 7, 0, none⟩) 2 2) := b0.cell 4
  have HW : Hid (((((((w.alloc (.cells #[.int .i64 n, .slice (some ⟨B + 1, 0, none⟩) 1 1, .slice (some ⟨B + 2, 0, none⟩) 1 1, .slice (some ⟨B + 3, 0, none⟩) 1 1, .slice (some ⟨B + 7, 0, none⟩) 2 2] 28)).alloc (.cells #[sv [97]] 9)).alloc (.cells #[sv [109]] 9)).alloc (.cells #[.int .i64 1] 3)).alloc (.cells #[sv [120]] 9)).alloc (.cells #[.int .i64 5] 2)).alloc (.cells #[.slice (some ⟨B + 4, 0, none⟩) 1 1, .slice (some ⟨B + 5, 0, none⟩) 1 1] 139) = w6) := Lib.hid (by rw [hw0, hw1, hw2, hw3, hw4, hw5, hw6])
  have HW7 := Lib.hid hw7
  have HF := Lib.hid hf
  have HCK := Lib.hid hck
  have HB := Lib.hid hB
  clear hw0 hw1 hw2 hw3 hw4 hw5 hw6 hw7 hs0 hs1 hs2 hs3 hs4 hs5 hs6 hs7 b0 b1 b2 b3 b4 b5 b6 b7 hf hck hB
  go_enter Tryz.func33, Tryz.ntmps33
  go_wp2
  rw [HB.out]
  simp only [Nat.add_assoc, Nat.reduceAdd]
  rw [HW.out, HW7.out]
  refine bodyPost_ret (v := ckv (smallP n) (.slice (some ⟨B + 1, 0, none⟩) 1 1) (.slice (some ⟨B + 2, 0, none⟩) 1 1) (.slice (some ⟨B + 3, 0, none⟩) 1 1) (.slice (some ⟨B + 7, 0, none⟩) 2 2)) (by simp [results, Tryz.results33, go_sem, ckv, smallP, y0, y1, y2, y3, y4]) rfl ?_
  exact ⟨_, _, _, _, rfl, HF.out, HCK.out⟩
end Go.Proofs.YtoaiofjcjjkfaaaGreatDoor
/- The law's own round of a small checkpoint, and Load of no disk. -/
namespace Go.Proofs.YtoaiofjcjjkfaaaGreatDoor
open Go.RowKit Go.Maps Go.Sort
set_option linter.unusedVariables false

def new0 : AS := AS.new 10000
theorem sk0 : sortedKeys new0.names = [] := by unfold sortedKeys; rw [show strKeys new0.names = [] from rfl]; simp
def steps0 : List Stp := [.write (fileW 1) (bytesP (smallP 2)).1, .sync (fileW 1), .settle, .mani (fileW 1), .syncF, .renameF, .settle]
theorem stepsW0 : stepsW new0 (fileW 1) (bytesP (smallP 2)).1 = steps0 := by
  unfold stepsW others; rw [sk0]; rfl
theorem saveW0 : saveW new0 (smallP 2) = runAll new0 steps0 := by
  unfold saveW
  rw [if_neg (show ¬ new0.on = false by decide)]
  rw [if_neg (show ¬ (bytesP (smallP 2)).2 ≠ 0 from fun h => h (by kernel_rfl))]
  rw [show validW new0 = (0, 0) by kernel_rfl]
  rw [if_neg (by decide)]
  exact congrArg _ stepsW0
theorem run0 : (runAll new0 steps0).2 = 0 := by kernel_rfl
theorem load0 : loadW (runAll new0 steps0).1 = (smallP 2, true, 0) := by kernel_rfl
theorem loadE : loadW new0 = (CkP.zero, false, 0) := by kernel_rfl
theorem same0 : sameP (smallP 2) (smallP 2) = true := by unfold sameP; rw [decide_eq_true]; exact ⟨rfl, rfl, by kernel_rfl⟩
theorem file0 : fileW 1 = [99, 97, 116, 45, 48, 48, 48, 48, 48, 48, 48, 49] := by kernel_rfl
theorem ckb0 : CkB (smallP 2) := by
  refine ⟨?_, ?_, ?_, ?_⟩
  · have h : (bRow bText (smallP 2).dims ++ bRow bText (smallP 2).meas).length = 18 := by kernel_rfl
    omega
  · simp [smallP]
  · simp [smallP]
  · intro b hb
    simp only [smallP, List.mem_cons, List.not_mem_nil, or_false] at hb
    rcases hb with rfl | rfl
    · have h : (bRow bFact [⟨[[120]], [5]⟩]).length ≤ 1099511627776 := by
        have h2 : (bRow bFact [⟨[[120]], [5]⟩]).length = (bRow bFact [⟨[[120]], [5]⟩]).length := rfl
        have h3 : ((bRow bFact [⟨[[120]], [5]⟩]).length ≤ 1099511627776) = True := by
          have : decide ((bRow bFact [⟨[[120]], [5]⟩]).length ≤ 1099511627776) = true := by kernel_rfl
          simpa using this
        rw [h3]; trivial
      exact h
    · have : decide ((bRow bFact []).length ≤ 1099511627776) = true := by kernel_rfl
      simpa using this

set_option maxRecDepth 100000 in
set_option maxHeartbeats 1000000 in
/-- Load of no disk. -/
theorem load_nil (w : World) : Calls Tryz.prog 29 #[.pointer none] w (LdP w (CkP.zero, false, 1)) := by
  obtain ⟨gr, hgr⟩ : ∃ gr, w.heap.size = gr := ⟨_, rfl⟩
  obtain ⟨wa, hwa⟩ : ∃ wa, w.alloc (.cells #[.int .i64 0, .slice none 0 0, .slice none 0 0, .slice none 0 0, .slice none 0 0] 28) = wa := ⟨_, rfl⟩
  have hsa : wa.heap.size = gr + 1 := by rw [← hwa, ← hgr]; simp
  have hbr0 : Blk wa gr 28 zero5 := by rw [← hwa, ← hgr]; exact Blk.new w 28 _
  have hf0 : Fr No w wa := by rw [← hwa]; exact (Fr.refl _ w).alloc _
  have C1 := Lib.hid (valid_nil wa)
  have HBR := Lib.hid hbr0
  have HF0 := Lib.hid hf0
  have HSA := Lib.hid hsa
  have HWA := Lib.hid hwa
  have HGR := Lib.hid hgr
  clear hgr hwa hsa hbr0 hf0
  go_enter Tryz.func29, Tryz.ntmps29
  go_wp2_with fail
  rw [HWA.out]
  refine C1.out.mono ?_
  rintro e w1 ⟨rfl, f1⟩
  have HF1 := Lib.hid (HF0.out.trans f1 fun _ _ h => h)
  have b1 := HBR.out.of (f1.block _ HBR.out.lt id)
  have x0 : w1.cell? ⟨gr, 0, none⟩ = some (.int .i64 0) := b1.cell 0
  have x1 : w1.cell? ⟨gr, 1, none⟩ = some (.slice none 0 0) := b1.cell 1
  have x2 : w1.cell? ⟨gr, 2, none⟩ = some (.slice none 0 0) := b1.cell 2
  have x3 : w1.cell? ⟨gr, 3, none⟩ = some (.slice none 0 0) := b1.cell 3
  have x4 : w1.cell? ⟨gr, 4, none⟩ = some (.slice none 0 0) := b1.cell 4
  have y0 := b1.frozen 0
  have y1 := b1.frozen 1
  have y2 := b1.frozen 2
  have y3 := b1.frozen 3
  have y4 := b1.frozen 4
  have HB1 := Lib.hid b1
  clear f1 b1
  rw [HGR.out]
  go_wp2
  refine bodyPost_ret (v := .tuple #[.agg #[.int .i64 0, .slice none 0 0, .slice none 0 0, .slice none 0 0, .slice none 0 0], .bool false, .int .i64 1]) (by simp [results, Tryz.results29, go_sem, x0, x1, x2, x3, x4]) rfl ?_
  exact ld_fin HGR.out (c := CkP.zero) HF1.out (CkAt.nil _ _ _ _ _ _ _ (by unfold i64 CkP.zero; simp) rfl rfl rfl rfl) HB1.out.lt _ _ _ _ _ _ _
theorem CkAt.bound {K : Nat → Prop} {w : World} {c : CkP} {dv mv vv bv : Value} (h : CkAt K w c dv mv vv bv) : CkAt (fun k => k < w.heap.size) w c dv mv vv bv := by
  have q : CkAt (fun k => K k ∧ k < w.heap.size) w c dv mv vv bv :=
    ⟨h.seq, h.dims.bound (by omega), h.meas.bound (by omega), h.views.bound (by omega),
      (h.bats.bound (by omega)).imp fun b cs hb => batG_elem.mono K (fun k => K k ∧ k < w.heap.size) w w b cs hb fun k hk hlt => ⟨⟨hk, hlt⟩, rfl⟩⟩
  exact q.mono fun k hk => hk.2
end Go.Proofs.YtoaiofjcjjkfaaaGreatDoor
