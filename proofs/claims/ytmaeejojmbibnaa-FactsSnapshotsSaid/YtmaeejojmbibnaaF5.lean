/- fits: whether a fact has the store's dimensions and measures. -/
import Derived.Test.YtmaeejojmbibnaaFR
namespace Go.Proofs.Ytmaeejojmbibnaa
open Go.RowKit Go.Maps
set_option linter.unusedVariables false

theorem RowE.len_le {α : Type} {K : Nat → Prop} {w : World} {size : Nat} {E : α → List Value → Prop} {v : Value} {l : List α} (h : RowE K w size E v l) : l.length ≤ maxLen := by
  obtain ⟨A, c, e, hm, h⟩ := h
  exact hm
def FitsP (b : Bool) (w : World) (e : Ending) (w' : World) : Prop := e = .returned (.bool b) ∧ Fr No w w'
section
variable (s : Nat) (Q : SRp) (S : FS) (B : List (List FactP)) (l : List FactP) (w : World)
set_option maxRecDepth 100000 in
set_option maxHeartbeats 2000000 in
theorem fits_any (h : SAt w s Q S) (hW : FW S B l) (K : Nat → Prop) (dv mv : Value) (f : FactP) (hd : RowE K w 1 strE dv f.dims) (hm : RowE K w 1 intE mv f.meas) :
    Calls Try.prog 47 #[.pointer (some ⟨s, 0, none⟩), .agg #[dv, mv]] w (FitsP (decide (f.Fits S.K S.M)) w) := by
  obtain ⟨w0, hw0⟩ : ∃ w0, w.alloc (.cells #[dv, mv] 51) = w0 := ⟨_, rfl⟩
  obtain ⟨bx, hbx⟩ : ∃ bx, w.heap.size = bx := ⟨_, rfl⟩
  have f0 : Fr No w w0 := by rw [← hw0]; exact (Fr.refl _ w).alloc _
  have h0 := h.keep f0
  have hb0 : Blk w0 bx 51 #[dv, mv] := by rw [← hw0, ← hbx]; exact Blk.new w 51 _
  have b0 : w0.cell? ⟨bx, 0, none⟩ = some dv := hb0.cell 0
  have b1 : w0.cell? ⟨bx, 1, none⟩ = some mv := hb0.cell 1
  have hd0 := hd.of f0.size (fun k hk hlt => ⟨hk, f0.block k hlt id⟩) (fun _ _ _ h => h)
  have hm1 := hd.len_le
  have hm2 := hm.len_le
  unfold maxLen at hm1 hm2
  obtain ⟨A1, c1, rfl⟩ := hd.slice
  obtain ⟨A2, c2, rfl⟩ := hm.slice
  have c0 := h0.cells.1
  obtain ⟨A, c, e⟩ := h0.dform
  rw [e] at c0
  have cM := h0.cells.2.1
  have hk := hW.k
  have hmm := hW.m
  have hFits : Hid (f.Fits S.K S.M ↔ f.dims.length = S.K ∧ f.meas.length = S.M ∧ ∀ t ∈ f.dims, t.length ≤ 64) := Lib.hid Iff.rfl
  have HD := Lib.hid hd0
  have HW0 := Lib.hid hw0
  have HBX := Lib.hid hbx
  have HF0 := Lib.hid f0
  clear h h0 hb0 hd0 hW hw0 hbx f0 e hd hm
  obtain ⟨b, hb⟩ : ∃ b, decide (f.Fits S.K S.M) = b := ⟨_, rfl⟩
  rw [hb]
  have HB := Lib.hid hb
  clear hb
  obtain ⟨n1, hn1⟩ : ∃ n, f.dims.length = n := ⟨_, rfl⟩
  obtain ⟨n2, hn2⟩ : ∃ n, f.meas.length = n := ⟨_, rfl⟩
  rw [hn1] at hm1 b0 hFits HW0 ⊢
  rw [hn2] at hm2 b1 hFits HW0 ⊢
  have HN1 := Lib.hid hn1
  clear hn1 hn2
  generalize S.K = k at *
  generalize S.M = m at *
  by_cases e1 : n1 = k
  · by_cases e2 : n2 = m
    · subst e1
      subst e2
      go_enter Try.func47, Try.ntmps47
      go_upto_region 1 with fail
      rw [HW0.out, HBX.out]
      go_quiet (fail)
      obtain ⟨w1, hw1⟩ : ∃ w1, w0.drewN nq = w1 := ⟨_, rfl⟩
      have HF1 : Hid (Fr No w0 w1) := Lib.hid (by rw [← hw1]; exact (Fr.refl _ w0).drewN nq)
      have b0' : w1.cell? ⟨bx, 0, none⟩ = some (.slice A1 n1 c1) := by rw [← hw1]; exact b0
      rw [hw1]
      clear hw1 b0 b1 c0 cM
      go_wp2
      go_loopw [29] (fun i wr => ∃ j : Nat, j ≤ n1 ∧ i = .int .i64 j ∧ wr = w1 ∧ Hid (∀ i (h : i < f.dims.length), i < j → f.dims[i].length ≤ 64)) (fun i _ => n1 - (intOf i).toNat)
      case atStart => exact ⟨0, by omega, rfl, rfl, Lib.hid (fun i _ h => by omega)⟩
      case round =>
        obtain ⟨j, hj, rfl, rfl, HL⟩ := hrel
        by_cases hlt : j < n1
        · have hjl : j < f.dims.length := by rw [HN1.out]; exact hlt
          obtain ⟨g, off, c', e, hg, hgl, hcell⟩ := texts_at HD.out (by omega)
          injection e with e _ _
          subst e
          have hc : wr.cell? ⟨g, off + j, none⟩ = some (encT f.dims[j]) := (cell_of_heap (HF1.out.block g hgl id)).trans (hcell j hjl)
          have ht : f.dims[j].length ≤ maxLen := by
            obtain ⟨g', off', c'', e', _, _, hcell'⟩ := RowE.at_ HD.out (by omega)
            obtain ⟨cs, _, _, hx⟩ := hcell' j hjl
            exact hx.2
          unfold encT at hc
          have hsz : (⟨f.dims[j].toArray⟩ : ByteArray).size = f.dims[j].length := by simp [ByteArray.size]
          unfold maxLen at ht
          generalize (⟨f.dims[j].toArray⟩ : ByteArray) = sz at *
          by_cases h64 : f.dims[j].length ≤ 64
          · have hs : sz.size ≤ 64 := by omega
            have HS := Lib.hid h64
            clear hsz h64 ht hcell hgl
            go_wp2
            go_roundw
            case rel => exact ⟨j + 1, by omega, by go_num, by first | rfl | trivial, Lib.hid (fun i hi hij => by
              rcases Nat.lt_or_ge i j with h | h
              · exact HL.out i hi h
              · have e : i = j := by omega
                subst e; exact HS.out)⟩
            case measure => simp [intOf]; omega
          · have hs : 64 < sz.size := by omega
            have hs2 : sz.size ≤ 9223372036854775807 := by omega
            have HS := Lib.hid h64
            clear hsz h64 ht hcell hgl
            go_wp2
            go_ret
            refine ⟨ret_bool ?_, HF0.out.trans HF1.out fun _ _ h => h⟩
            rw [← HB.out]
            symm
            rw [decide_eq_false_iff_not]
            intro hx
            exact HS.out ((hFits.out.1 hx).2.2 _ (List.getElem_mem hjl))
        · obtain rfl : j = n1 := by omega
          go_wp2
          go_ret
          refine ⟨ret_bool ?_, HF0.out.trans HF1.out fun _ _ h => h⟩
          rw [← HB.out]
          symm
          rw [decide_eq_true_eq]
          refine hFits.out.2 ⟨by first | rfl | trivial, by first | rfl | trivial, fun t ht => ?_⟩
          obtain ⟨i, hi, rfl⟩ := List.getElem_of_mem ht
          exact HL.out i hi (by rw [← HN1.out]; exact hi)
    · subst e1
      have q2 : ((n2 : Int) != (m : Int)) = true := by simp; omega
      have q3 : ((n2 : Int) == (m : Int)) = false := by simp; omega
      have HE := Lib.hid e2
      go_enter Try.func47, Try.ntmps47
      go_upto_region 1 with fail
      rw [HW0.out, HBX.out]
      clear e2
      go_quiet (fail)
      go_wp2
      go_ret
      refine ⟨ret_bool ?_, HF0.out.drewN nq⟩
      rw [← HB.out]
      symm
      rw [decide_eq_false_iff_not]
      intro hx
      exact HE.out (hFits.out.1 hx).2.1
  · have q1 : ((n1 : Int) != (k : Int)) = true := by simp; omega
    have q3 : ((n1 : Int) == (k : Int)) = false := by simp; omega
    have HE := Lib.hid e1
    go_enter Try.func47, Try.ntmps47
    go_upto_region 1 with fail
    rw [HW0.out, HBX.out]
    clear e1
    go_quiet (fail)
    go_wp2
    go_ret
    refine ⟨ret_bool ?_, HF0.out.drewN nq⟩
    rw [← HB.out]
    symm
    rw [decide_eq_false_iff_not]
    intro hx
    exact HE.out (hFits.out.1 hx).1
end
end Go.Proofs.Ytmaeejojmbibnaa
