/- The document's dictionary: Sorted, Between, Put. -/
import Derived.Test.YtlglfcadoofmpaaC2
namespace Go.Proofs.Ytlglfcadoofmpaa
open Go.RowKit Go.Maps Go.Proofs
set_option linter.unusedVariables false

/-- A told list, in new memory. -/
def RListQ (l : List Nat) (w : World) (e : Ending) (w' : World) : Prop := ∃ v, e = .returned v ∧ w'.ownsRow w.heap.size 3 1 v l.length (l.map encN) ∧ Fr No w w'
section
variable {B r : Nat} {lv : Value} {L : List Tx} {T : List Nat} {w : World}
set_option maxRecDepth 100000 in
set_option maxHeartbeats 1600000 in
theorem r_sorted (h : Rt B r lv L w) (hL : L.length ≤ 4096) (htx : ∀ t ∈ L, t.length ≤ 64) (hT : Ord L T) : Calls Try.prog 14 #[.pointer (some ⟨r, 0, none⟩)] w (RListQ T w) := by
  obtain ⟨A, c, e, c0⟩ := h.cell
  have HH := Lib.hid h
  have HT := Lib.hid hT
  have HX := Lib.hid htx
  obtain ⟨m, hm⟩ : ∃ m, L.length = m := ⟨_, rfl⟩
  have HL : Hid (L.length ≤ 4096) := Lib.hid hL
  rw [hm] at c0 hL
  have hTm : T.length = m := by rw [hT.len, hm]
  obtain ⟨gs, hgs⟩ : ∃ gs, w.heap.size = gs := ⟨_, rfl⟩
  obtain ⟨w1, hw1⟩ : ∃ w1, w.alloc (.cells (madeCells #[.int .i64 0] m) 3) = w1 := ⟨_, rfl⟩
  have f1 : Fr No w w1 := by rw [← hw1]; exact (Fr.refl No w).alloc _
  have hrow : w1.ownsRow gs 3 1 (.slice (some ⟨gs, 0, none⟩) m m) m ((List.replicate m 0).map encN) := by
    have hms : (madeCells #[Value.int .i64 0] m).size = m := by rw [size_madeCells]
    refine ⟨by simp, .inr ⟨gs, m, madeCells #[.int .i64 0] m, rfl, Nat.le_refl _, ?_, Nat.le_refl _, by unfold maxLen; omega, by omega, ?_⟩⟩
    · rw [← hw1, ← hgs]; exact heap_alloc_new w _
    · rw [replicate_enc, List.take_of_length_le (by rw [Array.length_toList, hms]; omega), toList_madeCells_one]
  have hmk := run_make_row' (P := Try.prog) 35 3 (.int .i64 0) 8 Try.underlying35 info3 rfl .i64 .i64 m (by omega) (by omega)
  have HM := Lib.hid hm
  have HG := Lib.hid hgs
  have HW1 := Lib.hid hw1
  have HF1 := Lib.hid f1
  have HR1 := Lib.hid hrow
  have HTM := Lib.hid hTm
  have HO1 : Hid (Outs T (List.replicate m 0) 0) := Lib.hid (by rw [← hTm]; exact Outs.zero T)
  clear h hT htx hm hgs hw1 f1 hrow e hTm
  go_enter Try.func14, Try.ntmps14
  go_upto_region 2 with fail
  rw [HW1.out, HG.out]
  clear hmk c0
  go_wp2
  go_loopw [4] (fun iv wr => ∃ (i : Nat) (out : List Nat), iv = .int .i64 i ∧ i ≤ m ∧ Hid (Outs T out i) ∧ Hid (wr.ownsRow gs 3 1 (.slice (some ⟨gs, 0, none⟩) m m) m (out.map encN)) ∧ Hid (Fr No w wr)) (fun iv _ => m - (intOf iv).toNat)
  case atStart => exact ⟨0, _, rfl, Nat.zero_le _, HO1, HR1, HF1⟩
  case round =>
    obtain ⟨i, out, rfl, hi, HO, HR, HF⟩ := hrel
    obtain ⟨A2, c2, e2, c0⟩ := (HH.out.keep HF.out).cell
    rw [HM.out] at c0
    clear e2
    by_cases hlt : i < m
    · obtain ⟨k, hk, hkL⟩ := pos_of HT.out (n := i) (by rw [HM.out]; exact hlt)
      have hkm : k < m := by rw [HM.out] at hkL; exact hkL
      have hcall := r_rank (HH.out.keep HF.out) HL.out HX.out i (by rw [HM.out]; exact hlt)
      rw [rank_at HT.out hk] at hcall
      have HC := Lib.hid hcall
      have HO2 := Lib.hid (HO.out.next HT.out hk)
      clear hcall hk hkL
      go_wp2_with fail
      refine HC.out.mono ?_
      rintro e w3 ⟨rfl, hd⟩
      have f3 := drewN_fr hd
      have hr3 := own_of HR.out (w' := w3) fun j hj => f3.block j (HR.out.lt j hj).2 id
      obtain ⟨b0, hb0⟩ : ∃ b0, w3.cell? ⟨gs, k, none⟩ = some b0 := ⟨_, (hr3.cellAt k (by omega)).trans (List.getElem?_eq_getElem (by rw [List.length_map, HO.out.len, HTM.out]; exact hkm))⟩
      have zs := hr3.frozenAt k
      have hst := (hr3.stored k (encN i)).1
      rw [← List.map_set] at hst
      have HS := Lib.hid hst
      have HF3 : Hid (Fr No w (w3.setCell ⟨gs, k, none⟩ (encN i))) := Lib.hid ((HF.out.trans f3 fun _ _ h => h).setCell (p := ⟨gs, k, none⟩) (fun h => by have := HG.out; simp at h; omega) _)
      unfold encN at HS HF3
      clear hd f3 hr3 hst c0
      go_wp2
      go_roundw
      case rel => exact ⟨i + 1, out.set k i, by go_num, by omega, HO2, HS, HF3⟩
      case measure => simp [intOf]; omega
    · obtain rfl : i = m := by omega
      have ho : out = T := by
        have := HO.out
        rw [← HM.out] at this
        exact this.done HT.out
      have HOT := Lib.hid ho
      clear ho
      go_wp2
      go_ret
      refine ⟨_, rfl, ?_, HF.out⟩
      have := HR.out
      rw [HOT.out] at this
      rw [HTM.out, HG.out]
      exact this
end
end Go.Proofs.Ytlglfcadoofmpaa
