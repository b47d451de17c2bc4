/- The document's reader takes up facts. -/
import Derived.Test.YtjhjcdfhfjeogaaP7
namespace Go.Proofs.Ytjhjcdfhfjeogaa
open Go.RowKit Go.Maps
set_option linter.unusedVariables false

theorem texts_rest (S : RS) : True := trivial
set_option maxRecDepth 100000 in
set_option maxHeartbeats 4000000 in
theorem dfacts_r (g : Nat) (S : RS) (w : World) (h : DAt w g S) : Calls Try.prog 76 #[dpt g] w (DPr g w 2 factG (S.several RS.fact 8).1 (S.several RS.fact 8).2) := by
  obtain ⟨b, hb⟩ : ∃ b, w.heap.size = b := ⟨_, rfl⟩
  have hpb : ∀ j, DFt g j → j < b := fun j hj => by have := h.lt; unfold DFt at hj; omega
  have hml := many_le S 8
  have hsl := h.len
  have HM := Lib.hid (dmany_any g S 8 (by omega) (by omega) w h)
  have HV : Hid (S.several RS.fact 8 = (if (seq RS.fact (S.many 8).1 (S.many 8).2).2.fault = 0 then (seq RS.fact (S.many 8).1 (S.many 8).2).1 else [], (seq RS.fact (S.many 8).1 (S.many 8).2).2)) := Lib.hid rfl
  have PB := Lib.hid hpb
  have hn : (S.many 8).1 ≤ 1073741824 := by omega
  have HBS := Lib.hid (show b = w.heap.size from hb.symm)
  generalize (S.many 8).1 = n at *
  generalize (S.many 8).2 = S1 at *
  clear h hpb hml hsl
  unfold dpt at HM ⊢
  go_enter Try.func76, Try.ntmps76
  go_wp2_with fail
  refine HM.out.mono ?_
  rintro e w1 ⟨rfl, h1, f1⟩
  have H1 := Lib.hid h1
  have F1 := Lib.hid f1
  clear h1 f1 hb
  go_wp2
  go_loopw [4, 5] (fun v i wr => ∃ j : Nat, ∃ A c, j ≤ n ∧ i = .int .i64 j ∧ v = .slice A j c ∧ Grow b 99 2 factG wr (.slice A j c) (seq RS.fact j S1).1 ∧ DAt wr g (seq RS.fact j S1).2 ∧ Fr (DFt g) w wr) (fun _ i _ => n - (intOf i).toNat)
  case atStart => exact ⟨0, _, _, by omega, rfl, rfl, Grow.nil0 _ _ _ _ _, H1.out, F1.out⟩
  case round =>
    obtain ⟨j, A, c, hj, rfl, rfl, hg, hr, hf⟩ := hrel
    have HG := Lib.hid hg
    have HR0 := Lib.hid hr
    have HF := Lib.hid hf
    have HQ : Hid (seq RS.fact (j + 1) S1 = ((seq RS.fact j S1).1 ++ [(RS.fact (seq RS.fact j S1).2).1], (RS.fact (seq RS.fact j S1).2).2)) := Lib.hid rfl
    have HL := Lib.hid (seq_len RS.fact S1 j)
    clear hg hr hf
    by_cases hlt : j < n
    · go_wp2_with fail
      have HC := dfact_r g (seq RS.fact j S1).2 wr HR0.out
      unfold dpt at HC
      refine HC.mono ?_
      clear HC
      rintro e w3 ⟨dv, mv, rfl, h3, f3, rd, rm⟩
      obtain ⟨A1, n1, k1, rfl⟩ := rd.slice
      obtain ⟨A2, n2, k2, rfl⟩ := rm.slice
      have hg3 := HG.out.keep factG_elem f3 PB.out
      have hel : factG (fun x => wr.heap.size ≤ x) w3 (RS.fact (seq RS.fact j S1).2).1 [.slice A1 n1 k1, .slice A2 n2 k2] := ⟨_, _, rfl, rd, rm⟩
      obtain ⟨A', c', w4, hap, hg4, f4, hlt4⟩ := hg3.more factG_elem (w0 := wr) (by rw [HBS.out]; exact HF.out.size) f3.size (fun x hx => (HG.out.lt x hx).2) 56 Try.underlying56 (.agg #[.slice none 0 0, .slice none 0 0]) info99 rfl (by omega) _ [.slice A1 n1 k1, .slice A2 n2 k2] rfl (by simp [Value.oneCell']) hel (by rw [HL.out]; omega) (by rw [HL.out]; unfold maxLen; omega)
      rw [HL.out] at hap hg4
      have h4 : DAt w4 g (RS.fact (seq RS.fact j S1).2).2 := h3.of (f4.block g h3.lt fun hx => by have := (HG.out.lt g hx).1; have := PB.out g rfl; omega)
      have hf4 : Fr (DFt g) w w4 := (HF.out.thenD f3).trans f4 fun x hlx hx => by have := (HG.out.lt x hx).1; have := HBS.out; omega
      have HAP := Lib.hid hap
      have HG4 : Hid (Grow b 99 2 factG w4 (.slice A' (j + 1) c') (seq RS.fact (j + 1) S1).1) := Lib.hid (by rw [HQ.out]; exact hg4)
      have HR4 : Hid (DAt w4 g (seq RS.fact (j + 1) S1).2) := Lib.hid (by rw [HQ.out]; exact h4)
      have HF4 := Lib.hid hf4
      clear h3 f3 hg3 hel hap hg4 f4 hlt4 h4 hf4 rd rm
      go_wp2_with (at_builtin; refine wpList_add rfl _ _ _ _ rfl _ _ _ _ rfl rfl (HAP.out _) ?_)
      go_roundw
      case rel => exact ⟨j + 1, A', c', by omega, by go_num, by go_num, HG4.out, HR4.out, HF4.out⟩
      case measure => simp [intOf]; omega
    · obtain rfl : j = n := by omega
      have e1 : wr.cell? ⟨g, 1, none⟩ = some (.int .i64 (seq RS.fact j S1).2.fault) := HR0.out.blk.cell 1
      by_cases hz : (seq RS.fact j S1).2.fault = 0
      · rw [hz] at e1
        have HE : Hid (S.several RS.fact 8 = seq RS.fact j S1) := Lib.hid (by rw [HV.out, if_pos hz])
        have hrow := HG.out.row factG_elem (by rw [HL.out]; unfold maxLen; omega)
        rw [HBS.out] at hrow
        have HROW := Lib.hid hrow
        clear hz hrow
        go_wp2
        go_ret
        exact ⟨_, rfl, by rw [HE.out]; exact HR0.out, HF.out, by rw [HE.out]; exact HROW.out⟩
      · have hd : ((seq RS.fact j S1).2.fault != 0) = true := by simpa using hz
        have HE : Hid (S.several RS.fact 8 = ([], (seq RS.fact j S1).2)) := Lib.hid (by rw [HV.out, if_neg hz])
        clear hz
        go_wp2
        go_ret
        exact ⟨_, rfl, by rw [HE.out]; exact HR0.out, HF.out, by rw [HE.out]; exact RowE.nil _ _ _ _ _⟩
end Go.Proofs.Ytjhjcdfhfjeogaa
