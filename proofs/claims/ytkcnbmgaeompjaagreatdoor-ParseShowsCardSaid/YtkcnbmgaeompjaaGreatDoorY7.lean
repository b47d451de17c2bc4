/- The document's Show: elements. -/
import Derived.Test.YtkcnbmgaeompjaaGreatDoorY6
namespace Go.Proofs.YtkcnbmgaeompjaaGreatDoor
open Go.RowKit Go.Maps
set_option linter.unusedVariables false

theorem grow_nil (b : Nat) (w : World) : Grow b 9 1 strG w (.slice none 0 0) [] := ⟨No, [], ⟨rfl, .inl ⟨rfl, rfl⟩⟩, fun j hj => absurd hj (by simp), fun k hk => hk.elim⟩
set_option maxRecDepth 100000 in
set_option maxHeartbeats 4000000 in
theorem dgroupT_any {K : Nat → Prop} (v : Gp) {a b : Value} (w : World) (hA : RowE K w 1 (strG K w) a v.cols) (hB : RowE K w 1 (lsG K w) b v.sets) (h : rightG v = true) (hlen : (groupT v).length ≤ 100000000) : Calls Tryz.prog 38 #[.agg #[.int .i64 v.kind, a, b]] w (TellsT (groupT v) w) := by
  obtain ⟨kind, cols, sets⟩ := v
  simp only at hA hB ⊢
  have hA0 := hA
  have hB0 := hB
  obtain ⟨A1, c1, rfl, hla, hma, hrowa⟩ := hA0
  obtain ⟨A2, c2, rfl, hlc, hcm, hrow⟩ := hB0
  obtain ⟨w1, hw1⟩ : ∃ w1, w.alloc (.cells #[.int .i64 kind, .slice A1 cols.length c1, .slice A2 sets.length c2] 66) = w1 := ⟨_, rfl⟩
  obtain ⟨y, hy⟩ : ∃ y, w.heap.size = y := ⟨_, rfl⟩
  have f1 : Fr No w w1 := by rw [← hw1]; exact (Fr.refl No w).alloc _
  have hb : Blk w1 y 66 #[.int .i64 kind, .slice A1 cols.length c1, .slice A2 sets.length c2] := by rw [← hw1, ← hy]; exact Blk.new w 66 _
  have d0 : w1.cell? ⟨y, 0, none⟩ = some (.int .i64 kind) := hb.cell 0
  have d1 : w1.cell? ⟨y, 1, none⟩ = some (.slice A1 cols.length c1) := hb.cell 1
  have d2 : w1.cell? ⟨y, 2, none⟩ = some (.slice A2 sets.length c2) := hb.cell 2
  have F1 := Lib.hid f1
  have HW1 := Lib.hid hw1
  have HY := Lib.hid hy
  have HA := Lib.hid (hA.at_ strG_elem f1)
  have HROW := Lib.hid (hB.at_ lsG_elem f1)
  have HROWA : Hid (0 < cols.length → ∃ g off, A1 = some ⟨g, off, none⟩ ∧ w1.cell? ⟨g, off, none⟩ = some (sv (cols.headD []))) := Lib.hid fun h0 => by
    obtain ⟨g, off, e, hK, hg, hel⟩ := hrowa h0
    obtain ⟨cs, hcl, hcs, hE⟩ := hel 0 h0
    refine ⟨g, off, e, (cell_of_heap (f1.block g hg id)).trans ?_⟩
    have := hcs 0 (by decide)
    rw [hE.1] at this
    cases cols with
    | nil => simp at h0
    | cons x l => simpa using this
  have HBLK := Lib.hid hb
  have HLEN := Lib.hid hlen
  have HEND : Hid (∀ (T : Tx) e w2, groupT ⟨kind, cols, sets⟩ = T → e = .returned (sv T) → Fr No w1 w2 → TellsT (groupT ⟨kind, cols, sets⟩) w e w2) := Lib.hid fun T e w2 h1 h2 h3 => ⟨by rw [h2, h1], f1.trans h3 fun _ _ h => h⟩
  have HKD : Hid (kind = 1 ∨ kind = 2 ∨ kind = 3 ∨ kind = 4) := Lib.hid (by
    unfold rightG at h
    simp only at h
    by_cases k1 : kind = 1
    · exact .inl k1
    · rw [if_neg k1] at h
      by_cases k2 : kind = 2 ∨ kind = 3
      · exact k2.elim (fun h => .inr (.inl h)) fun h => .inr (.inr (.inl h))
      · rw [if_neg k2] at h
        by_cases k4 : kind = 4
        · exact .inr (.inr (.inr k4))
        · rw [if_neg k4] at h; cases h)
  have HR := Lib.hid h
  unfold maxLen at hcm
  clear f1 hb hw1 hy hA hB hrow hrowa hlen h
  go_enter Tryz.func38, Tryz.ntmps38
  go_upto_region 1 with fail
  rw [HW1.out, HY.out]
  rcases HKD.out with rfl | rfl | rfl | rfl
  · have hc1 : cols.length = 1 := by
      have := HR.out
      unfold rightG at this
      rw [if_pos rfl] at this
      simp only [Bool.and_eq_true] at this
      have := rightL_len this.2
      omega
    obtain ⟨g, off, rfl, e0⟩ := HROWA.out (by omega)
    have HV : Hid (groupT ⟨1, cols, sets⟩ = cols.headD []) := Lib.hid (groupT1 rfl)
    rw [hc1] at d1
    obtain ⟨T, hT⟩ : ∃ T, cols.headD [] = T := ⟨_, rfl⟩
    rw [hT] at e0 HV
    clear hc1 hT
    go_wp2_with fail
    go_ret
    exact HEND.out _ _ _ HV.out rfl (Fr.refl _ _)
  · have hv := groupT2 (e := ⟨2, cols, sets⟩) rfl
    simp only at hv
    unfold lstT at hv
    have hl := HLEN.out
    rw [hv] at hl
    have hJ : (jn cols).length ≤ 100000000 := by simp at hl; omega
    have HC := Lib.hid (dlist_any w1 HA.out (by omega))
    obtain ⟨J, hJe⟩ : ∃ J, jn cols = J := ⟨_, rfl⟩
    rw [hJe] at hv hJ HC
    have a1 : ∀ w0, (Op.stringOp .add ⟨#[82, 79, 76, 76, 85, 80, 40]⟩ ⟨J.toArray⟩).run Tryz.prog w0 = .ok (.string ⟨([82, 79, 76, 76, 85, 80, 40] ++ J).toArray⟩) w0 := fun w0 => run_cat [82, 79, 76, 76, 85, 80, 40] J (by unfold maxLen; simp; omega) w0
    have a2 : ∀ w0, (Op.stringOp .add ⟨([82, 79, 76, 76, 85, 80, 40] ++ J).toArray⟩ ⟨#[41]⟩).run Tryz.prog w0 = .ok (.string ⟨([82, 79, 76, 76, 85, 80, 40] ++ J ++ [41]).toArray⟩) w0 := fun w0 => run_cat _ [41] (by unfold maxLen; simp; omega) w0
    obtain ⟨X1, hX1⟩ : ∃ X, [82, 79, 76, 76, 85, 80, 40] ++ J = X := ⟨_, rfl⟩
    rw [hX1] at a1 a2
    obtain ⟨X2, hX2⟩ : ∃ X, X1 ++ [41] = X := ⟨_, rfl⟩
    rw [hX2] at a2
    have HV : Hid (groupT ⟨2, cols, sets⟩ = X2) := Lib.hid (by rw [hv, ← hX2, ← hX1]; simp)
    clear hv hl hJ hJe hX1 hX2
    go_wp2_with fail
    refine HC.out.mono ?_
    rintro e w5 ⟨rfl, f5⟩
    have HF5 := Lib.hid f5
    clear f5
    go_wp2_with fail
    go_ret
    exact HEND.out _ _ _ HV.out rfl HF5.out
  · have hv := groupT3 (e := ⟨3, cols, sets⟩) rfl
    simp only at hv
    unfold lstT at hv
    have hl := HLEN.out
    rw [hv] at hl
    have hJ : (jn cols).length ≤ 100000000 := by simp at hl; omega
    have HC := Lib.hid (dlist_any w1 HA.out (by omega))
    obtain ⟨J, hJe⟩ : ∃ J, jn cols = J := ⟨_, rfl⟩
    rw [hJe] at hv hJ HC
    have a1 : ∀ w0, (Op.stringOp .add ⟨#[67, 85, 66, 69, 40]⟩ ⟨J.toArray⟩).run Tryz.prog w0 = .ok (.string ⟨([67, 85, 66, 69, 40] ++ J).toArray⟩) w0 := fun w0 => run_cat [67, 85, 66, 69, 40] J (by unfold maxLen; simp; omega) w0
    have a2 : ∀ w0, (Op.stringOp .add ⟨([67, 85, 66, 69, 40] ++ J).toArray⟩ ⟨#[41]⟩).run Tryz.prog w0 = .ok (.string ⟨([67, 85, 66, 69, 40] ++ J ++ [41]).toArray⟩) w0 := fun w0 => run_cat _ [41] (by unfold maxLen; simp; omega) w0
    obtain ⟨X1, hX1⟩ : ∃ X, [67, 85, 66, 69, 40] ++ J = X := ⟨_, rfl⟩
    rw [hX1] at a1 a2
    obtain ⟨X2, hX2⟩ : ∃ X, X1 ++ [41] = X := ⟨_, rfl⟩
    rw [hX2] at a2
    have HV : Hid (groupT ⟨3, cols, sets⟩ = X2) := Lib.hid (by rw [hv, ← hX2, ← hX1]; simp)
    clear hv hl hJ hJe hX1 hX2
    go_wp2_with fail
    refine HC.out.mono ?_
    rintro e w5 ⟨rfl, f5⟩
    have HF5 := Lib.hid f5
    clear f5
    go_wp2_with fail
    go_ret
    exact HEND.out _ _ _ HV.out rfl HF5.out
  · have hv := groupT4 (e := ⟨4, cols, sets⟩) (show (4 : Int) ≠ 1 by decide) (show (4 : Int) ≠ 2 by decide) (show (4 : Int) ≠ 3 by decide)
    simp only at hv
    have hl := HLEN.out
    rw [hv] at hl
    have hJ : (jn (sets.map lstT)).length ≤ 100000000 := by simp at hl; omega
    have HJ := Lib.hid hJ
    have h64 : sets.length ≤ 64 := by
      have := HR.out
      unfold rightG at this
      rw [if_neg (show ¬ (4 : Int) = 1 by decide), if_neg (show ¬ ((4 : Int) = 2 ∨ (4 : Int) = 3) by decide), if_pos rfl] at this
      simp only [Bool.and_eq_true] at this
      exact (rightL_len this.2).2.1
    obtain ⟨b, hb⟩ : ∃ b, w1.heap.size = b := ⟨_, rfl⟩
    have HB := Lib.hid hb
    have HV0 := Lib.hid hv
    obtain ⟨n, hn⟩ : ∃ n, sets.length = n := ⟨_, rfl⟩
    have HN := Lib.hid hn
    rw [hn] at d2 hlc h64
    clear hv hl hJ hb hn
    go_wp2_with fail
    go_loopg [3, 4] n (fun k r3 r4 wr => Hid (∃ j : Nat, r4 = .int .i64 (j : Nat) ∧ j + k = n ∧ Fr No w1 wr ∧ Grow b 9 1 strG wr r3 ((sets.take j).map lstT)))
    case atStart => exact Lib.hid ⟨0, rfl, by omega, Fr.refl _ _, grow_nil _ _⟩
    case round =>
      obtain ⟨j, rfl, hjn, hf, hgw⟩ := hrel.out
      obtain ⟨A5, c5, rfl⟩ := hgw.len
      obtain ⟨L5, hL5⟩ : ∃ L5, (sets.take j).map lstT = L5 := ⟨_, rfl⟩
      have hlt5 : L5.length = j := by rw [← hL5, List.length_map, List.length_take, HN.out]; omega
      rw [hL5] at hgw
      have HLT := Lib.hid hlt5
      have HL5 := Lib.hid hL5
      have HG := Lib.hid hgw
      have HFN := Lib.hid hf
      simp only [hL5, hlt5]
      rw [hlt5] at HG
      have q2 : wr.cell? ⟨y, 2, none⟩ = some (.slice A2 n c2) := (cell_of_heap (hf.block y HBLK.out.lt id)).trans d2
      clear hrel hgw hlt5 hL5
      by_cases hj : j < n
      · have hji : (j : Int) < (n : Int) := by omega
        have hjl : j < sets.length := by rw [HN.out]; exact hj
        obtain ⟨A, c, e, _, _, hrow⟩ := HROW.out
        obtain ⟨rfl, rfl⟩ : A2 = A ∧ c2 = c := by injection e with e1 e2 e3; exact ⟨e1, e3⟩
        obtain ⟨g, off, rfl, hK, hg, hel⟩ := hrow (by omega)
        obtain ⟨cs, hcl, hcs, hE⟩ := hel j hjl
        have hmt := map_take (f := lstT) hjl
        rw [HL5.out] at hmt
        have hxle : (lstT sets[j]).length ≤ 100000000 := Nat.le_trans (jn_mem (f := lstT) (x := sets[j]) (List.getElem_mem hjl)) HJ.out
        obtain ⟨x, hx⟩ : ∃ x, sets[j] = x := ⟨_, rfl⟩
        rw [hx] at hE hmt hxle
        have HMT := Lib.hid hmt
        obtain ⟨v0, hE, _, hRI⟩ := hE
        obtain ⟨A1', n1', c1', rfl⟩ : ∃ A1 n1 c1, v0 = .slice A1 n1 c1 := by obtain ⟨A1, c1, e, _⟩ := hRI; exact ⟨_, _, _, e⟩
        have e0 : wr.cell? ⟨g, off + j, none⟩ = some (.slice A1' n1' c1') := (cell_of_heap (hf.block g hg id)).trans (by have := hcs 0 (by decide); rw [hE] at this; simpa using this)
        have hll := lstT_len x
        have HC := Lib.hid (dlist_any wr (hRI.at_ strG_elem hf) (by omega))
        have hlx : lstT x = [40] ++ jn x ++ [41] := rfl
        obtain ⟨J, hJe⟩ : ∃ J, jn x = J := ⟨_, rfl⟩
        rw [hJe] at HC hll hlx
        have a1 : ∀ w0, (Op.stringOp .add ⟨#[40]⟩ ⟨J.toArray⟩).run Tryz.prog w0 = .ok (.string ⟨([40] ++ J).toArray⟩) w0 := fun w0 => run_cat [40] J (by unfold maxLen; simp; omega) w0
        have a2 : ∀ w0, (Op.stringOp .add ⟨([40] ++ J).toArray⟩ ⟨#[41]⟩).run Tryz.prog w0 = .ok (.string ⟨([40] ++ J ++ [41]).toArray⟩) w0 := fun w0 => run_cat _ [41] (by unfold maxLen; simp; omega) w0
        obtain ⟨X1, hX1⟩ : ∃ X, [40] ++ J = X := ⟨_, rfl⟩
        rw [hX1] at a1 a2 hlx
        obtain ⟨X, hX⟩ : ∃ X, X1 ++ [41] = X := ⟨_, rfl⟩
        rw [hX] at a2 hlx
        have HLX := Lib.hid hlx
        have HXL := Lib.hid hxle
        clear hcs hcl hel hK hrow e hE hx hf hmt hRI hll hJe hX1 hX hlx hxle
        go_wp2_with fail
        refine HC.out.mono ?_
        clear HC
        rintro e w5 ⟨rfl, f5⟩
        have hg5 := HG.out.keep strG_elem f5 (fun _ h => h.elim)
        have hf5 := HFN.out.trans f5 fun _ _ h => h
        have hxm : E9 X := by have := HXL.out; rw [HLX.out] at this; unfold E9; unfold maxLen; omega
        have HJN : Hid (j ≤ 64) := Lib.hid (by omega)
        rw [← HLT.out] at hg5
        obtain ⟨A', c', w6, hrun, hg6, hfr6, hlt6⟩ := Grow.more (bytes := 16) strG_elem (w0 := w5) hg5 (by have := hf5.size; have := HB.out; omega) (Nat.le_refl _) (fun k hk => (hg5.lt k hk).2) 52 Tryz.underlying52 (.string ⟨#[]⟩) (by kernel_rfl) rfl (by decide) X [sv X] rfl (by simp [Value.oneCell']) ⟨rfl, hxm⟩ (by rw [HLT.out]; omega) (by rw [HLT.out]; unfold maxLen; omega)
        have HF6 : Hid (Fr No w1 w6) := Lib.hid (hf5.own hfr6 fun k hk => by have := (hg5.lt k hk).1; have := HB.out; omega)
        rw [← HLX.out, ← HMT.out] at hg6
        have HG6 := Lib.hid hg6
        have HRUN := Lib.hid hrun
        rw [HLT.out] at HRUN HG6
        have HW5 : Hid (∀ ty, (Builtin.append_ #[52, 52] ty #[.slice A5 j c5, .slice (some ⟨w5.heap.size, 0, none⟩) 1 1]).run Tryz.prog (w5.alloc (.cells #[sv X] 9)) = .ok (.slice A' (j + 1) c') w6) := HRUN
        clear hg5 hf5 hg6 hfr6 hlt6 hrun f5 hxm HRUN
        go_wp2_with (at_builtin; refine wpList_add rfl _ _ _ _ rfl _ _ _ _ rfl rfl (HW5.out _) ?_)
        obtain ⟨g1, rfl⟩ : ∃ g1, gk = g1 + 1 := ⟨gk - 1, by omega⟩
        go_roundg g1
        case rel => exact Lib.hid ⟨j + 1, by go_num, by omega, HF6.out, HG6.out⟩
        all_goals omega
      · have hji : (n : Int) ≤ (j : Int) := by omega
        obtain rfl : j = n := by omega
        have hrow2 := HG.out
        rw [← HLT.out] at hrow2
        have hrow3 := hrow2.row strG_elem
        rw [HLT.out, ← HL5.out, List.take_of_length_le (by rw [HN.out]; omega)] at hrow3
        have HC := Lib.hid (dlist_any wr hrow3 (by have := HJ.out; omega))
        have hJ2 := HJ.out
        have hv := HV0.out
        obtain ⟨J, hJe⟩ : ∃ J, jn (sets.map lstT) = J := ⟨_, rfl⟩
        rw [hJe] at HC hJ2 hv
        have a1 : ∀ w0, (Op.stringOp .add ⟨#[71, 82, 79, 85, 80, 73, 78, 71, 32, 83, 69, 84, 83, 40]⟩ ⟨J.toArray⟩).run Tryz.prog w0 = .ok (.string ⟨([71, 82, 79, 85, 80, 73, 78, 71, 32, 83, 69, 84, 83, 40] ++ J).toArray⟩) w0 := fun w0 => run_cat [71, 82, 79, 85, 80, 73, 78, 71, 32, 83, 69, 84, 83, 40] J (by unfold maxLen; simp; omega) w0
        have a2 : ∀ w0, (Op.stringOp .add ⟨([71, 82, 79, 85, 80, 73, 78, 71, 32, 83, 69, 84, 83, 40] ++ J).toArray⟩ ⟨#[41]⟩).run Tryz.prog w0 = .ok (.string ⟨([71, 82, 79, 85, 80, 73, 78, 71, 32, 83, 69, 84, 83, 40] ++ J ++ [41]).toArray⟩) w0 := fun w0 => run_cat _ [41] (by unfold maxLen; simp; omega) w0
        obtain ⟨X1, hX1⟩ : ∃ X, [71, 82, 79, 85, 80, 73, 78, 71, 32, 83, 69, 84, 83, 40] ++ J = X := ⟨_, rfl⟩
        rw [hX1] at a1 a2 hv
        obtain ⟨X2, hX2⟩ : ∃ X, X1 ++ [41] = X := ⟨_, rfl⟩
        rw [hX2] at a2 hv
        have HV := Lib.hid hv
        have HFE := Lib.hid hf
        clear hf hrow2 hrow3 hJe hJ2 hv hX1 hX2
        go_wp2_with fail
        refine HC.out.mono ?_
        rintro e w5 ⟨rfl, f5⟩
        have HF5 := Lib.hid (HFE.out.trans f5 fun _ _ h => h)
        clear f5
        go_wp2_with fail
        go_ret
        exact HEND.out _ _ _ HV.out rfl HF5.out
end Go.Proofs.YtkcnbmgaeompjaaGreatDoor
