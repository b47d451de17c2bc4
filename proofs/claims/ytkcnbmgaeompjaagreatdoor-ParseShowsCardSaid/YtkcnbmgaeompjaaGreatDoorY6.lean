/- The document's Show: items, values. -/
import Derived.Test.YtkcnbmgaeompjaaGreatDoorY5
import Derived.Deep.DeepCutAuto
namespace Go.Proofs.YtkcnbmgaeompjaaGreatDoor
open Go.RowKit Go.Maps
set_option linter.unusedVariables false

def fourT : List Tx := [[83, 85, 77], [77, 73, 78], [77, 65, 88], [71, 82, 79, 85, 80, 73, 78, 71]]
set_option maxRecDepth 100000 in
theorem ditem_any (x : It) (w : World) (h : rightI x = true) : Calls Tryz.prog 35 #[.agg #[.int .i64 x.kind, sv x.col]] w (TellsT (itemT x) w) := by
  obtain ⟨k, t⟩ := x
  simp only
  obtain ⟨w1, hw1⟩ : ∃ w1, w.alloc (.cells #[.int .i64 k, sv t] 45) = w1 := ⟨_, rfl⟩
  obtain ⟨y, hy⟩ : ∃ y, w.heap.size = y := ⟨_, rfl⟩
  have f1 : Fr No w w1 := by rw [← hw1]; exact (Fr.refl No w).alloc _
  have hb : Blk w1 y 45 #[.int .i64 k, sv t] := by rw [← hw1, ← hy]; exact Blk.new w 45 _
  obtain ⟨w2, hw2⟩ : ∃ w2, w1.alloc (.cells #[sv [83, 85, 77], sv [77, 73, 78], sv [77, 65, 88], sv [71, 82, 79, 85, 80, 73, 78, 71]] 9) = w2 := ⟨_, rfl⟩
  have s1 : w1.heap.size = y + 1 := by rw [← hw1, ← hy]; simp
  have f2 : Fr No w1 w2 := by rw [← hw2]; exact (Fr.refl No w1).alloc _
  have hb2 : Blk w2 (y + 1) 9 #[sv [83, 85, 77], sv [77, 73, 78], sv [77, 65, 88], sv [71, 82, 79, 85, 80, 73, 78, 71]] := by rw [← hw2, ← s1]; exact Blk.new w1 9 _
  have hb1 := hb.of (f2.block y hb.lt id)
  have c0 : w2.cell? ⟨y, 0, none⟩ = some (.int .i64 k) := hb1.cell 0
  have c1 : w2.cell? ⟨y, 1, none⟩ = some (sv t) := hb1.cell 1
  have HCELL : Hid (∀ m, m < 4 → w2.cell? ⟨y + 1, m, none⟩ = some (sv (fourT.getD m []))) := Lib.hid fun m hm => by
    rw [hb2.cell m]
    match m, hm with
    | 0, _ => rfl
    | 1, _ => rfl
    | 2, _ => rfl
    | 3, _ => rfl
  have HF2 := Lib.hid (f1.trans f2 fun _ _ h => h)
  have HW1 := Lib.hid hw1
  have HW2 := Lib.hid hw2
  have HS1 := Lib.hid s1
  have HY := Lib.hid hy
  have HT : Hid (k = 2 ∨ t.length ≤ 32) := Lib.hid (by
    unfold rightI at h
    simp only at h
    split at h
    · exact .inl ‹_›
    · simp only [Bool.and_eq_true] at h
      have := h.2
      unfold isNameB at this
      simp at this
      exact .inr this.2)
  have hk : 1 ≤ k ∧ k ≤ 6 := by
    unfold rightI at h
    simp only at h
    split at h
    · omega
    · simp only [Bool.and_eq_true, decide_eq_true_eq] at h
      exact h.1
  clear f1 hb hw1 hy h f2 hb2 hb1 hw2 s1
  go_enter Tryz.func35, Tryz.ntmps35
  go_upto_region 1 with fail
  rw [HW1.out, HY.out]
  go_upto_region 2 with fail
  rw [HS1.out, HW2.out]
  by_cases k1 : k = 1
  · subst k1
    go_wp2_with fail
    go_ret
    exact ⟨by rw [itemT1]; rfl, HF2.out⟩
  · by_cases k2 : k = 2
    · subst k2
      go_wp2_with fail
      go_ret
      exact ⟨by rw [itemT2]; rfl, HF2.out⟩
    · have k1' : (k == 1) = false := by simpa using k1
      have k2' : (k == 2) = false := by simpa using k2
      obtain ⟨m, rfl⟩ : ∃ m : Nat, k = (m : Int) + 3 := ⟨(k - 3).toNat, by omega⟩
      have hm4 : (m : Int) < 4 := by omega
      have hm0 : (0 : Int) ≤ (m : Int) := by omega
      have hwr : IntKind.i64.wrap ((m : Int) + 3 - 3) = (m : Int) := by rw [IntWalk.i64_in _ (by omega)]; omega
      have hwr2 : IntKind.i64.wrap (m : Int) = (m : Int) := IntWalk.i64_in _ (by omega)
      have gq := HCELL.out m (by omega)
      obtain ⟨T, hT⟩ : ∃ T, fourT.getD m [] = T := ⟨_, rfl⟩
      have hTl : T.length ≤ 8 := by
        rw [← hT]
        have : ∀ q, q < 4 → (fourT.getD q []).length ≤ 8 := by decide
        exact this m (by omega)
      have hTc : callsT.getD (m + 3) [] = T := by
        rw [← hT]
        have : ∀ q, q < 4 → callsT.getD (q + 3) [] = fourT.getD q [] := by decide
        exact this m (by omega)
      rw [hT] at gq
      have ht : t.length ≤ 32 := HT.out.resolve_left k2
      have a1 : ∀ w0, (Op.stringOp .add ⟨T.toArray⟩ ⟨#[40]⟩).run Tryz.prog w0 = .ok (.string ⟨(T ++ [40]).toArray⟩) w0 := fun w0 => run_cat T [40] (by unfold maxLen; simp; omega) w0
      have a2 : ∀ w0, (Op.stringOp .add ⟨(T ++ [40]).toArray⟩ ⟨t.toArray⟩).run Tryz.prog w0 = .ok (.string ⟨(T ++ [40] ++ t).toArray⟩) w0 := fun w0 => run_cat _ t (by unfold maxLen; simp; omega) w0
      have a3 : ∀ w0, (Op.stringOp .add ⟨(T ++ [40] ++ t).toArray⟩ ⟨#[41]⟩).run Tryz.prog w0 = .ok (.string ⟨(T ++ [40] ++ t ++ [41]).toArray⟩) w0 := fun w0 => run_cat _ [41] (by unfold maxLen; simp; omega) w0
      obtain ⟨X1, hX1⟩ : ∃ X, T ++ [40] = X := ⟨_, rfl⟩
      rw [hX1] at a1 a2 a3
      obtain ⟨X2, hX2⟩ : ∃ X, X1 ++ t = X := ⟨_, rfl⟩
      rw [hX2] at a2 a3
      obtain ⟨X3, hX3⟩ : ∃ X, X2 ++ [41] = X := ⟨_, rfl⟩
      rw [hX3] at a3
      have HV : Hid (itemT ⟨(m : Int) + 3, t⟩ = X3) := Lib.hid (by rw [itemTn k1 k2, ← hX3, ← hX2, ← hX1, ← hTc]; rfl)
      clear hT hX1 hX2 hX3 hTl ht hTc
      go_upto_region 7 with fail
      go_region
      all_goals
        go_wp2_with fail
        go_ret
        exact ⟨by rw [HV.out]; rfl, HF2.out.drew⟩
set_option maxRecDepth 100000 in
theorem dvalueT_any (v : Vl) (w : World) (hp : Pv w) (h : rightV v = true) (hf : i64 v.int) : Calls Tryz.prog 89 #[.agg #[.bool v.isText, sv v.text, .int .i64 v.int]] w (TellsT (valT v) w) := by
  obtain ⟨it, t, n⟩ := v
  simp only at hf ⊢
  obtain ⟨w1, hw1⟩ : ∃ w1, w.alloc (.cells #[.bool it, sv t, .int .i64 n] 47) = w1 := ⟨_, rfl⟩
  obtain ⟨y, hy⟩ : ∃ y, w.heap.size = y := ⟨_, rfl⟩
  have f1 : Fr No w w1 := by rw [← hw1]; exact (Fr.refl No w).alloc _
  have hb : Blk w1 y 47 #[.bool it, sv t, .int .i64 n] := by rw [← hw1, ← hy]; exact Blk.new w 47 _
  have c0 : w1.cell? ⟨y, 0, none⟩ = some (.bool it) := hb.cell 0
  have c1 : w1.cell? ⟨y, 1, none⟩ = some (sv t) := hb.cell 1
  have c2 : w1.cell? ⟨y, 2, none⟩ = some (.int .i64 n) := hb.cell 2
  have HPV := Lib.hid (hp.no f1)
  have HF1 := Lib.hid f1
  have HW1 := Lib.hid hw1
  have HY := Lib.hid hy
  clear f1 hb hw1 hy hp
  cases it with
  | true =>
    have ht : t.length ≤ 64 := by
      unfold rightV at h
      simp at h
      exact h.1
    have HC := Lib.hid (refQuote_any ⟨t.toArray⟩ w1 (by rw [sz]; omega))
    have HV : Hid (valT ⟨true, t, n⟩ = quoteB t) := Lib.hid (valT_text _ rfl)
    clear h
    go_enter Tryz.func89, Tryz.ntmps89
    go_upto_region 1 with fail
    rw [HW1.out, HY.out]
    go_wp2_with fail
    refine HC.out.mono ?_
    rintro e w2 ⟨rfl, rfl⟩
    go_wp2_with fail
    go_ret
    exact ⟨by rw [HV.out]; rfl, HF1.out⟩
  | false =>
    have HC := Lib.hid (Tryz.strconv_FormatInt_10 n hf.1 hf.2 w1 HPV.out.p10)
    have HV : Hid (valT ⟨false, t, n⟩ = Lib.itoa n) := Lib.hid (valT_int _ rfl)
    clear h hf
    go_enter Tryz.func89, Tryz.ntmps89
    go_upto_region 1 with fail
    rw [HW1.out, HY.out]
    go_wp2_with fail
    refine HC.out.mono ?_
    rintro e w2 ⟨rfl, k, os, rfl⟩
    have HF2 : Hid (Fr No w (Go.Sort.grow (w1.drewN k) os)) := Lib.hid (HF1.out.trans (((Fr.refl No w1).drewN k).trans (fr_grow0 _ os) fun _ _ h => h) fun _ _ h => h)
    go_wp2_with fail
    go_ret
    exact ⟨by rw [HV.out]; rfl, HF2.out⟩
end Go.Proofs.YtkcnbmgaeompjaaGreatDoor
