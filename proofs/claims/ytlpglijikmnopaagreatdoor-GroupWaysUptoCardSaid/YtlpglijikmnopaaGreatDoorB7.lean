/- Same, may, Valid, New. -/
import Derived.Test.YtlpglijikmnopaaGreatDoorB6
import Derived.Laws.MakeOwn
namespace Go.Proofs.YtlpglijikmnopaaGreatDoor
open Go.RowKit Go.Maps Go.Sort
set_option linter.unusedVariables false

def sameA (a b : Ac) : Bool := decide (a.count = b.count) && decide (a.parts = b.parts)
theorem sameA_iff {a b : Ac} : sameA a b = true ↔ a = b := by
  unfold sameA
  rw [Bool.and_eq_true, decide_eq_true_eq, decide_eq_true_eq]
  exact ⟨fun h => Ac.ext h.1 h.2, fun h => by rw [h]; exact ⟨rfl, rfl⟩⟩
set_option maxRecDepth 100000 in
theorem same_any {K K2 : Nat → Prop} (c1 c2 : Int) (l m : List Pt) (v v2 : Value) (w : World) (h : PR K w v l) (h2 : PR K2 w v2 m) : Calls Tryz.prog 61 #[.agg #[.int .i64 c1, v], .agg #[.int .i64 c2, v2]] w (TellsB (sameA ⟨c1, l⟩ ⟨c2, m⟩) w) := by
  have HC : Hid (∀ w', Fr No w w' → Calls Tryz.prog 83 #[v, v2] w' (TellsB (decide (l = m)) w')) := Lib.hid fun w' f' => equal_any l m v v2 w' (h.no f') (h2.no f')
  obtain ⟨A, ca, rfl, ha1, ha2⟩ := h.form
  obtain ⟨B, cb, rfl, hb1, hb2⟩ := h2.form
  obtain ⟨N, hN⟩ : ∃ N, l.length = N := ⟨_, rfl⟩
  obtain ⟨M, hM⟩ : ∃ M, m.length = M := ⟨_, rfl⟩
  rw [hN, hM] at HC
  obtain ⟨d, hd⟩ : ∃ d, decide (l = m) = d := ⟨_, rfl⟩
  rw [hd] at HC
  rw [hN, hM]
  by_cases e : c1 = c2
  · subst e
    have HV : Hid (sameA ⟨c1, l⟩ ⟨c1, m⟩ = d) := Lib.hid (by unfold sameA; rw [decide_eq_true rfl, hd]; rfl)
    rw [HV.out]
    clear h h2 HV hd hN hM
    go_enter Tryz.func61, Tryz.ntmps61
    go_wp2_with (go_at_call 83; refine (HC.out _ (((Fr.refl No w).alloc _).alloc _)).mono ?_; rintro e w1 ⟨rfl, f1⟩; have HF1 := Lib.hid f1; clear f1)
    go_ret
    exact ⟨rfl, (((Fr.refl No w).alloc _).alloc _).trans HF1.out fun _ _ h => h⟩
  · have HV : Hid (sameA ⟨c1, l⟩ ⟨c2, m⟩ = false) := Lib.hid (by unfold sameA; rw [decide_eq_false e]; rfl)
    rw [HV.out]
    clear h h2 HV hd hN hM HC
    go_enter Tryz.func61, Tryz.ntmps61
    go_wp2_with fail
    go_ret
    exact ⟨rfl, ((Fr.refl No w).alloc _).alloc _⟩
theorem validA_all {c : Int} {l : List Pt} {m : Int} (h0 : 0 ≤ c) (hm : (l.length : Int) = m) : validA ⟨c, l⟩ m = l.all fun p => mayP p c := by
  unfold validA
  simp only
  rw [decide_eq_true h0, decide_eq_true hm]; rfl
theorem make37 (n : Nat) (hn : n ≤ 4) (w : World) : (Instr.makeSlice 46 (.int .i64 n) (.int .i64 n)).run Tryz.prog w = .ok (.slice (some ⟨w.heap.size, 0, none⟩) n n) (w.alloc (.cells (madeCells (ptA Pt.zero) (n * 5)) 88)) := by
  obtain ⟨i, hi, hz0, hz1, hz2⟩ := info_parts info46
  have h := run_make (P := Tryz.prog) w 46 88 i _ Tryz.underlying46 hi hz0 .i64 .i64 (n : Int) (n : Int) (by omega) (Int.le_refl _) (by rw [hz2]; omega) (by omega)
  rw [Int.toNat_natCast, hz1] at h
  exact h
theorem made_po (n : Nat) (hn : n ≤ 4) (w : World) : PO w.heap.size (w.alloc (.cells (madeCells (ptA Pt.zero) (n * 5)) 88)) (.slice (some ⟨w.heap.size, 0, none⟩) n n) (List.replicate n Pt.zero) := by
  refine .inr ⟨w.heap.size, n, _, by rw [List.length_replicate], by rw [List.length_replicate]; exact Nat.le_refl _, by unfold maxLen; omega, Nat.le_refl _, Blk.new w 88 _, fun j hj k hk => ?_⟩
  rw [List.length_replicate] at hj
  rw [List.getElem_replicate]
  have h1 : (madeCells (ptA Pt.zero) (n * 5))[j * 5 + k]? = some ((ptA Pt.zero)[(j * 5 + k) % 5]!) := by
    unfold madeCells
    rw [Array.getElem?_map, Array.getElem?_range, if_pos (by omega)]
    rfl
  rw [h1, show (j * 5 + k) % 5 = k by omega]
  have hk5 : k = 0 ∨ k = 1 ∨ k = 2 ∨ k = 3 ∨ k = 4 := by omega
  rcases hk5 with rfl | rfl | rfl | rfl | rfl <;> rfl
set_option maxRecDepth 100000 in
theorem new_any (m : Int) (w : World) : Calls Tryz.prog 37 #[.int .i64 m] w (TellsA (newA m) w) := by
  obtain ⟨k, hk⟩ : ∃ k : Nat, (min (max m 0) 4).toNat = k := ⟨_, rfl⟩
  have hk4 : k ≤ 4 := by omega
  obtain ⟨x, hx⟩ : ∃ x, max m 0 = x := ⟨_, rfl⟩
  have e1 : (if m < 0 then 0 else m) = x := by split <;> omega
  have e2 : (if 4 < x then 4 else x) = (k : Int) := by split <;> omega
  unfold newA
  rw [hk]
  obtain ⟨b, hb⟩ : ∃ b, w.heap.size = b := ⟨_, rfl⟩
  obtain ⟨w1, hw1⟩ : ∃ w1, w.alloc (.cells #[.int .i64 0, .slice none 0 0] 48) = w1 := ⟨_, rfl⟩
  have f1 : Fr No w w1 := by rw [← hw1]; exact (Fr.refl No w).alloc _
  have hbx : Blk w1 b 48 #[.int .i64 0, .slice none 0 0] := by rw [← hw1, ← hb]; exact Blk.new w 48 _
  have hmk := make37 k hk4 w1
  have hpo := made_po k hk4 w1
  obtain ⟨w2, hw2⟩ : ∃ w2, w1.alloc (.cells (madeCells (ptA Pt.zero) (k * 5)) 88) = w2 := ⟨_, rfl⟩
  rw [hw2] at hmk hpo
  obtain ⟨y, hy⟩ : ∃ y, w1.heap.size = y := ⟨_, rfl⟩
  rw [hy] at hmk hpo
  have f2 : Fr No w1 w2 := by rw [← hw2]; exact (Fr.refl No w1).alloc _
  obtain ⟨r0, r1, z0, z1⟩ := blk2 (hbx.no f2)
  have hyb : b + 1 = y := by rw [← hy, ← hw1, ← hb]; simp
  have HPO := Lib.hid hpo
  have HF := Lib.hid (f1.trans f2 fun _ _ h => h)
  have HW1 := Lib.hid hw1
  have HB := Lib.hid hb
  have HY := Lib.hid hyb
  clear hk hx hb hw1 f1 hbx hpo hw2 hy f2 hyb
  go_enter Tryz.func37, Tryz.ntmps37
  go_upto_region 1 with fail
  rw [HW1.out, HB.out]
  go_wp2_with fail
  refine bodyPost_ret (v := .agg #[.int .i64 0, .slice (some ⟨y, 0, none⟩) k k]) (by simp [results, Tryz.results37, go_sem, r0, r1]) rfl ⟨_, rfl, ?_, ?_⟩
  · have h1 := HB.out
    have h2 := HY.out
    exact ((HPO.out.set_low (by omega) _).set_low (by omega) _).low (by omega)
  · have hbb : w.heap.size ≤ b := by have := HB.out; omega
    refine Fr.set_new (Fr.set_new ?_ hbb _) hbb _
    exact HF.out
end Go.Proofs.YtlpglijikmnopaaGreatDoor
