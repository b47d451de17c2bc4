/- A writer lays down rows: texts, numbers, cells, facts; a schema. -/
import Derived.Test.YtjhjcdfhfjeogaaB3
namespace Go.Proofs.Ytjhjcdfhfjeogaa
open Go.RowKit Go.Maps
set_option linter.unusedVariables false

/-! ### behind the first error nothing more is laid down -/
theorem WS.lay_stop {S : WS} (h : S.fault ≠ 0) (m : List UInt8) : S.lay m = S := by unfold WS.lay; rw [if_neg h]
theorem WS.fail_stop {S : WS} (h : S.fault ≠ 0) (n : Int) : S.fail n = S := by unfold WS.fail; rw [if_neg h]
theorem WS.count_stop {S : WS} (h : S.fault ≠ 0) (n : Int) : S.count n = S := by unfold WS.count; split; exact WS.fail_stop h _; exact WS.lay_stop h _
theorem WS.text_stop {S : WS} (h : S.fault ≠ 0) (m : List UInt8) : S.text m = S := by unfold WS.text; rw [WS.count_stop h, WS.lay_stop h]
theorem WS.int_stop {S : WS} (h : S.fault ≠ 0) (n : Int) : S.int n = S := WS.lay_stop h _
theorem WS.byte_stop {S : WS} (h : S.fault ≠ 0) (n : Nat) : S.byte n = S := WS.lay_stop h _
theorem WS.cell_stop {S : WS} (h : S.fault ≠ 0) (c : CellP) : S.cell c = S := by
  unfold WS.cell
  rw [WS.byte_stop h, WS.byte_stop h, WS.byte_stop h, WS.fail_stop h, WS.int_stop h, WS.text_stop h]
  split <;> (try split) <;> (try split) <;> rfl
theorem fold_stop {α : Type} (f : WS → α → WS) (hf : ∀ S x, S.fault ≠ 0 → f S x = S) {S : WS} (h : S.fault ≠ 0) : ∀ l : List α, l.foldl f S = S
  | [] => rfl
  | x :: l => by rw [List.foldl_cons, hf S x h]; exact fold_stop f hf h l
/-- A row laid down. -/
def WS.row {α : Type} (f : WS → α → WS) (S : WS) (l : List α) : WS := l.foldl f (S.count l.length)
theorem row_stop {α : Type} (f : WS → α → WS) (hf : ∀ S x, S.fault ≠ 0 → f S x = S) {S : WS} (h : S.fault ≠ 0) (l : List α) : S.row f l = S := by
  unfold WS.row; rw [WS.count_stop h]; exact fold_stop f hf h l
/-- what is left of a row once it was stopped -/
theorem row_cut {α : Type} (f : WS → α → WS) (hf : ∀ S x, S.fault ≠ 0 → f S x = S) (S : WS) (l : List α) (j : Nat) (h : ((l.take j).foldl f (S.count l.length)).fault ≠ 0) : S.row f l = (l.take j).foldl f (S.count l.length) := by
  unfold WS.row
  conv => lhs; rw [← List.take_append_drop j l]
  rw [List.foldl_append, fold_stop f hf (by simpa using h)]
  simp
theorem fold_snoc {α : Type} (f : WS → α → WS) (S : WS) (l : List α) (j : Nat) (h : j < l.length) : (l.take (j + 1)).foldl f S = f ((l.take j).foldl f S) l[j] := by
  rw [List.take_succ_eq_append_getElem h, List.foldl_append]; rfl

/-- Blocks that were there, and are none of the writer's. -/
def Off (p : Option Nat) (v : Value) (w : World) (K : Nat → Prop) : Prop := ∀ k, K k → k < w.heap.size ∧ ¬ WFt p v k
theorem Off.wl {p : Option Nat} {v v1 : Value} {w w1 : World} {K : Nat → Prop} (h : Off p v w K) (l : WL p v w v1 w1) : Off p v1 w1 K := fun k hk => by
  obtain ⟨h1, h2⟩ := h k hk
  refine ⟨Nat.lt_of_lt_of_le h1 l.fr.size, fun e => ?_⟩
  rcases e with e | e
  · exact h2 (.inl e)
  · rcases l.own k e with e' | e'
    · exact h2 (.inr e')
    · omega
theorem Off.same {p : Option Nat} {v v1 : Value} {w w1 : World} {K : Nat → Prop} (h : Off p v w K) (l : WL p v w v1 w1) : ∀ k, K k → w1.heap[k]? = w.heap[k]? := fun k hk => l.fr.block k (h k hk).1 (h k hk).2

set_option maxRecDepth 100000 in
set_option maxHeartbeats 1000000 in
theorem wtexts_row (p : Option Nat) (v : Value) (S : WS) (K : Nat → Prop) (vl : Value) (l : List (List UInt8)) (w : World) (h : WAt w p v S) (hr : RowE K w 1 strE vl l) (hk : Off p v w K) :
    Calls Try.prog 83 #[wpt p, vl, .func (.func 35) #[wpt p] #[]] w (WP p v w (S.row WS.text l)) := by
  obtain ⟨A, c, rfl, hm, hel⟩ := hr
  have HC := Lib.hid (wcount_any p v S (l.length : Int) w h)
  have HK := Lib.hid hk
  have HE := Lib.hid hel
  unfold maxLen at hm
  clear h hk hel
  obtain ⟨n, hn⟩ : ∃ n, l.length = n := ⟨_, rfl⟩
  rw [hn] at hm
  have HN := Lib.hid hn
  have hcs : Hid (S.count (l.length : Int) = S.count (n : Int)) := Lib.hid (by rw [hn])
  rw [hn] at HC ⊢
  clear hn
  generalize hP : wpt p = P at *
  have HP := Lib.hid hP
  clear hP
  go_enter Try.func83, Try.ntmps83
  go_wp2_with fail
  refine HC.out.mono ?_
  rintro e w1 ⟨rfl, v1, h1, l1⟩
  have H1 := Lib.hid h1
  have L1 := Lib.hid l1
  clear h1 l1
  go_wp2
  go_loopw [14] (fun i wr => ∃ j : Nat, ∃ v2, j ≤ n ∧ i = .int .i64 j ∧ WAt wr p v2 ((l.take j).foldl WS.text (S.count n)) ∧ WL p v w v2 wr) (fun i _ => n - (intOf i).toNat)
  case atStart => exact ⟨0, v1, by omega, rfl, H1.out, L1.out⟩
  case round =>
    obtain ⟨j, v2, hj, rfl, h2, l2⟩ := hrel
    by_cases hlt : j < n
    · have hjl : j < l.length := by rw [HN.out]; exact hlt
      obtain ⟨g, off, rfl, hg, hcell⟩ := HE.out (by omega)
      obtain ⟨cs, hlen, hcs2, rfl, hmx⟩ := hcell j hjl
      have hc : _ = some (sv l[j]) := (cell_of_heap ((HK.out.same l2) g hg)).trans (hcs2 0 (by omega))
      simp only [Nat.mul_one, Nat.add_zero] at hc
      have H2 := Lib.hid h2
      have L2 := Lib.hid l2
      have HM := Lib.hid hmx
      clear hcell hcs2 h2 l2 hlen hmx
      by_cases hz : ((l.take j).foldl WS.text (S.count n)).fault = 0
      · have HZ := Lib.hid hz
        clear hz
        go_wp2_with fail
        rw [← HP.out]
        refine (wstop_no p v2 _ _ H2.out HZ.out).mono ?_
        rintro e w' ⟨rfl, rfl⟩
        go_wp2_with fail
        refine (wtext_any p v2 _ l[j] _ H2.out HM.out).mono ?_
        rintro e w3 ⟨rfl, v3, h3, l3⟩
        have H3 := Lib.hid h3
        have L3 := Lib.hid l3
        clear h3 l3
        rw [HP.out]
        go_wp2
        go_roundw
        case rel => exact ⟨j + 1, v3, by omega, by go_num, by rw [fold_snoc _ _ _ _ hjl]; exact H3.out, L2.out.trans L3.out⟩
        case measure => simp [intOf]; omega
      · have HZ := Lib.hid hz
        clear hz
        go_wp2_with fail
        rw [← HP.out]
        refine (wstop_yes p v2 _ _ H2.out HZ.out).mono ?_
        rintro e w' ⟨rfl, rfl⟩
        go_wp2
        refine bodyPost_ret (results_none rfl _ _ _) rfl ?_
        exact ⟨rfl, v2, by rw [row_cut WS.text (fun _ _ h => WS.text_stop h _) S l j (by rw [hcs.out]; exact HZ.out), hcs.out]; exact H2.out, L2.out⟩
    · obtain rfl : j = n := by omega
      have H2 := Lib.hid h2
      have L2 := Lib.hid l2
      clear h2 l2
      go_wp2
      go_end0
      exact ⟨rfl, v2, by unfold WS.row; rw [hcs.out, ← HN.out]; have := H2.out; rw [← HN.out, List.take_length] at this; exact this, L2.out⟩
end Go.Proofs.Ytjhjcdfhfjeogaa
