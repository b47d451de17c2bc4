/- The document's bytes: counts, texts, facts. -/
import Derived.Test.YtjhjcdfhfjeogaaG3
import Derived.Lib.QuietBelow
namespace Go.Proofs.Ytjhjcdfhfjeogaa
open Go.RowKit Go.Maps Go.Sort
set_option linter.unusedVariables false

theorem mixed : Try.prog.follows .mixedOrders = true := by kernel_rfl
def Told (l : List UInt8) (w : World) (e : Ending) (w' : World) : Prop := e = .returned (sv l) ∧ Below w.heap.size w w'
theorem dcount_any (n : Nat) (hn : n < 2 ^ 63) (w : World) : Calls Try.prog 56 #[.int .i64 (n : Int)] w (Told (low n 4) w) := by
  have HL := Lib.hid (Num_any n 4 w (by omega) (by omega))
  have hu : IntKind.u64.wrap (n : Int) = (n : Int) := by rw [IntKind.wrap_u64]; omega
  clear hn
  go_enter Try.func56, Try.ntmps56
  go_wp2_with (go_at_call 40; refine HL.out.mono ?_; rintro e w1 ⟨rfl, hb1⟩)
  go_ret
  exact ⟨rfl, hb1⟩
theorem dtext_any (s : List UInt8) (hs : s.length ≤ 4611686018427387904) (w : World) : Calls Try.prog 53 #[sv s] w (Told (bText s) w) := by
  have HC := Lib.hid (dcount_any s.length (by omega) w)
  unfold Told at HC
  have HB : Hid (bText s = low s.length 4 ++ s) := Lib.hid rfl
  obtain ⟨A, hA⟩ : ∃ A, low s.length 4 = A := ⟨_, rfl⟩
  have hla : A.length = 4 := by rw [← hA, low_len]
  have hcat : ∀ w0, (Op.stringOp .add ⟨A.toArray⟩ ⟨s.toArray⟩).run Try.prog w0 = .ok (.string ⟨(A ++ s).toArray⟩) w0 := fun w0 => run_cat _ _ (by omega) w0
  rw [hA] at HC HB
  obtain ⟨X, hX⟩ : ∃ X, A ++ s = X := ⟨_, rfl⟩
  rw [hX] at HB hcat
  clear hA hla hX
  go_enter Try.func53, Try.ntmps53
  go_wp2_with (go_at_call 56; refine HC.out.mono ?_; rintro e w1 ⟨rfl, hb1⟩; have B1 := Lib.hid hb1; clear hb1)
  go_ret
  exact ⟨by rw [HB.out]; rfl, B1.out⟩
theorem flat_snoc {α : Type} (b : α → List UInt8) (l : List α) (j : Nat) (h : j < l.length) : (l.take (j + 1)).flatMap b = (l.take j).flatMap b ++ b l[j] := by
  rw [List.take_succ_eq_append_getElem h, List.flatMap_append]; simp
theorem flat_pre {α : Type} (b : α → List UInt8) (l : List α) (j : Nat) : ((l.take j).flatMap b).length ≤ (l.flatMap b).length := by
  conv => rhs; rw [← List.take_append_drop j l]
  rw [List.flatMap_append, List.length_append]; omega
theorem flat_one {α : Type} (b : α → List UInt8) (l : List α) (j : Nat) (h : j < l.length) : (b l[j]).length ≤ (l.flatMap b).length := by
  have h1 := flat_pre b l (j + 1)
  rw [flat_snoc b l j h, List.length_append] at h1
  omega
theorem row_bound {α : Type} (b : α → List UInt8) (l : List α) : (l.flatMap b).length ≤ (bRow b l).length := by unfold bRow; rw [List.length_append]; omega
set_option maxRecDepth 100000 in
set_option maxHeartbeats 1000000 in
theorem dtexts_any (vl : Value) (l : List (List UInt8)) (w : World) (hr : RowE (fun k => k < w.heap.size) w 1 strE vl l) (hb : (bRow bText l).length ≤ 1152921504606846976) : Calls Try.prog 54 #[vl] w (Told (bRow bText l) w) := by
  obtain ⟨A, c, rfl, hm, hel⟩ := hr
  have HE := Lib.hid hel
  unfold maxLen at hm
  have HC := Lib.hid (dcount_any l.length (by omega) w)
  unfold Told at HC
  have hfl := row_bound bText l
  obtain ⟨n, hn⟩ : ∃ n, l.length = n := ⟨_, rfl⟩
  rw [hn] at hm HC
  have HN := Lib.hid hn
  have HFL := Lib.hid hfl
  have HBD := Lib.hid hb
  rw [hn]
  clear hn hel hfl hb
  go_enter Try.func54, Try.ntmps54
  go_wp2_with fail
  refine HC.out.mono ?_
  rintro e w1 ⟨rfl, hb1⟩
  have B1 := Lib.hid hb1
  clear hb1
  go_wp2
  go_loopw [3, 4] (fun x i wr => ∃ j : Nat, ∃ X, j ≤ n ∧ i = .int .i64 j ∧ x = sv X ∧ X = low n 4 ++ (l.take j).flatMap bText ∧ Below w.heap.size w wr) (fun _ i _ => n - (intOf i).toNat)
  case atStart => exact ⟨0, _, by omega, rfl, rfl, by simp, B1.out⟩
  case round =>
    obtain ⟨j, X, hj, rfl, rfl, hX, hbw⟩ := hrel
    have HX := Lib.hid hX
    have HB := Lib.hid hbw
    clear hX hbw
    by_cases hlt : j < n
    · have hjl : j < l.length := by rw [HN.out]; exact hlt
      obtain ⟨g, off, rfl, hg, hcell⟩ := HE.out (by omega)
      obtain ⟨cs, hlen, hcs2, rfl, hmx⟩ := hcell j hjl
      have hc : _ = some (sv l[j]) := (cell_of_heap (HB.out.block g hg)).trans (hcs2 0 (by omega))
      simp only [Nat.mul_one, Nat.add_zero] at hc
      have h1 := flat_pre bText l j
      have h2 := flat_one bText l j hjl
      have h3 := HFL.out
      have h4 := HBD.out
      have hxl : X.length ≤ 1152921504606846980 := by rw [HX.out, List.length_append, low_len]; omega
      have hsl : l[j].length ≤ 1152921504606846976 := by
        have : (bText l[j]).length = 4 + l[j].length := by unfold bText; rw [List.length_append, low_len]
        omega
      have hcat : ∀ w0, (Op.stringOp .add ⟨X.toArray⟩ ⟨(bText l[j]).toArray⟩).run Try.prog w0 = .ok (.string ⟨(X ++ bText l[j]).toArray⟩) w0 := fun w0 => run_cat _ _ (by omega) w0
      have HT := Lib.hid (dtext_any l[j] (by omega))
      have HQ : Hid (X ++ bText l[j] = low n 4 ++ (l.take (j + 1)).flatMap bText) := Lib.hid (by rw [flat_snoc bText l j hjl, HX.out, List.append_assoc])
      unfold Told at HT
      generalize bText l[j] = T at *
      generalize l[j] = s at *
      generalize X ++ T = Y at *
      clear h1 h2 h3 h4 hxl hsl hcell hcs2 hlen hmx
      go_wp2_with (go_at_call 53; refine (HT.out _).mono ?_; rintro e w3 ⟨rfl, hb3⟩; have B3 := Lib.hid (HB.out.trans (hb3.mono HB.out.size)); clear hb3)
      go_roundw
      case rel => exact ⟨j + 1, Y, by omega, by go_num, rfl, HQ.out, B3.out⟩
      case measure => simp [intOf]; omega
    · obtain rfl : j = n := by omega
      go_wp2
      go_ret
      exact ⟨by rw [HX.out, ← HN.out, List.take_length]; rfl, HB.out⟩
end Go.Proofs.Ytjhjcdfhfjeogaa
