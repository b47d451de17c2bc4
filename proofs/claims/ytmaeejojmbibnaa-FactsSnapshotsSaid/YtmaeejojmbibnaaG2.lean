/- count: how many places of a column have a number; pieces: segment by segment. -/
import Derived.Test.YtmaeejojmbibnaaF9
import Derived.Deep.RegionHeld3
namespace Go.Proofs.Ytmaeejojmbibnaa
open Go.RowKit Go.Maps
set_option linter.unusedVariables false

/-- A column's cells. -/
def carr (c : Nat → Nat) : Array Value := ((List.range 256).map fun j => Value.int .u16 (c j : Nat)).toArray
theorem carr_size (c : Nat → Nat) : (carr c).size = 256 := by simp [carr]
theorem carr_at (c : Nat → Nat) {j : Nat} (h : j < 256) : (carr c)[j]? = some (.int .u16 (c j : Nat)) := by
  simp [carr, h]
/-- How many of the places from lo on, k of them, have v. -/
def cntN (c : Nat → Nat) (v lo k : Nat) : Nat := ((List.range k).map fun j => if c (lo + j) = v then 1 else 0).sum
theorem cntN_succ (c : Nat → Nat) (v lo k : Nat) : cntN c v lo (k + 1) = cntN c v lo k + if c (lo + k) = v then 1 else 0 := by
  simp [cntN, List.range_succ]
theorem cntN_le (c : Nat → Nat) (v lo k : Nat) : cntN c v lo k ≤ k := by
  induction k with
  | zero => simp [cntN]
  | succ k ih => rw [cntN_succ]; split <;> omega
theorem slice83 (bx lo hi : Nat) (h1 : lo ≤ hi) (h2 : hi ≤ 256) : ∃ off, (lo < hi → off = lo) ∧ ∀ wx : World, (Instr.sliceAt 83 (.pointer (some ⟨bx, 0, none⟩)) (some (.int .i64 lo)) (some (.int .i64 hi)) none).run Try.prog wx = .ok (.slice (some ⟨bx, off, none⟩) (hi - lo) (256 - lo)) wx := by
  have hal : Try.prog.arrayLen 83 = 256 := by kernel_rfl
  have hel : Try.prog.elem 83 = 81 := by kernel_rfl
  have hu : Try.prog.underlying 83 = some (.array (Try.prog.arrayLen 83) (Try.prog.elem 83)) := by kernel_rfl
  have hr := fun wx : World => run_sliceAt_array_lh (P := Try.prog) wx 83 ⟨bx, 0, none⟩ hu .i64 .i64 (lo : Int) (hi : Int) (by omega) (by omega) (by rw [hal]; omega)
  refine ⟨if 256 = lo then 0 else lo, fun h => by rw [if_neg (by omega)], fun wx => (hr wx).trans ?_⟩
  rw [hel, Try.sizeOf81]
  show Result.ok (slicedAt _ _ _ (Try.prog.arrayLen 83) 1) wx = _
  rw [hal]
  unfold slicedAt
  rw [Int.toNat_natCast, Int.toNat_natCast]
  by_cases e : 256 = lo
  · rw [if_pos e, if_pos e]
  · rw [if_neg e, if_neg e]
    rw [Addr.add_mid, Nat.zero_add, Nat.mul_one]
section
variable (w : World)
set_option maxRecDepth 100000 in
set_option maxHeartbeats 2000000 in
theorem count_any (c : Nat → Nat) (hc : ∀ j, c j < 65536) (v lo hi : Nat) (h1 : lo ≤ hi) (h2 : hi ≤ 256) (hv : v < 65536) :
    Calls Try.prog 46 #[.agg (carr c), .int .i64 v, .int .i64 lo, .int .i64 hi] w fun e w' => e = .returned (.int .i64 (cntN c v lo (hi - lo) : Nat)) ∧ Fr No w w' := by
  obtain ⟨w0, hw0⟩ : ∃ w0, w.alloc (.cells (carr c) 83) = w0 := ⟨_, rfl⟩
  obtain ⟨bx, hbx⟩ : ∃ bx, w.heap.size = bx := ⟨_, rfl⟩
  have f0 : Fr No w w0 := by rw [← hw0]; exact (Fr.refl _ w).alloc _
  have hb0 : Blk w0 bx 83 (carr c) := by rw [← hw0, ← hbx]; exact Blk.new w 83 _
  obtain ⟨off, hoff, hsl⟩ := slice83 bx lo hi h1 h2
  obtain ⟨k, hk⟩ : ∃ k, hi - lo = k := ⟨_, rfl⟩
  have HK := Lib.hid hk
  have HOFF := Lib.hid hoff
  rw [hk] at hsl ⊢
  have hk256 : k ≤ 256 := by omega
  have hlk : lo + k ≤ 256 := by omega
  have HW0 := Lib.hid hw0
  have HBX := Lib.hid hbx
  have HF0 := Lib.hid f0
  have HB0 := Lib.hid hb0
  have HC := Lib.hid hc
  clear hw0 hbx f0 hb0 hc hk hoff
  obtain ⟨cp, hcp⟩ : ∃ cp, 256 - lo = cp := ⟨_, rfl⟩
  rw [hcp] at hsl
  clear hcp
  generalize hCA : carr c = CA at *
  have HCA := Lib.hid hCA
  clear hCA
  go_enter Try.func46, Try.ntmps46
  go_upto_region 2 with fail
  rw [HW0.out, HBX.out]
  go_wp2
  go_loopw [9, 16] (fun cv iv wr => ∃ j : Nat, j ≤ k ∧ iv = .int .i64 j ∧ cv = .int .i64 (cntN c v lo j : Nat) ∧ wr = w0) (fun _ iv _ => k - (intOf iv).toNat)
  case atStart => exact ⟨0, by omega, rfl, by simp [cntN], rfl⟩
  case round =>
    obtain ⟨j, hj, rfl, rfl, rfl⟩ := hrel
    by_cases hlt : j < k
    · obtain rfl : off = lo := HOFF.out (by have := HK.out; omega)
      have hcell : wr.cell? ⟨bx, off + j, none⟩ = some (.int .u16 (c (off + j) : Nat)) := by rw [HB0.out.cell, ← HCA.out]; exact carr_at c (by omega)
      have hcl := HC.out (off + j)
      have hle := cntN_le c v off j
      have HS := Lib.hid (cntN_succ c v off j)
      generalize c (off + j) = x at *
      generalize cntN c v off j = y at *
      by_cases hx : x = v
      · have hq : ((x : Int) == (v : Int)) = true := by simp [hx]
        have HS2 : Hid (cntN c v off (j + 1) = y + 1) := Lib.hid (by rw [HS.out, if_pos hx])
        clear hx HS
        go_wp2
        go_roundw
        case rel => exact ⟨j + 1, by omega, by go_num, by rw [HS2.out]; go_num, by first | rfl | trivial⟩
        case measure => simp [intOf]; omega
      · have hq : ((x : Int) == (v : Int)) = false := by simp; omega
        have HS2 : Hid (cntN c v off (j + 1) = y) := Lib.hid (by rw [HS.out, if_neg hx, Nat.add_zero])
        clear hx HS
        go_wp2
        go_roundw
        case rel => exact ⟨j + 1, by omega, by go_num, by rw [HS2.out], by first | rfl | trivial⟩
        case measure => simp [intOf]; omega
    · obtain rfl : j = k := by omega
      go_wp2
      go_ret
      exact ⟨rfl, HF0.out⟩
end
end Go.Proofs.Ytmaeejojmbibnaa
