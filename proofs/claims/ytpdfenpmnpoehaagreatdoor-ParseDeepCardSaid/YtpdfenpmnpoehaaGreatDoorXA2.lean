/- Leaves: kinds of bytes, runs, keywords. -/
import Derived.Test.YtpdfenpmnpoehaaGreatDoorXA1
namespace Go.Proofs.YtpdfenpmnpoehaaGreatDoor
open Go.RowKit Go.Maps
set_option linter.unusedVariables false

def kwN (k : Nat) : Tx := kws.getD k []
theorem kwN_mem : ∀ k, k < 17 → kwN k ∈ kws := by decide +kernel
theorem mem_kwN {t : Tx} (h : t ∈ kws) : ∃ k, k < 17 ∧ kwN k = t := by
  obtain ⟨k, hk, e⟩ := List.mem_iff_getElem.1 h
  refine ⟨k, hk, ?_⟩
  unfold kwN
  rw [List.getD_eq_getElem?_getD, List.getElem?_eq_getElem hk, e]; rfl
/-- The program's tables, and a number of the library's that may be any. -/
structure Lr (w : World) : Prop where
  kinds : ∀ b : UInt8, b.toNat < 128 → w.cell? ⟨1, b.toNat, none⟩ = some (.int .u8 (kindB b : Nat))
  kws : ∀ k, k < 17 → w.cell? ⟨2, k, none⟩ = some (.string ⟨(kwN k).toArray⟩)
  ml : ∃ m, w.cell? ⟨5, 0, none⟩ = some (.int .i64 m)
theorem Lr.lt {w : World} (h : Lr w) : 5 < w.heap.size := by
  obtain ⟨m, hm⟩ := h.ml
  exact World.block_lt_of_cell? (a := ⟨5, 0, none⟩) _ hm
theorem Lr.keep {B : Nat} {w w' : World} (h : Lr w) (hB : 5 < B) (hb : Below B w w') : Lr w' where
  kinds := fun b hl => (hb.cell (p := ⟨1, b.toNat, none⟩) (by show 1 < B; omega)).trans (h.kinds b hl)
  kws := fun k hk => (hb.cell (p := ⟨2, k, none⟩) (by show 2 < B; omega)).trans (h.kws k hk)
  ml := by
    obtain ⟨m, hm⟩ := h.ml
    exact ⟨m, (hb.cell (p := ⟨5, 0, none⟩) hB).trans hm⟩
theorem len_data (s : ByteArray) : s.data.toList.length = s.size := Array.length_toList
theorem u8_lt (c : UInt8) : (0 : Int) ≤ (c.toNat : Int) ∧ (c.toNat : Int) < 256 := by have := c.toNat_lt; omega
theorem kind_high : ∀ b : UInt8, 128 ≤ b.toNat → kindB b = 0 := all_bytes (p := fun b => 128 ≤ b.toNat → kindB b = 0) (by decide +kernel)

set_option maxRecDepth 100000 in
theorem kindOf_any (b : UInt8) (w : World) (hL : Lr w) :
    Calls Tryz.prog 108 #[.int .u8 (b.toNat : Nat)] w fun e w' => e = .returned (.int .u8 (kindB b : Nat)) ∧ w = w' := by
  have h0 := u8_lt b
  by_cases h : b.toNat < 128
  · have hc := hL.kinds b h
    clear hL
    generalize kindB b = k at *
    go_enter Tryz.func108, Tryz.ntmps108
    go_wp2
    go_ret
    exact ⟨rfl, rfl⟩
  · have hk := kind_high b (by omega)
    rw [hk]
    clear hL hk
    go_enter Tryz.func108, Tryz.ntmps108
    go_wp2
    go_ret
    exact ⟨rfl, rfl⟩
theorem isBlank_any (b : UInt8) (w : World) (hL : Lr w) :
    Calls Tryz.prog 50 #[.int .u8 (b.toNat : Nat)] w fun e w' => e = .returned (.bool (isBla b)) ∧ w = w' := by
  have HK := Lib.hid (kindOf_any b w hL)
  have hv : isBla b = decide ((kindB b : Int) = 1) := by
    rw [Bool.eq_iff_iff, ← kind_bla]; simp; omega
  have HV := Lib.hid hv
  clear hL hv
  generalize kindB b = k at *
  go_enter Tryz.func50, Tryz.ntmps50
  go_wp2_with (go_at_call 108; refine HK.out.mono ?_; rintro e w' ⟨rfl, rfl⟩)
  go_ret
  exact ⟨ret_bool (by rw [HV.out]; rfl), rfl⟩
theorem isDigit_any (b : UInt8) (w : World) (hL : Lr w) :
    Calls Tryz.prog 110 #[.int .u8 (b.toNat : Nat)] w fun e w' => e = .returned (.bool (isDig b)) ∧ w = w' := by
  have HK := Lib.hid (kindOf_any b w hL)
  have hv : isDig b = decide ((kindB b : Int) = 3) := by
    rw [Bool.eq_iff_iff, ← kind_dig]; simp; omega
  have HV := Lib.hid hv
  clear hL hv
  generalize kindB b = k at *
  go_enter Tryz.func110, Tryz.ntmps110
  go_wp2_with (go_at_call 108; refine HK.out.mono ?_; rintro e w' ⟨rfl, rfl⟩)
  go_ret
  exact ⟨ret_bool (by rw [HV.out]; rfl), rfl⟩
theorem goesOn_any (b : UInt8) (w : World) (hL : Lr w) :
    Calls Tryz.prog 92 #[.int .u8 (b.toNat : Nat)] w fun e w' => e = .returned (.bool (goB b)) ∧ w = w' := by
  have HK := Lib.hid (kindOf_any b w hL)
  have HD := Lib.hid (isDigit_any b w hL)
  have HV : Hid (goB b = (isLet b || isDig b)) := Lib.hid rfl
  have hl : isLet b = decide ((kindB b : Int) = 2) := by
    rw [Bool.eq_iff_iff, ← kind_let]; simp; omega
  have HL := Lib.hid hl
  clear hL hl
  generalize kindB b = k at *
  by_cases h2 : k = 2
  · subst h2
    go_enter Tryz.func92, Tryz.ntmps92
    go_wp2_with (first | (go_at_call 108; refine HK.out.mono ?_; rintro e w' ⟨rfl, rfl⟩) | (go_at_call 110; refine HD.out.mono ?_; rintro e w' ⟨rfl, rfl⟩))
    go_ret
    exact ⟨ret_bool (by rw [HV.out, HL.out]; rfl), rfl⟩
  · have h2' : ((k : Int) == 2) = false := by simp; omega
    have hl2 : isLet b = false := by rw [HL.out]; simp; omega
    have HL2 := Lib.hid hl2
    clear hl2 HL
    go_enter Tryz.func92, Tryz.ntmps92
    go_wp2_with (first | (go_at_call 108; refine HK.out.mono ?_; rintro e w' ⟨rfl, rfl⟩) | (go_at_call 110; refine HD.out.mono ?_; rintro e w' ⟨rfl, rfl⟩))
    go_ret
    exact ⟨ret_bool (by rw [HV.out, HL2.out]; rfl), rfl⟩
set_option maxRecDepth 100000 in
theorem first_any (s : ByteArray) (w : World) (hL : Lr w) :
    Calls Tryz.prog 51 #[.string s] w fun e w' => e = .returned (.int .u8 (firstB s.data.toList : Nat)) ∧ w = w' := by
  cases hs : s.data.toList with
  | nil =>
    have e : s = ⟨#[]⟩ := by apply ByteArray.ext; apply Array.ext'; simpa using hs
    subst e
    clear hL hs
    go_enter Tryz.func51, Tryz.ntmps51
    go_wp2
    go_ret
    exact ⟨rfl, rfl⟩
  | cons b l =>
    have HK := Lib.hid (kindOf_any b w hL)
    have hz : 0 < s.size := by
      have h1 : s.data.toList.length = s.size := len_data s
      rw [hs, List.length_cons] at h1
      omega
    have hne : s.toList.isEmpty = false := by rw [ByteArray.toList_eq, hs]; rfl
    have hb : s[0] = b := by
      have h1 : s.data.toList[0]'(by rw [hs]; simp) = b := by simp [hs]
      exact h1
    have HB := Lib.hid hb
    clear hL hs hb
    unfold firstB
    go_enter Tryz.func51, Tryz.ntmps51
    go_wp2_with (go_at_call 108; first | (refine (by rw [HB.out]; exact HK.out : Calls Tryz.prog 108 #[.int .u8 (s[0].toNat : Nat)] w fun e w' => e = .returned (.int .u8 (kindB b : Nat)) ∧ w = w').mono ?_; rintro e w' ⟨rfl, rfl⟩))
    go_ret
    exact ⟨rfl, rfl⟩
end Go.Proofs.YtpdfenpmnpoehaaGreatDoor
