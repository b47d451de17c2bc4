/- A table's rows are made, once. -/
import Derived.Test.YtpeafckomahjgaaGreatDoorKA3
import Derived.Laws.LoneSync
import Derived.Laws.Pointers
import Derived.Defers
import Derived.RegionTactic
import Derived.RegionCalls
import Derived.ChangeAlike
import Derived.Outline
namespace Go.Proofs.YtpeafckomahjgaaGreatDoor
open Go.RowKit Go.Maps
set_option linter.unusedVariables false

/-! ### the rows -/
/-- the rows of which k were made -/
def rowsTo (k : Nat) : List Value := (List.range 16).map fun j => u32V (if j < k then stn 4 j else 0)
def tabC (a b c : Value) (k : Nat) : Array Value := (a :: b :: c :: rowsTo k).toArray
theorem tabC_zero (a b c : Value) : tabC a b c 0 = (a :: b :: c :: List.replicate 16 (u32V 0)).toArray := rfl
theorem tabC_set (a b c : Value) (k : Nat) (hk : k < 16) : (tabC a b c k).setIfInBounds (3 + k) (u32V (stn 4 k)) = tabC a b c (k + 1) := by
  have : k = 0 ∨ k = 1 ∨ k = 2 ∨ k = 3 ∨ k = 4 ∨ k = 5 ∨ k = 6 ∨ k = 7 ∨ k = 8 ∨ k = 9 ∨ k = 10 ∨ k = 11 ∨ k = 12 ∨ k = 13 ∨ k = 14 ∨ k = 15 := by omega
  rcases this with rfl | rfl | rfl | rfl | rfl | rfl | rfl | rfl | rfl | rfl | rfl | rfl | rfl | rfl | rfl | rfl <;> rfl
theorem tabC_get (a b c : Value) (i : Nat) (hi : i < 16) : (tabC a b c 16)[3 + i]? = some (u32V (stn 4 i)) := by
  have : i = 0 ∨ i = 1 ∨ i = 2 ∨ i = 3 ∨ i = 4 ∨ i = 5 ∨ i = 6 ∨ i = 7 ∨ i = 8 ∨ i = 9 ∨ i = 10 ∨ i = 11 ∨ i = 12 ∨ i = 13 ∨ i = 14 ∨ i = 15 := by omega
  rcases this with rfl | rfl | rfl | rfl | rfl | rfl | rfl | rfl | rfl | rfl | rfl | rfl | rfl | rfl | rfl | rfl <;> rfl
theorem tabC_some (a b c : Value) (k i : Nat) (hi : i < 16) : ∃ v, (tabC a b c k)[3 + i]? = some v := by
  refine ⟨(tabC a b c k)[3 + i]'?_, Array.getElem?_eq_getElem _⟩
  simp [tabC, rowsTo]; omega
theorem Blk.frozen' {w : World} {g : Nat} {t : TypeId} {cs : Array Value} (h : Blk w g t cs) : ∀ i, w.frozen? ⟨g, i, none⟩ = false := h.frozen

theorem idx36 (k : IntKind) (w : World) (g off i : Nat) (hi : i < 16) : (Instr.indexAt 199 (.pointer (some ⟨g, off, none⟩)) (.int k (i : Int))).run Tryz.prog w = .ok (.pointer (some ⟨g, off + i, none⟩)) w := by
  have hs : (sizeOf (Tryz.prog.elem 199)).run Tryz.prog w = .ok 1 w := by simp [go_sem]
  have hp : Tryz.prog.underlying 199 = some (.array (Tryz.prog.arrayLen 199) (Tryz.prog.elem 199)) := by kernel_rfl
  have hl : Tryz.prog.arrayLen 199 = 16 := by kernel_rfl
  rw [run_indexAt_array w 199 _ _ _ hp, hl, if_pos (by omega), hs]
  simp [Result.andThen, Addr.add_lit]

/-- A walk's fill: what becomes of the table. -/
def Filled (g : Nat) (a b c : Value) (w : World) (e : Ending) (w' : World) : Prop := e = .returned (.tuple #[]) ∧ Blk w' g 201 (tabC a b c 16) ∧ Fr (One g) w w'

set_option maxRecDepth 100000 in
set_option maxHeartbeats 1000000 in
theorem fill_any (g : Nat) (a b c : Value) (w : World) (h : Blk w g 201 (tabC a b c 0)) :
    Calls Tryz.prog 163 #[.pointer (some ⟨g, 0, none⟩)] w (Filled g a b c w) := by
  go_enter Tryz.func163, Tryz.ntmps163
  go_wp2
  go_loopw [5] (fun i wr => ∃ k : Nat, k ≤ 16 ∧ i = .int .i64 k ∧ Blk wr g 201 (tabC a b c k) ∧ Fr (One g) w wr) (fun i _ => 16 - (intOf i).toNat)
  case atStart => exact ⟨0, by omega, rfl, h, Fr.refl _ _⟩
  case round =>
    obtain ⟨k, hk, rfl, hb, hf⟩ := hrel
    have HF := Lib.hid hf
    clear hf
    by_cases hlt : k < 16
    · have wr : IntKind.u32.wrap (k : Int) = (k : Int) := by rw [IntKind.wrap_u32']; omega
      go_wp2
      go_loop [3, 10] (fun c i => ∃ j : Nat, j ≤ 4 ∧ i = .int .i64 j ∧ c = .int .u32 (stn j k : Nat)) (fun _ i => 4 - (intOf i).toNat)
      case atStart => exact ⟨0, Nat.zero_le _, rfl, rfl⟩
      case round =>
        obtain ⟨j, hj, rfl, rfl⟩ := hrel
        by_cases hl : j < 4
        · have hst := stn_last j k
          have HS := Lib.hid hst
          have hcl : stn j k < 2 ^ 32 := stn_lt (by omega)
          clear hst
          generalize stn j k = q at *
          obtain ⟨y, z, h1, h2, h3⟩ := step_facts q hcl
          rcases h3 with ⟨h3, h4⟩ | ⟨h3, h4⟩
          · have H4 := Lib.hid h4
            clear h4
            go_wp2
            go_round
            case rel => exact ⟨j + 1, by omega, by go_num, by rw [HS.out, H4.out]⟩
            case measure => simp [intOf]; omega
          · have H4 := Lib.hid h4
            clear h4
            go_wp2
            go_round
            case rel => exact ⟨j + 1, by omega, by go_num, by rw [HS.out, H4.out]⟩
            case measure => simp [intOf]; omega
        · obtain rfl : j = 4 := by omega
          have hidx := fun w' => idx36 .i64 w' g 3 k hlt
          obtain ⟨v, hv⟩ := tabC_some a b c k k hlt
          have hcell : _ = some v := (hb.cell (3 + k)).trans hv
          have hfz := hb.frozen (3 + k)
          have HB := Lib.hid (hb.set_ (3 + k) (u32V (stn 4 k)))
          clear hb hv
          go_wp2
          go_roundw
          case rel => exact ⟨k + 1, by omega, by go_num, by have := HB.out; rw [tabC_set a b c k hlt] at this; exact this, HF.out.set1 _ _⟩
          case measure => simp [intOf]; omega
    · obtain rfl : k = 16 := by omega
      go_wp2
      refine bodyPost_ret (results_none rfl _ _ _) rfl ?_
      exact ⟨rfl, hb, HF.out⟩
end Go.Proofs.YtpeafckomahjgaaGreatDoor
