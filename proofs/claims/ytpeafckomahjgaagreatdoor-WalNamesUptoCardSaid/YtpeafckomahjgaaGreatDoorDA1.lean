/- Walks over the disk's smallest functions: names and picks. -/
import Derived.Test.YtpeafckomahjgaaGreatDoorRows
import Derived.WalkKit
import Derived.WalkSpells
import Derived.WalkLawsBesides
import Derived.Deep.QuietTactic
import Derived.BigQuiet
import Derived.Lib.Hide
namespace Go.Proofs.YtpeafckomahjgaaGreatDoor
open Go.RowKit
set_option linter.unusedVariables false

def nameByte (n : Int) : Bool := decide ((97 ≤ n ∧ n ≤ 122) ∨ (48 ≤ n ∧ n ≤ 57) ∨ n = 46 ∨ n = 45 ∨ n = 95)
theorem ret_bool {a b : Bool} (h : a = b) : Ending.returned (.bool a) = Ending.returned (.bool b) := by rw [h]
theorem ret_int {k : IntKind} {a b : Int} (h : a = b) : Ending.returned (.int k a) = Ending.returned (.int k b) := by rw [h]

set_option maxHeartbeats 400000 in
theorem inName_any (n : Int) (w : World) (h0 : 0 ≤ n) (h1 : n < 256) :
    Calls Tryz.prog 140 #[.int .u8 n] w fun e w' => e = .returned (.bool (nameByte n)) ∧ w = w' := by
  go_enter Tryz.func140, Tryz.ntmps140
  go_wp2
  all_goals go_ret
  all_goals refine ⟨ret_bool ?_, rfl⟩
  all_goals (unfold nameByte; rw [Bool.eq_iff_iff]; simp; try omega)

/-- May these bytes be a file's name? -/
def nameOk (s : List UInt8) : Bool := decide (1 ≤ s.length) && decide (s.length ≤ 32) && s.all fun c => nameByte c.toNat

theorem nameOk_no {s : List UInt8} {k : Nat} (hk : k < s.length) (h : nameByte (s[k].toNat : Int) = false) : nameOk s = false := by
  unfold nameOk
  have : s.all (fun c => nameByte c.toNat) = false := by
    rw [List.all_eq_false]
    exact ⟨s[k], List.getElem_mem hk, by simp [h]⟩
  simp [this]

theorem nameOk_yes {s : List UInt8} (h1 : 1 ≤ s.length) (h2 : s.length ≤ 32) (h : ∀ k (hk : k < s.length), nameByte (s[k].toNat : Int) = true) : nameOk s = true := by
  unfold nameOk
  simp only [h1, h2, decide_true, Bool.true_and, List.all_eq_true]
  intro c hc
  obtain ⟨k, hk, rfl⟩ := List.getElem_of_mem hc
  exact h k hk

theorem u8_lt (c : UInt8) : (0 : Int) ≤ (c.toNat : Int) ∧ (c.toNat : Int) < 256 := by have := c.toNat_lt; omega

def NamesTo (s : ByteArray) (k : Nat) : Prop := ∀ j (hj : j < s.data.toList.length), j < k → nameByte (s.data.toList[j].toNat : Int) = true

set_option maxHeartbeats 400000 in
theorem isName_any (s : ByteArray) (w : World) (hs : s.size ≤ maxLen) :
    Calls Tryz.prog 110 #[.string s] w fun e w' => e = .returned (.bool (nameOk s.data.toList)) ∧ w = w' := by
  unfold maxLen at hs
  have hl : s.data.toList.length = s.size := by simp
  have HL := Lib.hid hl
  clear hl
  by_cases h0 : 1 ≤ s.size
  · by_cases h32 : s.size ≤ 32
    · go_enter Tryz.func110, Tryz.ntmps110
      go_wp2
      go_loop [3, 14] (fun _ i => ∃ k : Nat, k ≤ s.size ∧ i = .int .i64 k ∧ NamesTo s k) (fun _ i => s.size - (intOf i).toNat)
      case atStart => exact ⟨0, Nat.zero_le _, rfl, fun j hj hk => by omega⟩
      case round =>
        obtain ⟨k, hk, rfl, H⟩ := hrel
        by_cases hlt : k < s.size
        · have hb := u8_lt s[k]
          go_wp2_with (go_at_call 140; refine (inName_any _ _ (by omega) (by omega)).mono ?_; rintro e w' ⟨rfl, rfl⟩)
          · have hn : (!nameByte (s[k].toNat : Int)) = true := by assumption
            go_ret
            refine ⟨ret_bool ?_, rfl⟩
            have hl := HL.out
            exact (nameOk_no (k := k) (by omega) (by rw [Bool.not_eq_true'] at hn; exact hn)).symm
          · have hn : (!nameByte (s[k].toNat : Int)) = false := by assumption
            refine ⟨⟨k + 1, by omega, by go_num, fun j hj hjk => ?_⟩, by simp [intOf]; omega⟩
            by_cases e : j = k
            · subst e; rw [Bool.not_eq_false'] at hn; exact hn
            · exact H j hj (by omega)
        · go_wp2
          go_ret
          refine ⟨ret_bool ?_, rfl⟩
          have hl := HL.out
          rw [nameOk_yes (by omega) (by omega) (fun j hj => H j hj (by omega))]
    · go_enter Tryz.func110, Tryz.ntmps110
      go_wp2
      go_ret
      refine ⟨ret_bool ?_, rfl⟩
      have hl := HL.out
      unfold nameOk
      simp only [hl]
      simp; omega
  · go_enter Tryz.func110, Tryz.ntmps110
    go_wp2
    go_ret
    refine ⟨ret_bool ?_, rfl⟩
    have hl := HL.out
    unfold nameOk
    simp only [hl]
    simp; omega


/-! ### pick -/
/-- A pick as the document uses it: below 0 it counts as its mirror. -/
def pickOf (p : Int) : Int := if p < 0 then -(p + 1) else p

set_option maxHeartbeats 400000 in
theorem pick_none (a : Option Addr) (c : Nat) (most : Int) (w : World) :
    Calls Tryz.prog 61 #[.slice a 0 c, .int .i64 most] w fun e w' => e = .returned (.tuple #[.int .i64 0, .slice none 0 0]) ∧ w = w' := by
  go_enter Tryz.func61, Tryz.ntmps61
  go_wp2
  go_ret2
  exact ⟨rfl, rfl⟩

set_option maxHeartbeats 400000 in
theorem pick_some (ad : Addr) (n c : Nat) (p : Int) (most : Int) (w : World) (hn : 0 < n) (hc : n ≤ c) (hcm : c ≤ 9223372036854775807) (hp : w.cell? ad = some (.int .i64 p)) (hp1 : -9223372036854775808 ≤ p) (hp2 : p ≤ 9223372036854775807) (hm0 : 0 ≤ most) (hm1 : most < 9223372036854775807) :
    Calls Tryz.prog 61 #[.slice (some ad) n c, .int .i64 most] w fun e w' => e = .returned (.tuple #[.int .i64 (pickOf p % (most + 1)), .slice (some (if c = 1 then ad else ad.add 1)) (n - 1) (c - 1)]) ∧ ∃ k, w' = w.drewN k := by
  have e1 : IntKind.i64.wrap (most + 1) = most + 1 := IntWalk.i64_in _ (by omega)
  have E1 := Lib.hid e1
  clear e1
  by_cases h : p < 0
  · have hv : -(p + 1).tmod (most + 1) = pickOf p % (most + 1) := by
      rw [← Int.neg_tmod, Int.tmod_eq_emod_of_nonneg (by omega)]
      unfold pickOf; rw [if_pos h]
    have HV := Lib.hid hv
    clear hv
    go_enter Tryz.func61, Tryz.ntmps61
    go_wp2
    have e1 := E1.out
    go_quiet (fail)
    all_goals go_wp2
    all_goals go_ret2
    all_goals (rw [HV.out]; first | exact ⟨rfl, _, rfl⟩ | (refine ⟨?_, _, rfl⟩; simp [*, Addr.add]))
  · have hv : pickOf p = p := by unfold pickOf; rw [if_neg h]
    have HV := Lib.hid hv
    clear hv
    have h' : 0 ≤ p := by omega
    go_enter Tryz.func61, Tryz.ntmps61
    go_wp2
    have e1 := E1.out
    go_quiet (fail)
    all_goals go_wp2
    all_goals go_ret2
    all_goals (rw [HV.out]; try rw [Int.tmod_eq_emod_of_nonneg h'])
    all_goals first | exact ⟨rfl, _, rfl⟩ | (refine ⟨?_, _, rfl⟩; simp [*, Addr.add])

/-! ### check -/
set_option maxHeartbeats 400000 in
theorem check_off (d : Nat) (v : Value) (n c : Nat) (A : Option Addr) (w : World) (hon : w.cell? ⟨d, 1, none⟩ = some (.bool false)) :
    Calls Tryz.prog 73 #[.pointer (some ⟨d, 0, none⟩), .slice A n c] w fun e w' => e = .returned (.int .i64 13) ∧ w = w' := by
  go_enter Tryz.func73, Tryz.ntmps73
  go_wp2
  go_ret
  exact ⟨rfl, rfl⟩

set_option maxHeartbeats 400000 in
theorem check_nil (A : Option Addr) (n c : Nat) (w : World) :
    Calls Tryz.prog 73 #[.pointer none, .slice A n c] w fun e w' => e = .returned (.int .i64 1) ∧ w = w' := by
  go_enter Tryz.func73, Tryz.ntmps73
  go_wp2
  go_ret
  exact ⟨rfl, rfl⟩

/-- What check says of names, where there is power. -/
def checkOf (on : Bool) (ss : List (List UInt8)) : Int := if on then (if ss.all nameOk then 0 else 10) else 13

def AllTo (ss : List ByteArray) (k : Nat) : Prop := ∀ j (hj : j < ss.length), j < k → nameOk (ss[j]).data.toList = true

theorem all_no {ss : List ByteArray} {k : Nat} (hk : k < ss.length) (h : nameOk (ss[k]).data.toList = false) : checkOf true (ss.map (·.data.toList)) = 10 := by
  unfold checkOf
  have : (ss.map (·.data.toList)).all nameOk = false := by
    rw [List.all_eq_false]
    exact ⟨_, List.mem_map.2 ⟨ss[k], List.getElem_mem hk, rfl⟩, by simp [h]⟩
  simp [this]
theorem all_yes {ss : List ByteArray} (h : AllTo ss ss.length) : checkOf true (ss.map (·.data.toList)) = 0 := by
  unfold checkOf
  have : (ss.map (·.data.toList)).all nameOk = true := by
    rw [List.all_eq_true]
    intro x hx
    obtain ⟨y, hy, rfl⟩ := List.mem_map.1 hx
    obtain ⟨j, hj, rfl⟩ := List.getElem_of_mem hy
    exact h j hj hj
  simp [this]

set_option maxHeartbeats 400000 in
theorem check_on (d : Nat) (ad : Addr) (ss : List ByteArray) (c : Nat) (w : World) (hon : w.cell? ⟨d, 1, none⟩ = some (.bool true)) (hn : ss.length ≤ 1000)
    (hs : ∀ i (hi : i < ss.length), ss[i].size ≤ maxLen) (hc : ∀ i (hi : i < ss.length), w.cell? (ad.add i) = some (.string ss[i])) :
    Calls Tryz.prog 73 #[.pointer (some ⟨d, 0, none⟩), .slice (some ad) ss.length c] w fun e w' => e = .returned (.int .i64 (checkOf true (ss.map (·.data.toList)))) ∧ w = w' := by
  have HS := Lib.hid hs
  have HC := Lib.hid hc
  clear hs hc
  go_enter Tryz.func73, Tryz.ntmps73
  go_wp2
  go_loop [6, 16] (fun _ i => ∃ k : Nat, k ≤ ss.length ∧ i = .int .i64 k ∧ AllTo ss k) (fun _ i => ss.length - (intOf i).toNat)
  case atStart => exact ⟨0, Nat.zero_le _, rfl, fun j hj hk => by omega⟩
  case round =>
    obtain ⟨k, hk, rfl, H⟩ := hrel
    by_cases hlt : k < ss.length
    · have hcell := HC.out k hlt
      have hsz := HS.out k hlt
      have HZ := Lib.hid hsz
      clear hsz
      go_wp2_with (go_at_call 110; refine (isName_any _ _ HZ.out).mono ?_; rintro e w' ⟨rfl, rfl⟩)
      · have hn : (!nameOk (ss[k]).data.toList) = true := by assumption
        go_ret
        refine ⟨ret_int ?_, rfl⟩
        exact (all_no hlt (by rw [Bool.not_eq_true'] at hn; exact hn)).symm
      · have hn : (!nameOk (ss[k]).data.toList) = false := by assumption
        refine ⟨⟨k + 1, by omega, by go_num, fun j hj hjk => ?_⟩, by simp [intOf]; omega⟩
        by_cases e : j = k
        · subst e; rw [Bool.not_eq_false'] at hn; exact hn
        · exact H j hj (by omega)
    · go_wp2
      go_ret
      refine ⟨ret_int ?_, rfl⟩
      have e : k = ss.length := by omega
      subst e
      exact (all_yes H).symm

theorem check_one (d : Nat) (ad : Addr) (s : ByteArray) (w : World) (on : Bool) (hon : w.cell? ⟨d, 1, none⟩ = some (.bool on)) (hs : s.size ≤ maxLen) (hc : w.cell? ad = some (.string s)) :
    Calls Tryz.prog 73 #[.pointer (some ⟨d, 0, none⟩), .slice (some ad) 1 1] w fun e w' => e = .returned (.int .i64 (checkOf on [s.data.toList])) ∧ w = w' := by
  cases on
  · exact check_off d (.bool true) 1 1 _ w hon
  · exact check_on d ad [s] 1 w hon (by simp) (by simpa using hs) (by simpa [Addr.add] using hc)
theorem check_two (d g : Nat) (s t : ByteArray) (w : World) (on : Bool) (hon : w.cell? ⟨d, 1, none⟩ = some (.bool on)) (hs : s.size ≤ maxLen) (ht : t.size ≤ maxLen) (hc : w.cell? ⟨g, 0, none⟩ = some (.string s)) (hc' : w.cell? ⟨g, 1, none⟩ = some (.string t)) :
    Calls Tryz.prog 73 #[.pointer (some ⟨d, 0, none⟩), .slice (some ⟨g, 0, none⟩) 2 2] w fun e w' => e = .returned (.int .i64 (checkOf on [s.data.toList, t.data.toList])) ∧ w = w' := by
  cases on
  · exact check_off d (.bool true) 2 2 _ w hon
  · refine check_on d ⟨g, 0, none⟩ [s, t] 2 w hon (by simp) ?_ ?_
    · intro i hi
      match i, hi with
      | 0, _ => exact hs
      | 1, _ => exact ht
    · intro i hi
      match i, hi with
      | 0, _ => exact hc
      | 1, _ => exact hc'
end Go.Proofs.YtpeafckomahjgaaGreatDoor
