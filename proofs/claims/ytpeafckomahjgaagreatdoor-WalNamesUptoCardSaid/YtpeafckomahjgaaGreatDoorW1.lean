/- The log's names and records: the variables of the library that they read; Name, Record. -/
import Derived.Test.YtpeafckomahjgaaGreatDoorS1
import Derived.Test.YtpeafckomahjgaaGreatDoorKC3
import Derived.Lib.ItoaMem
import Derived.Lib.AppendIntMem
import Derived.WalkSmall
namespace Go.Proofs.YtpeafckomahjgaaGreatDoor
open Go.RowKit Go.Maps
set_option linter.unusedVariables false

/-- The library's own variables, as the program's text lays them. -/
structure Vr (w : World) : Prop where
  tab : Lib.TabIs Tryz.prog w "internal/strconv.uint64pow10" .u64 Lib.pow10Tab
  syn : ∃ tp p, w.var? Tryz.prog "strconv.ErrSyntax" = some #[.iface tp p]
  rng : ∃ tp p, w.var? Tryz.prog "strconv.ErrRange" = some #[.iface tp p]
theorem gTab : Tryz.prog.globalNamed "internal/strconv.uint64pow10" = some 0 := by kernel_rfl
theorem gSyn : Tryz.prog.globalNamed "strconv.ErrSyntax" = some 2 := by kernel_rfl
theorem gRng : Tryz.prog.globalNamed "strconv.ErrRange" = some 3 := by kernel_rfl
theorem var_of {w w' : World} {n : String} {g : Nat} {cs : Array Value} (hg : Tryz.prog.globalNamed n = some g) (hk : w'.heap[g]? = w.heap[g]?) (hv : w.var? Tryz.prog n = some cs) : w'.var? Tryz.prog n = some cs := by
  unfold World.var? at hv ⊢
  simp only [hg, Option.bind_some] at hv ⊢
  rw [hk]; exact hv
theorem var_lt {w : World} {n : String} {g : Nat} {cs : Array Value} (hg : Tryz.prog.globalNamed n = some g) (hv : w.var? Tryz.prog n = some cs) : g < w.heap.size := by
  unfold World.var? at hv
  simp only [hg, Option.bind_some] at hv
  rcases Nat.lt_or_ge g w.heap.size with h | h
  · exact h
  · rw [Array.getElem?_eq_none h] at hv; cases hv
theorem Vr.of {w w' : World} (h : Vr w) (hk : ∀ k, k < 4 → w'.heap[k]? = w.heap[k]?) : Vr w' := by
  obtain ⟨t1, p1, h1⟩ := h.syn
  obtain ⟨t2, p2, h2⟩ := h.rng
  exact ⟨var_of gTab (hk 0 (by omega)) h.tab, ⟨t1, p1, var_of gSyn (hk 2 (by omega)) h1⟩, ⟨t2, p2, var_of gRng (hk 3 (by omega)) h2⟩⟩
theorem Vr.lt {w : World} (h : Vr w) : 4 ≤ w.heap.size := by
  obtain ⟨t2, p2, h2⟩ := h.rng
  have := var_lt gRng h2
  omega
/-- What lies from block B on is not theirs. -/
theorem Vr.below {w w' : World} {B : Nat} (h : Vr w) (hB : 4 ≤ B) (hb : Below B w w') : Vr w' := h.of fun k hk => hb.block k (by omega)
theorem Vr.keep {w w' : World} (h : Vr w) (hb : Fr No w w') : Vr w' := h.of fun k hk => hb.block k (by have := h.lt; omega) id

/-! ### Name -/
theorem itoa_any (n : Int) (w : World) (hv : Vr w) (h0 : -9223372036854775808 ≤ n) (h1 : n ≤ 9223372036854775807) :
    Calls Tryz.prog 76 #[.int .i64 n] w fun e w' => e = .returned (sv (Lib.itoa n)) ∧ Fr No w w' := by
  refine (Tryz.strconv_Itoa n h0 h1 w hv.tab).mono ?_
  rintro e w' ⟨rfl, k, os, rfl⟩
  exact ⟨rfl, Fr.of_below (Lib.below_grow _ w (Nat.le_refl _) k os)⟩
theorem repeat_any (l : List UInt8) (c : Nat) (w : World) (hc : c ≤ 100) (hl : l.length ≤ 100) :
    Calls Tryz.prog 77 #[sv l, .int .i64 c] w fun e w' => e = .returned (sv (Lib.repeatL l c)) ∧ Fr No w w' := by
  have hm : l.length * c ≤ 100 * 100 := Nat.mul_le_mul hl hc
  refine (Tryz.strings_Repeat ⟨l.toArray⟩ c w (by omega) (by rw [sz]; omega)).mono ?_
  rintro e w' ⟨rfl, hb⟩
  exact ⟨rfl, Fr.of_below hb⟩
theorem nDigits_le : ∀ (k u : Nat), u < 10 ^ (k + 1) → Lib.nDigits u ≤ k + 1
  | 0, u, h => by rw [Lib.nDigits_small (by simpa using h)]; omega
  | k + 1, u, h => by
    by_cases h10 : u < 10
    · rw [Lib.nDigits_small h10]; omega
    · rw [Lib.nDigits_big h10]
      have := nDigits_le k (u / 10) (by rw [Nat.div_lt_iff_lt_mul (by omega)]; rw [Nat.pow_succ] at h; exact h)
      omega
theorem digits8 {n : Int} (h0 : 1 ≤ n) (h1 : n ≤ 99999999) : (Lib.itoa n).length ≤ 8 := by
  unfold Lib.itoa
  rw [if_neg (by omega), Lib.decDigits_length]
  exact nDigits_le 7 n.toNat (by omega)
def nameW (n : Int) : List UInt8 := if n < 1 ∨ 99999999 < n then [] else [119, 97, 108, 45] ++ Lib.repeatL [48] (8 - (Lib.itoa n).length) ++ Lib.itoa n
set_option maxHeartbeats 1000000 in
theorem name_any (n : Int) (w : World) (hv : Vr w) (h0 : -9223372036854775808 ≤ n) (h1 : n ≤ 9223372036854775807) :
    Calls Tryz.prog 28 #[.int .i64 n] w fun e w' => e = .returned (sv (nameW n)) ∧ Fr No w w' := by
  by_cases hlo : n < 1
  · have HV : Hid (nameW n = []) := Lib.hid (by unfold nameW; rw [if_pos (.inl hlo)])
    have hlt : decide (n < 1) = true := by simpa using hlo
    go_enter Tryz.func28, Tryz.ntmps28
    go_wp2
    go_ret
    exact ⟨by rw [HV.out]; rfl, Fr.refl _ _⟩
  · have hge : 1 ≤ n := by omega
    have hlt : decide (n < 1) = false := by simpa using hge
    by_cases hhi : 99999999 < n
    · have HV : Hid (nameW n = []) := Lib.hid (by unfold nameW; rw [if_pos (.inr hhi)])
      have hgt : decide (99999999 < n) = true := by simpa using hhi
      go_enter Tryz.func28, Tryz.ntmps28
      go_wp2
      go_ret
      exact ⟨by rw [HV.out]; rfl, Fr.refl _ _⟩
    · have hle : n ≤ 99999999 := by omega
      have hgt : decide (99999999 < n) = false := by simpa using hle
      have HV : Hid (nameW n = ([119, 97, 108, 45] ++ Lib.repeatL [48] (8 - (Lib.itoa n).length)) ++ Lib.itoa n) := Lib.hid (by unfold nameW; rw [if_neg (by omega)])
      have hd := digits8 hge hle
      have HI := Lib.hid (itoa_any n w hv h0 h1)
      obtain ⟨l, hl⟩ : ∃ l, Lib.itoa n = l := ⟨_, rfl⟩
      rw [hl] at HI hd HV
      have HRl : Hid (∀ c, (Lib.repeatL [48] c).length = c) := Lib.hid fun c => by rw [Lib.repeatL_length]; simp
      clear hl hv
      go_enter Tryz.func28, Tryz.ntmps28
      go_wp2_with fail
      refine HI.out.mono ?_
      rintro e w1 ⟨rfl, f1⟩
      have F1 := Lib.hid f1
      clear f1
      obtain ⟨c, hc⟩ : ∃ c : Nat, 8 - l.length = c := ⟨_, rfl⟩
      have e8 : (8 : Int) - (l.length : Int) = (c : Int) := by omega
      have e8' : IntKind.i64.wrap (8 - (l.length : Int)) = (c : Int) := by rw [e8]; exact IntWalk.i64_in _ (by omega)
      have HR := Lib.hid (repeat_any [48] c w1 (by omega) (by simp))
      obtain ⟨z, hz⟩ : ∃ z, Lib.repeatL [48] c = z := ⟨_, rfl⟩
      have hzl : z.length = c := by rw [← hz]; exact HRl.out c
      rw [hc, hz] at HV
      rw [hz] at HR
      have hzl8 : z.length ≤ 8 := by omega
      have q1 := fun w' => run_cat [119, 97, 108, 45] z (by simp; omega) w'
      have q2 := fun w' => run_cat ([119, 97, 108, 45] ++ z) l (by simp; omega) w'
      have Q1 := Lib.hid q1
      have Q2 := Lib.hid q2
      have HZ := Lib.hid hz
      have HZL := Lib.hid hzl
      have HC := Lib.hid hc
      clear hz hzl hc q1 q2
      go_wp2_with fail
      refine HR.out.mono ?_
      rintro e w2 ⟨rfl, f2⟩
      have F2 := Lib.hid f2
      clear f2 e8 e8'
      have q1 := Q1.out
      have q2 := Q2.out
      obtain ⟨y, hy⟩ : ∃ y, [119, 97, 108, 45] ++ z = y := ⟨_, rfl⟩
      rw [hy] at HV
      simp only [hy] at q1 q2
      obtain ⟨x, hx⟩ : ∃ x, y ++ l = x := ⟨_, rfl⟩
      rw [hx] at HV
      simp only [hx] at q2
      clear hy hx Q1 Q2
      go_wp2
      go_ret
      exact ⟨by rw [HV.out]; rfl, F1.out.trans F2.out fun _ _ h => h⟩
end Go.Proofs.YtpeafckomahjgaaGreatDoor
