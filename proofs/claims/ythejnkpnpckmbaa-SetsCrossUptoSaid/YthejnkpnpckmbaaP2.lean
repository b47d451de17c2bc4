/- Grouping sets, plain: bits, beginnings. -/
import Derived.Test.YthejnkpnpckmbaaA1
namespace Go.Proofs.Ythejnkpnpckmbaa
open Go.RowKit Go.Maps
set_option linter.unusedVariables false

theorem ofInt_i64 (a : Nat) (ha : a < 9223372036854775808) : (BitVec.ofInt 64 (a : Int)).toNat = a := by
  rw [BitVec.ofInt_natCast, BitVec.toNat_ofNat]; exact Nat.mod_eq_of_lt (by omega)
theorem i64_or_nat (a b : Nat) (ha : a < 4611686018427387904) (hb : b < 4611686018427387904) : bits .or .i64 (a : Int) (b : Int) = ((a ||| b : Nat) : Int) := by
  have hx : a ||| b < 2 ^ 62 := Nat.or_lt_two_pow (by omega) (by omega)
  show IntKind.i64.wrap ((BitVec.ofInt 64 (a : Int) ||| BitVec.ofInt 64 (b : Int)).toNat : Int) = _
  rw [BitVec.toNat_or, ofInt_i64 a (by omega), ofInt_i64 b (by omega), IntKind.wrap_i64]
  omega
theorem i64_and_nat (a b : Nat) (ha : a < 4611686018427387904) (hb : b < 4611686018427387904) : bits .and .i64 (a : Int) (b : Int) = ((a &&& b : Nat) : Int) := by
  have hx : a &&& b < 2 ^ 62 := Nat.and_lt_two_pow _ (by omega)
  show IntKind.i64.wrap ((BitVec.ofInt 64 (a : Int) &&& BitVec.ofInt 64 (b : Int)).toNat : Int) = _
  rw [BitVec.toNat_and, ofInt_i64 a (by omega), ofInt_i64 b (by omega), IntKind.wrap_i64]
  omega
theorem i64_and1 (a : Nat) (ha : a < 4611686018427387904) : bits .and .i64 (a : Int) 1 = ((a % 2 : Nat) : Int) := by
  rw [← Nat.and_one_is_mod]; exact i64_and_nat a 1 ha (by decide)

theorem or64 {a b : Nat} (ha : a < 64) (hb : b < 64) : a ||| b < 64 := Nat.or_lt_two_pow (n := 6) ha hb
theorem bitI_lt (d : Int) : bitI d < 64 := by
  unfold bitI
  split
  · rename_i h
    have : d.toNat < 6 := by omega
    calc 2 ^ d.toNat < 2 ^ 6 := Nat.pow_lt_pow_right (by decide) this
      _ = 64 := rfl
  · decide
theorem fold_or_lt {α : Type} (f : α → Nat) : ∀ (l : List α) (a : Nat), a < 64 → (∀ x ∈ l, f x < 64) → l.foldl (fun a x => a ||| f x) a < 64
  | [], a, h, _ => h
  | x :: l, a, h, hl => fold_or_lt f l _ (or64 h (hl x (by simp))) fun y hy => hl y (by simp [hy])
theorem uni_lt {l : List Nat} (h : ∀ x ∈ l, x < 64) : uni l < 64 := fold_or_lt id l 0 (by decide) h
theorem ofL_lt (l : List Int) : ofL l < 64 := fold_or_lt bitI l 0 (by decide) fun _ _ => bitI_lt _
theorem take_succ {α : Type} {l : List α} {j : Nat} (h : j < l.length) : l.take (j + 1) = l.take j ++ [l[j]] := by
  rw [List.take_add_one, List.getElem?_eq_getElem h]; rfl
theorem uni_take {l : List Nat} {j : Nat} (h : j < l.length) : uni (l.take (j + 1)) = uni (l.take j) ||| l[j] := by
  rw [take_succ h]; unfold uni; rw [List.foldl_append]; rfl
theorem ofL_take {l : List Int} {j : Nat} (h : j < l.length) : ofL (l.take (j + 1)) = ofL (l.take j) ||| bitI l[j] := by
  rw [take_succ h]; unfold ofL; rw [List.foldl_append]; rfl
theorem mem_take_lt {l : List Nat} (h : ∀ x ∈ l, x < 64) (j : Nat) : ∀ x ∈ l.take j, x < 64 := fun x hx => h x (List.mem_of_mem_take hx)
end Go.Proofs.Ythejnkpnpckmbaa
