/- LexKinds: the reference's letters, digits and capitals. -/
import Derived.Test.YtaaleodffghbdaaDoorF2
namespace Go.Proofs.YtaaleodffghbdaaDoor
open Go.RowKit Go.Maps
set_option linter.unusedVariables false

theorem let_nat : ∀ b : UInt8, isLet b = decide ((97 ≤ b.toNat ∧ b.toNat ≤ 122) ∨ (65 ≤ b.toNat ∧ b.toNat ≤ 90) ∨ b.toNat = 95) :=
  all_bytes (p := fun b => isLet b = decide ((97 ≤ b.toNat ∧ b.toNat ≤ 122) ∨ (65 ≤ b.toNat ∧ b.toNat ≤ 90) ∨ b.toNat = 95)) (by decide +kernel)
theorem dig_nat : ∀ b : UInt8, isDig b = decide (48 ≤ b.toNat ∧ b.toNat ≤ 57) :=
  all_bytes (p := fun b => isDig b = decide (48 ≤ b.toNat ∧ b.toNat ≤ 57)) (by decide +kernel)
set_option maxHeartbeats 1000000 in
theorem refLetter_any (b : UInt8) (w : World) : Calls Tryd.prog 33 #[.int .u8 (b.toNat : Nat)] w fun e w' => e = .returned (.bool (isLet b)) ∧ w = w' := by
  have h0 := u8_lt b
  obtain ⟨V, hV⟩ : ∃ V, isLet b = V := ⟨_, rfl⟩
  have hn := let_nat b
  rw [hV] at hn ⊢
  clear hV
  by_cases h1 : 97 ≤ b.toNat
  · by_cases h2 : b.toNat ≤ 122
    · obtain rfl : V = true := by rw [hn]; simp; omega
      clear hn
      go_enter Tryd.func33, Tryd.ntmps33
      go_wp2
      go_ret
      exact ⟨ret_bool (by first | rfl | assumption | (simp; omega)), rfl⟩
    · obtain rfl : V = false := by rw [hn]; simp; omega
      clear hn
      have h5 : ((b.toNat : Int) == 95) = false := by simp; omega
      go_enter Tryd.func33, Tryd.ntmps33
      go_wp2
      go_ret
      exact ⟨ret_bool (by first | rfl | assumption | (simp; omega)), rfl⟩
  · by_cases h2 : 65 ≤ b.toNat
    · by_cases h3 : b.toNat ≤ 90
      · obtain rfl : V = true := by rw [hn]; simp; omega
        clear hn
        go_enter Tryd.func33, Tryd.ntmps33
        go_wp2
        go_ret
        exact ⟨ret_bool (by first | rfl | assumption | (simp; omega)), rfl⟩
      · by_cases h4 : b.toNat = 95
        · obtain rfl : V = true := by rw [hn]; simp; omega
          clear hn
          have h5 : ((b.toNat : Int) == 95) = true := by simp; omega
          go_enter Tryd.func33, Tryd.ntmps33
          go_wp2
          go_ret
          exact ⟨ret_bool (by first | rfl | assumption | (simp; omega)), rfl⟩
        · obtain rfl : V = false := by rw [hn]; simp; omega
          clear hn
          have h5 : ((b.toNat : Int) == 95) = false := by simp; omega
          go_enter Tryd.func33, Tryd.ntmps33
          go_wp2
          go_ret
          exact ⟨ret_bool (by first | rfl | assumption | (simp; omega)), rfl⟩
    · obtain rfl : V = false := by rw [hn]; simp; omega
      clear hn
      have h5 : ((b.toNat : Int) == 95) = false := by simp; omega
      go_enter Tryd.func33, Tryd.ntmps33
      go_wp2
      go_ret
      exact ⟨ret_bool (by first | rfl | assumption | (simp; omega)), rfl⟩
theorem refDigit_any (b : UInt8) (w : World) : Calls Tryd.prog 34 #[.int .u8 (b.toNat : Nat)] w fun e w' => e = .returned (.bool (isDig b)) ∧ w = w' := by
  have h0 := u8_lt b
  obtain ⟨V, hV⟩ : ∃ V, isDig b = V := ⟨_, rfl⟩
  have hn := dig_nat b
  rw [hV] at hn ⊢
  clear hV
  by_cases h1 : 48 ≤ b.toNat
  · by_cases h2 : b.toNat ≤ 57
    · obtain rfl : V = true := by rw [hn]; simp; omega
      clear hn
      go_enter Tryd.func34, Tryd.ntmps34
      go_wp2
      go_ret
      exact ⟨ret_bool (by first | rfl | (simp; omega)), rfl⟩
    · obtain rfl : V = false := by rw [hn]; simp; omega
      clear hn
      go_enter Tryd.func34, Tryd.ntmps34
      go_wp2
      go_ret
      exact ⟨ret_bool (by first | rfl | (simp; omega)), rfl⟩
  · obtain rfl : V = false := by rw [hn]; simp; omega
    clear hn
    go_enter Tryd.func34, Tryd.ntmps34
    go_wp2
    go_ret
    exact ⟨ret_bool (by first | rfl | (simp; omega)), rfl⟩

/-! ### capitals -/
def capV (b : UInt8) : Value := .int .u8 ((capB b).toNat : Nat)
theorem info5 : (Tryd.prog.info? 5).map (fun i => (i.zero, i.size, i.bytes)) = some (some (.int .u8 0), 1, 1) := by kernel_rfl
theorem own1_cell' {w : World} {base n c : Nat} {e : TypeId} {A : Option Addr} {xs : List Value} (h : w.ownsRow base e 1 (.slice A n c) n xs) (hn : 0 < n) :
    ∃ g, A = some ⟨g, 0, none⟩ ∧ ∀ (j : Nat) (v : Value), xs[j]? = some v → j < n → w.cell? ⟨g, j, none⟩ = some v := by
  rcases h.2 with ⟨_, h0⟩ | ⟨g, cap, cur, e1, hb, hh, hnc, hcm, hs, ht⟩
  · omega
  · injection e1 with e1 e2 e3
    refine ⟨g, e1, fun j v hj hjn => ?_⟩
    rw [cell_of_row w g j cur e (0, 0) hh, ← hj, ← ht, List.getElem?_take, if_pos (by omega), Array.getElem?_toList]
theorem conv_nil (w : World) (c : Nat) : (convert 38 9 (.slice none 0 c)).run Tryd.prog w = .ok (.string ⟨#[]⟩) w := by
  rw [run_convert_bytes_string w 38 9 5 none 0 c Tryd.underlying38 Tryd.underlying5 Tryd.underlying9]
  simp [Conv.bytesToString]
  rfl
theorem conv_row {w : World} {base n c : Nat} {A : Option Addr} (t : Tx) (hn : t.length = n) (h : w.ownsRow base 5 1 (.slice A n c) n (t.map fun b => .int .u8 (b.toNat : Nat))) : (convert 38 9 (.slice A n c)).run Tryd.prog w = .ok (.string ⟨t.toArray⟩) w := by
  rcases Nat.eq_zero_or_pos n with rfl | hp
  · obtain rfl : t = [] := List.eq_nil_of_length_eq_zero hn
    rcases h.2 with ⟨h1, _⟩ | ⟨g, cap, cur, e1, hb, hh, hnc, hcm, hs, ht⟩
    · obtain rfl : A = none := by injection h1
      exact conv_nil w c
    · injection e1 with e1 e2 e3
      subst e1
      have := run_convert_bytes_back (P := Tryd.prog) w 38 9 5 ⟨g, 0, none⟩ c [] Tryd.underlying38 Tryd.underlying5 Tryd.underlying9 (fun j hj => absurd hj (by simp))
      exact this
  · obtain ⟨g, rfl, hc⟩ := own1_cell' h hp
    have := run_convert_bytes_back (P := Tryd.prog) w 38 9 5 ⟨g, 0, none⟩ c t Tryd.underlying38 Tryd.underlying5 Tryd.underlying9 (fun j hj => by
      rw [show (⟨g, 0, none⟩ : Addr).add j = ⟨g, j, none⟩ by simp [Addr.add]; exact fun e => e.symm]
      exact hc j _ (by rw [List.getElem?_map, List.getElem?_eq_getElem hj]; rfl) (by omega))
    rw [hn] at this
    exact this
end Go.Proofs.YtaaleodffghbdaaDoor
