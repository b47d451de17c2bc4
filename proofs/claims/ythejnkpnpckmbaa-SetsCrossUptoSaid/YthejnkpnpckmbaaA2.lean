/- Unions of sets, and the set of some dimensions. -/
import Derived.Test.YthejnkpnpckmbaaP2
namespace Go.Proofs.Ythejnkpnpckmbaa
open Go.RowKit Go.Maps
set_option linter.unusedVariables false

set_option maxRecDepth 100000 in
/-- union: of sets. -/
theorem union_any {K : Nat → Prop} {l : List Nat} {v : Value} (w : World) (h : RowE K w 1 (natG K w) v l) (hb : ∀ x ∈ l, x < 64) : Calls Try.prog 33 #[v] w (TellsI (uni l : Nat) w) := by
  obtain ⟨A, c, rfl, hlc, hcm, hrow⟩ := h
  obtain ⟨n, hn⟩ : ∃ n, l.length = n := ⟨_, rfl⟩
  rw [hn] at hlc ⊢
  have HROW := Lib.hid hrow
  have HN := Lib.hid hn
  have HB := Lib.hid hb
  unfold maxLen at hcm
  clear hrow hn hb
  go_enter Try.func33, Try.ntmps33
  go_wp2_with fail
  go_loopg [3, 5, 8] n (fun k r3 r5 r8 wr => Hid (∃ j : Nat, r8 = .int .i64 (j : Nat) ∧ j + k = n ∧ r3 = .int .i64 ((uni (l.take j) : Nat) : Int) ∧ Fr No w wr))
  case atStart => exact Lib.hid ⟨0, rfl, by omega, rfl, Fr.refl _ _⟩
  case round =>
  obtain ⟨j, rfl, hjn, rfl, hf⟩ := hrel.out
  clear hrel
  by_cases hj : j < n
  · have hji : (j : Int) < (n : Int) := by omega
    have hjl : j < l.length := by rw [HN.out]; exact hj
    obtain ⟨g, off, rfl, hK, hg, hel⟩ := HROW.out (by omega)
    obtain ⟨cs, hcl, hcs, hE⟩ := hel j hjl
    have e0 : wr.cell? ⟨g, off + j, none⟩ = some (.int .i64 (l[j] : Nat)) := (cell_of_heap (hf.block g hg id)).trans (by have := hcs 0 (by decide); rw [hE] at this; simpa using this)
    obtain ⟨x, hx⟩ : ∃ x, l[j] = x := ⟨_, rfl⟩
    obtain ⟨u, hu⟩ : ∃ u, uni (l.take j) = u := ⟨_, rfl⟩
    have hor : bits .or .i64 (u : Int) (x : Int) = ((u ||| x : Nat) : Int) := by
      have h1 : u < 64 := by rw [← hu]; exact uni_lt (mem_take_lt HB.out j)
      have h2 : x < 64 := by rw [← hx]; exact HB.out _ (List.getElem_mem _)
      exact i64_or_nat u x (by omega) (by omega)
    have HU : Hid (uni (l.take (j + 1)) = (u ||| x)) := Lib.hid (by rw [uni_take hjl, hx, hu])
    have HF := Lib.hid hf
    rw [hx] at e0
    rw [hu]
    clear hcs hcl hel hK hf hE hx hu
    generalize u ||| x = z at *
    go_wp2_with fail
    obtain ⟨g1, rfl⟩ : ∃ g1, gk = g1 + 1 := ⟨gk - 1, by omega⟩
    go_roundg g1
    case rel => exact Lib.hid ⟨j + 1, by go_num, by omega, by rw [HU.out], HF.out⟩
    all_goals omega
  · have hji : (n : Int) ≤ (j : Int) := by omega
    have HT : Hid (l.take j = l) := Lib.hid (List.take_of_length_le (by rw [HN.out]; omega))
    have HF := Lib.hid hf
    clear hf
    go_wp2_with fail
    go_ret
    exact ⟨by rw [HT.out]; rfl, HF.out⟩

set_option maxRecDepth 100000 in
/-- Of. -/
theorem of_any {K : Nat → Prop} {l : List Int} {v : Value} (w : World) (h : RowE K w 1 (intG K w) v l) : Calls Try.prog 12 #[v] w (TellsI (ofL l : Nat) w) := by
  obtain ⟨A, c, rfl, hlc, hcm, hrow⟩ := h
  obtain ⟨n, hn⟩ : ∃ n, l.length = n := ⟨_, rfl⟩
  rw [hn] at hlc ⊢
  have HROW := Lib.hid hrow
  have HN := Lib.hid hn
  unfold maxLen at hcm
  clear hrow hn
  go_enter Try.func12, Try.ntmps12
  go_wp2_with fail
  go_loopg [3, 5, 8] n (fun k r3 r5 r8 wr => Hid (∃ j : Nat, r8 = .int .i64 (j : Nat) ∧ j + k = n ∧ r3 = .int .i64 ((ofL (l.take j) : Nat) : Int) ∧ Fr No w wr))
  case atStart => exact Lib.hid ⟨0, rfl, by omega, rfl, Fr.refl _ _⟩
  case round =>
  obtain ⟨j, rfl, hjn, rfl, hf⟩ := hrel.out
  clear hrel
  by_cases hj : j < n
  · have hji : (j : Int) < (n : Int) := by omega
    have hjl : j < l.length := by rw [HN.out]; exact hj
    obtain ⟨g, off, rfl, hK, hg, hel⟩ := HROW.out (by omega)
    obtain ⟨cs, hcl, hcs, hE⟩ := hel j hjl
    obtain ⟨hE, hi⟩ := hE
    have e0 : wr.cell? ⟨g, off + j, none⟩ = some (.int .i64 l[j]) := (cell_of_heap (hf.block g hg id)).trans (by have := hcs 0 (by decide); rw [hE] at this; simpa using this)
    obtain ⟨x, hx⟩ : ∃ x, l[j] = x := ⟨_, rfl⟩
    obtain ⟨u, hu⟩ : ∃ u, ofL (l.take j) = u := ⟨_, rfl⟩
    obtain ⟨z, hz⟩ : ∃ z, u ||| bitI x = z := ⟨_, rfl⟩
    have HU : Hid (ofL (l.take (j + 1)) = z) := Lib.hid (by rw [ofL_take hjl, hx, hu, hz])
    have hu64 : u < 64 := by rw [← hu]; exact ofL_lt _
    have HF := Lib.hid hf
    rw [hx] at e0
    rw [hu]
    clear hcs hcl hel hK hf hE hx hu hi
    by_cases hin : 0 ≤ x ∧ x < 6
    · obtain ⟨k, rfl⟩ := Int.eq_ofNat_of_zero_le hin.1
      have hk : k < 6 := by omega
      have hb : bitI (k : Int) = 2 ^ k := by unfold bitI; rw [if_pos hin]; rfl
      have hk64 : 2 ^ k < 64 := by rw [← hb]; exact bitI_lt _
      have hw : IntKind.i64.wrap ((2 : Int) ^ k) = ((2 ^ k : Nat) : Int) := by
        rw [show ((2 : Int) ^ k) = ((2 ^ k : Nat) : Int) by simp, IntKind.wrap_i64]; omega
      have hor : bits .or .i64 (u : Int) ((2 ^ k : Nat) : Int) = (z : Int) := by
        rw [← hz, hb]; exact i64_or_nat u _ (by omega) (by omega)
      obtain ⟨b, hbb⟩ : ∃ b, 2 ^ k = b := ⟨_, rfl⟩
      rw [hbb] at hw hor
      have h0 : (0 : Int) ≤ (k : Int) := by omega
      have h6 : (k : Int) < 6 := by omega
      clear hb hk64 hz hin hbb hu64
      go_wp2_with fail
      obtain ⟨g1, rfl⟩ : ∃ g1, gk = g1 + 1 := ⟨gk - 1, by omega⟩
      go_roundg g1
      case rel => exact Lib.hid ⟨j + 1, by go_num, by omega, by rw [HU.out], HF.out⟩
      all_goals omega
    · have hb : bitI x = 0 := by unfold bitI; rw [if_neg hin]
      have HZ : Hid (u = z) := Lib.hid (by rw [← hz, hb, Nat.or_zero])
      clear hb hz hu64
      have hcase : (x < 0 ∧ (decide ((0 : Int) ≤ x)) = false) ∨ ((0 : Int) ≤ x ∧ ¬ x < 6) := by
        rcases Int.lt_or_le x 0 with h | h
        · exact .inl ⟨h, decide_eq_false (by omega)⟩
        · exact .inr ⟨h, by omega⟩
      clear hin
      rcases hcase with ⟨h1, h2⟩ | ⟨h1, h2⟩
      all_goals
        go_wp2_with fail
        obtain ⟨g1, rfl⟩ : ∃ g1, gk = g1 + 1 := ⟨gk - 1, by omega⟩
        go_roundg g1
        case rel => exact Lib.hid ⟨j + 1, by go_num, by omega, by rw [HU.out, HZ.out], HF.out⟩
        all_goals omega
  · have hji : (n : Int) ≤ (j : Int) := by omega
    have HT : Hid (l.take j = l) := Lib.hid (List.take_of_length_le (by rw [HN.out]; omega))
    have HF := Lib.hid hf
    clear hf
    go_wp2_with fail
    go_ret
    exact ⟨by rw [HT.out]; rfl, HF.out⟩
end Go.Proofs.Ythejnkpnpckmbaa
