/- Index, Contains, and the closures that ask them. -/
import Derived.Test.YthejnkpnpckmbaaA7
namespace Go.Proofs.Ythejnkpnpckmbaa
open Go.RowKit Go.Maps
set_option linter.unusedVariables false

theorem idx_at {l : List Tx} {t : Tx} {j : Nat} (h : j < l.length) (hn : ∀ i (hi : i < j), l[i]'(by omega) ≠ t) (he : l[j] = t) : idxI l t = (j : Int) := by
  unfold idxI
  have : l.findIdx? (· == t) = some j := by
    rw [List.findIdx?_eq_some_iff_getElem]
    exact ⟨h, by simp [he], fun i hi => by simp [hn i hi]⟩
  rw [this]
theorem idx_none {l : List Tx} {t : Tx} (hn : ∀ i (hi : i < l.length), l[i] ≠ t) : idxI l t = -1 := by
  unfold idxI
  have : l.findIdx? (· == t) = none := by
    rw [List.findIdx?_eq_none_iff]
    intro x hx
    obtain ⟨i, hi, e⟩ := List.mem_iff_getElem.1 hx
    simp only [beq_eq_false_iff_ne]
    rw [← e]; exact hn i hi
  rw [this]
theorem idx_any (l : List Tx) (t : Tx) : decide (0 ≤ idxI l t) = l.any (· == t) := by
  unfold idxI
  cases h : l.findIdx? (· == t) with
  | none =>
    rw [List.findIdx?_eq_none_iff] at h
    have : l.any (· == t) = false := by rw [List.any_eq_false]; intro x hx; simp [h x hx]
    rw [this]; decide
  | some j =>
    rw [List.findIdx?_eq_some_iff_getElem] at h
    obtain ⟨h1, h2, _⟩ := h
    have : l.any (· == t) = true := List.any_eq_true.2 ⟨_, List.getElem_mem h1, h2⟩
    rw [this]
    exact decide_eq_true (by show (0 : Int) ≤ (j : Int); omega)
theorem idx_lt (l : List Tx) (t : Tx) : idxI l t < (l.length : Int) ∧ -1 ≤ idxI l t := by
  unfold idxI
  cases h : l.findIdx? (· == t) with
  | none => exact ⟨by show (-1 : Int) < _; omega, Int.le_refl _⟩
  | some j =>
    rw [List.findIdx?_eq_some_iff_getElem] at h
    obtain ⟨h1, _⟩ := h
    exact ⟨by show (j : Int) < _; omega, by show (-1 : Int) ≤ (j : Int); omega⟩

set_option maxRecDepth 100000 in
theorem index_any {K : Nat → Prop} {l : List Tx} {v : Value} (t : Tx) (w : World) (h : RowE K w 1 (strG K w) v l) : Calls Try.prog 35 #[v, sv t] w (TellsI (idxI l t) w) := by
  obtain ⟨A, c, rfl, hlc, hcm, hrow⟩ := h
  obtain ⟨n, hn⟩ : ∃ n, l.length = n := ⟨_, rfl⟩
  rw [hn] at hlc ⊢
  have HROW := Lib.hid hrow
  have HN := Lib.hid hn
  unfold maxLen at hcm
  clear hrow hn
  go_enter Try.func35, Try.ntmps35
  go_wp2_with fail
  go_loopg [5, 8] n (fun k r5 r8 wr => Hid (∃ j : Nat, r8 = .int .i64 (j : Nat) ∧ j + k = n ∧ (∀ i (hi : i < j) (hl : i < l.length), l[i] ≠ t) ∧ Fr No w wr))
  case atStart => exact Lib.hid ⟨0, rfl, by omega, fun i hi => absurd hi (by omega), Fr.refl _ _⟩
  case round =>
  obtain ⟨j, rfl, hjn, hnot, hf⟩ := hrel.out
  clear hrel
  have HNOT := Lib.hid hnot
  have HF := Lib.hid hf
  clear hnot
  by_cases hj : j < n
  · have hji : (j : Int) < (n : Int) := by omega
    have hjl : j < l.length := by rw [HN.out]; exact hj
    obtain ⟨g, off, rfl, hK, hg, hel⟩ := HROW.out (by omega)
    obtain ⟨cs, hcl, hcs, hE⟩ := hel j hjl
    obtain ⟨hE, hi⟩ := hE
    have e0 : wr.cell? ⟨g, off + j, none⟩ = some (sv l[j]) := (cell_of_heap (hf.block g hg id)).trans (by have := hcs 0 (by decide); rw [hE] at this; simpa using this)
    obtain ⟨x, hx⟩ : ∃ x, l[j] = x := ⟨_, rfl⟩
    have HX := Lib.hid hx
    rw [hx] at e0
    clear hcs hcl hel hK hf hE hx hi
    by_cases hxt : t = x
    · have HV : Hid (idxI l t = (j : Int)) := Lib.hid (idx_at hjl (fun i hi => HNOT.out i hi (by omega)) (by rw [HX.out]; exact hxt.symm))
      have hb : (t == x) = true := by rw [hxt]; simp
      clear hxt
      go_wp2_with fail
      go_ret
      exact ⟨by rw [HV.out]; rfl, HF.out⟩
    · have hb : (t == x) = false := by simpa using hxt
      have HT : Hid (∀ i (hi : i < j + 1) (hl : i < l.length), l[i] ≠ t) := Lib.hid fun i hi hl => by
        rcases Nat.lt_or_ge i j with h | h
        · exact HNOT.out i h hl
        · obtain rfl : i = j := by omega
          rw [HX.out]; exact fun e => hxt e.symm
      clear hxt
      go_wp2_with fail
      obtain ⟨g1, rfl⟩ : ∃ g1, gk = g1 + 1 := ⟨gk - 1, by omega⟩
      go_roundg g1
      case rel => exact Lib.hid ⟨j + 1, by go_num, by omega, HT.out, HF.out⟩
      all_goals omega
  · have hji : (n : Int) ≤ (j : Int) := by omega
    have HV : Hid (idxI l t = -1) := Lib.hid (idx_none fun i hi => HNOT.out i (by have := HN.out; omega) hi)
    clear hf
    go_wp2_with fail
    go_ret
    exact ⟨by rw [HV.out]; rfl, HF.out⟩
theorem contains_any {K : Nat → Prop} {l : List Tx} {v : Value} (t : Tx) (w : World) (h : RowE K w 1 (strG K w) v l) : Calls Try.prog 27 #[v, sv t] w (TellsB (l.any (· == t)) w) := by
  have HC := Lib.hid (index_any t w h)
  have HV := Lib.hid (idx_any l t)
  obtain ⟨A, c, rfl, _⟩ := h
  generalize idxI l t = i at *
  go_enter Try.func27, Try.ntmps27
  go_wp2_with fail
  refine HC.out.mono ?_
  rintro e w1 ⟨rfl, f1⟩
  have HF := Lib.hid f1
  clear f1
  go_wp2_with fail
  go_ret
  exact ⟨by rw [← HV.out]; rfl, HF.out⟩
/-- A box that holds a row of names. -/
def BoxAt (K : Nat → Prop) (w : World) (b : Nat) (l : List Tx) : Prop := ∃ A c, Blk w b 23 #[.slice A l.length c] ∧ RowE K w 1 (strG K w) (.slice A l.length c) l
theorem BoxAt.at_ {K : Nat → Prop} {w w' : World} {b : Nat} {l : List Tx} (h : BoxAt K w b l) (f : Fr No w w') : BoxAt K w' b l := by
  obtain ⟨A, c, h1, h2⟩ := h
  exact ⟨A, c, h1.of (f.block _ h1.lt id), h2.at_ strG_elem f⟩
theorem unk_any {K : Nat → Prop} {dims : List Tx} {b : Nat} (t : Tx) (w : World) (h : BoxAt K w b dims) : Calls Try.prog 26 #[sv t, .pointer (some ⟨b, 0, none⟩)] w (TellsB (unkB dims t) w) := by
  obtain ⟨A, c, hb, hr⟩ := h
  have HC := Lib.hid (contains_any t w hr)
  have c0 : w.cell? ⟨b, 0, none⟩ = some (.slice A dims.length c) := hb.cell 0
  have HV : Hid (unkB dims t = !(dims.any (· == t))) := Lib.hid rfl
  clear hb hr
  generalize dims.any (· == t) = x at *
  go_enter Try.func26, Try.ntmps26
  go_wp2_with fail
  refine HC.out.mono ?_
  rintro e w1 ⟨rfl, f1⟩
  have HF := Lib.hid f1
  clear f1
  go_wp2_with fail
  go_ret
  exact ⟨by rw [HV.out]; rfl, HF.out⟩
end Go.Proofs.Ythejnkpnpckmbaa
