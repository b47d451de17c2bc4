/- As many texts as may be, plain. -/
import Derived.Test.YtlglfcadoofmpaaA9
namespace Go.Proofs.Ytlglfcadoofmpaa
set_option linter.unusedVariables false

def suf (k : Nat) : List UInt8 := [UInt8.ofNat k, UInt8.ofNat (k / 256)]
def ft (b : List UInt8) (k : Nat) : Tx := b ++ suf k
def FL (b : List UInt8) (k : Nat) : List Tx := (List.range k).map (ft b)
theorem FL_len (b : List UInt8) (k : Nat) : (FL b k).length = k := by simp [FL]
theorem ft_len (b : List UInt8) (k : Nat) : (ft b k).length = b.length + 2 := by simp [ft, suf]
theorem ft_inj {b : List UInt8} {i j : Nat} (hi : i < 65536) (hj : j < 65536) (h : ft b i = ft b j) : i = j := by
  have h2 := List.append_cancel_left h
  unfold suf at h2
  simp only [List.cons.injEq, and_true] at h2
  obtain ⟨h3, h4⟩ := h2
  have h5 := congrArg UInt8.toNat h3
  have h6 := congrArg UInt8.toNat h4
  simp only [UInt8.toNat_ofNat'] at h5 h6
  omega
theorem FL_num {b : List UInt8} {k : Nat} (hk : k ≤ 65536) {t : Tx} (ht : ∀ i, i < k → ft b i ≠ t) : num (FL b k) t = none := by
  rw [num_none]
  intro hm
  obtain ⟨i, hi, e⟩ := List.mem_map.1 hm
  exact ht i (by simpa using hi) e
theorem FL_num_some {b : List UInt8} {k i : Nat} (hk : k ≤ 65536) (hi : i < k) : num (FL b k) (ft b i) = some i := by
  cases h : num (FL b k) (ft b i) with
  | none =>
    rw [num_none] at h
    exact absurd (List.mem_map.2 ⟨i, by simpa using hi, rfl⟩) h
  | some m =>
    obtain ⟨h1, h2⟩ := num_some h
    rw [FL_len] at h1
    rw [txt_get (by rw [FL_len]; exact h1)] at h2
    simp only [FL, List.getElem_map, List.getElem_range] at h2
    rw [ft_inj (by omega) (by omega) h2]
theorem FL_next (b : List UInt8) (k : Nat) : FL b (k + 1) = FL b k ++ [ft b k] := by simp [FL, List.range_succ]
theorem full_put {b : List UInt8} {k : Nat} (hb : b.length ≤ 60) (hk : k < 4096) : putL (FL b k) (ft b k) = FL b (k + 1) ∧ putN (FL b k) (ft b k) = k ∧ putE (FL b k) (ft b k) = 0 := by
  have hl : ¬ 64 < (ft b k).length := by rw [ft_len]; omega
  have hn : num (FL b k) (ft b k) = none := FL_num (by omega) fun i hi e => by have := ft_inj (by omega) (by omega) e; omega
  have hf : ¬ (FL b k).length = 4096 := by rw [FL_len]; omega
  unfold putL putN putE
  rw [if_neg hl, if_neg hl, if_neg hl, hn]
  simp only [if_neg hf]
  exact ⟨(FL_next b k).symm, by rw [FL_len], trivial⟩
theorem full_more {b : List UInt8} (hb : b.length ≤ 60) : putL (FL b 4096) (b ++ [97, 98, 99]) = FL b 4096 ∧ putN (FL b 4096) (b ++ [97, 98, 99]) = 0 ∧ putE (FL b 4096) (b ++ [97, 98, 99]) = 12 := by
  have hl : ¬ 64 < (b ++ [97, 98, 99]).length := by simp; omega
  have hn : num (FL b 4096) (b ++ [97, 98, 99]) = none := FL_num (by omega) fun i hi e => by
    have := congrArg List.length e
    rw [ft_len] at this
    simp at this
  have hf : (FL b 4096).length = 4096 := FL_len _ _
  unfold putL putN putE
  rw [if_neg hl, if_neg hl, if_neg hl, hn]
  simp only [if_pos hf]
  exact ⟨trivial, trivial, trivial⟩
theorem full_old {b : List UInt8} (hb : b.length ≤ 60) : putL (FL b 4096) (b ++ [5, 0]) = FL b 4096 ∧ putN (FL b 4096) (b ++ [5, 0]) = 5 ∧ putE (FL b 4096) (b ++ [5, 0]) = 0 := by
  have hl : ¬ 64 < (b ++ [5, 0]).length := by simp; omega
  have e : b ++ [5, 0] = ft b 5 := rfl
  have hn : num (FL b 4096) (b ++ [5, 0]) = some 5 := by rw [e]; exact FL_num_some (by omega) (by omega)
  unfold putL putN putE
  rw [if_neg hl, if_neg hl, if_neg hl, hn]
  exact ⟨rfl, rfl, rfl⟩
end Go.Proofs.Ytlglfcadoofmpaa
