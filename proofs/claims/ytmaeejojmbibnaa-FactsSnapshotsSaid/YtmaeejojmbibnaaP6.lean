/- As many texts as may be, plain. -/
import Derived.Test.YtmaeejojmbibnaaJ2
namespace Go.Proofs.Ytmaeejojmbibnaa
set_option linter.unusedVariables false

theorem addAll_le (d : Nat) : ∀ (l : List FactP) (L : List Tx), (addAll L d l).length ≤ L.length + l.length
  | [], L => by simp [addAll]
  | f :: l, L => by
    have h := addAll_le d l (addT L (f.dim d))
    have h2 : (addT L (f.dim d)).length ≤ L.length + 1 := by
      by_cases e : f.dim d ∈ L
      · rw [addT_in e]; omega
      · rw [addT_out e]; simp
    show (addAll (addT L (f.dim d)) d l).length ≤ _
    simp only [List.length_cons]; omega
theorem vals_le (l : List FactP) (d : Nat) : (vals l d).length ≤ l.length := by have := addAll_le d l []; simpa [vals] using this
theorem addAll_new (d : Nat) : ∀ (l : List FactP) (L : List Tx), (L ++ l.map (·.dim d)).Nodup → addAll L d l = L ++ l.map (·.dim d)
  | [], L, _ => by simp [addAll]
  | f :: l, L, h => by
    have hm : f.dim d ∉ L := fun hx => by
      rw [List.nodup_append] at h
      exact h.2.2 _ hx _ (by simp) rfl
    show addAll (addT L (f.dim d)) d l = _
    rw [addT_out hm, addAll_new d l _ (by simpa using h)]
    simp
theorem addAll_old (d : Nat) : ∀ (l : List FactP) (L : List Tx), (∀ f ∈ l, f.dim d ∈ L) → addAll L d l = L
  | [], L, _ => rfl
  | f :: l, L, h => by
    show addAll (addT L (f.dim d)) d l = _
    rw [addT_in (h f (by simp)), addAll_old d l L fun g hg => h g (by simp [hg])]

def suf (i k : Nat) : List UInt8 := [UInt8.ofNat i, UInt8.ofNat k]
def ft (b : List UInt8) (i k : Nat) : Tx := b ++ suf i k
def fF (b : List UInt8) (i k : Nat) : FactP := ⟨[ft b i k], [1]⟩
def batF (b : List UInt8) (i : Nat) : List FactP := (List.range 64).map (fF b i)
def BF (b : List UInt8) (i : Nat) : List (List FactP) := (List.range i).map (batF b)
theorem batF_len (b : List UInt8) (i : Nat) : (batF b i).length = 64 := by simp [batF]
theorem BF_len (b : List UInt8) (i : Nat) : (BF b i).length = i := by simp [BF]
theorem BF_succ (b : List UInt8) (i : Nat) : BF b (i + 1) = BF b i ++ [batF b i] := by simp [BF, List.range_succ]
theorem BF_flat_len (b : List UInt8) : ∀ i, (BF b i).flatten.length = 64 * i
  | 0 => rfl
  | i + 1 => by rw [BF_succ, List.flatten_append, List.length_append, BF_flat_len b i]; simp [batF_len]; omega
theorem ft_len (b : List UInt8) (i k : Nat) : (ft b i k).length = b.length + 2 := by simp [ft, suf]
theorem ft_inj {b : List UInt8} {i k j m : Nat} (hi : i < 64) (hk : k < 64) (hj : j < 64) (hm : m < 64) (h : ft b i k = ft b j m) : i = j ∧ k = m := by
  have h2 := List.append_cancel_left h
  unfold suf at h2
  simp only [List.cons.injEq, and_true] at h2
  obtain ⟨h3, h4⟩ := h2
  have h5 := congrArg UInt8.toNat h3
  have h6 := congrArg UInt8.toNat h4
  simp only [UInt8.toNat_ofNat'] at h5 h6
  omega
theorem batF_fit {b : List UInt8} (hb : b.length ≤ 60) (i : Nat) : ∀ f ∈ batF b i, f.Fits 1 1 := by
  intro f hf
  obtain ⟨k, hk, rfl⟩ := List.mem_map.1 hf
  refine ⟨rfl, rfl, fun t ht => ?_⟩
  have ht' : t = ft b i k := by simpa [fF] using ht
  rw [ht', ft_len]; omega
theorem full_chk {b : List UInt8} (hb : b.length ≤ 60) {i : Nat} (hi : i < 64) : chkB 1 1 (BF b i) (batF b i) = 0 :=
  chkB_ok (by rw [batF_len]; omega) (batF_fit hb i) fun d hd => by
    have := vals_le ((BF b i).flatten ++ batF b i) d
    rw [List.length_append, BF_flat_len, batF_len] at this
    omega
theorem BF_dims (b : List UInt8) : ∀ i, (BF b i).flatten.map (·.dim 0) = (List.range i).flatMap fun j => (List.range 64).map (ft b j)
  | 0 => rfl
  | i + 1 => by
    rw [BF_succ, List.flatten_append, List.map_append, BF_dims b i, List.range_succ (n := i), List.flatMap_append]
    simp [batF, fF, FactP.dim, Function.comp_def]
theorem BF_nodup (b : List UInt8) : ∀ i, i ≤ 64 → ((List.range i).flatMap fun j => (List.range 64).map (ft b j)).Nodup
  | 0, _ => List.nodup_nil
  | i + 1, h => by
    rw [List.range_succ (n := i), List.flatMap_append, List.nodup_append]
    refine ⟨BF_nodup b i (by omega), ?_, ?_⟩
    · rw [List.flatMap_singleton]
      unfold List.Nodup
      rw [List.pairwise_map]
      refine List.Pairwise.imp_of_mem (R := (· < ·)) ?_ List.pairwise_lt_range
      intro x y hx hy hlt e
      have := (ft_inj (b := b) (i := i) (j := i) (by omega) (by simpa using hx) (by omega) (by simpa using hy) e).2
      omega
    · rintro x hx y hy rfl
      obtain ⟨j, hj, hx⟩ := List.mem_flatMap.1 hx
      obtain ⟨k, hk, rfl⟩ := List.mem_map.1 hx
      rw [List.flatMap_singleton] at hy
      obtain ⟨m, hm, e⟩ := List.mem_map.1 hy
      have hj' : j < i := by simpa using hj
      have := (ft_inj (b := b) (i := i) (k := m) (j := j) (m := k) (by omega) (by simpa using hm) (by omega) (by simpa using hk) e).1
      omega
theorem BF_vals (b : List UInt8) : vals (BF b 64).flatten 0 = (List.range 64).flatMap fun j => (List.range 64).map (ft b j) := by
  have h := addAll_new 0 (BF b 64).flatten [] (by rw [List.nil_append, BF_dims]; exact BF_nodup b 64 (by omega))
  unfold vals
  rw [h, List.nil_append, BF_dims]
theorem BF_vals_len (b : List UInt8) : (vals (BF b 64).flatten 0).length = 4096 := by
  have h := addAll_new 0 (BF b 64).flatten [] (by rw [List.nil_append, BF_dims]; exact BF_nodup b 64 (by omega))
  unfold vals
  rw [h, List.nil_append, List.length_map, BF_flat_len]
def oldF (b : List UInt8) : FactP := ⟨[b ++ [3, 4]], [2]⟩
def freshF (b : List UInt8) : FactP := ⟨[b ++ [110, 101, 119]], [3]⟩
theorem old_in (b : List UInt8) : b ++ [3, 4] ∈ vals (BF b 64).flatten 0 := by
  rw [BF_vals]
  exact List.mem_flatMap.2 ⟨3, by simp, List.mem_map.2 ⟨4, by simp, rfl⟩⟩
theorem fresh_out (b : List UInt8) : b ++ [110, 101, 119] ∉ vals (BF b 64).flatten 0 := by
  rw [BF_vals]
  intro h
  obtain ⟨j, _, h⟩ := List.mem_flatMap.1 h
  obtain ⟨k, _, e⟩ := List.mem_map.1 h
  have := congrArg List.length e
  rw [ft_len] at this
  simp at this
theorem oldF_fit {b : List UInt8} (hb : b.length ≤ 60) : (oldF b).Fits 1 1 := ⟨rfl, rfl, fun t ht => by
  have ht' : t = b ++ [3, 4] := by simpa [oldF] using ht
  rw [ht']; simp; omega⟩
theorem freshF_fit {b : List UInt8} (hb : b.length ≤ 60) : (freshF b).Fits 1 1 := ⟨rfl, rfl, fun t ht => by
  have ht' : t = b ++ [110, 101, 119] := by simpa [freshF] using ht
  rw [ht']; simp; omega⟩
theorem old_vals (b : List UInt8) (k : Nat) : vals ((BF b 64).flatten ++ List.replicate k (oldF b)) 0 = vals (BF b 64).flatten 0 := by
  rw [vals_append, addAll_old]
  intro f hf
  rw [List.eq_of_mem_replicate hf]
  exact old_in b
theorem full_old {b : List UInt8} (hb : b.length ≤ 60) {k : Nat} (hk : k ≤ 20) : chkB 1 1 (BF b 64) (List.replicate k (oldF b)) = 0 :=
  chkB_ok (by simp; omega) (fun f hf => by rw [List.eq_of_mem_replicate hf]; exact oldF_fit hb) fun d hd => by
    obtain rfl : d = 0 := by omega
    rw [old_vals, BF_vals_len]; omega
theorem full_more {b : List UInt8} (hb : b.length ≤ 60) {k : Nat} (hk : k ≤ 20) : chkB 1 1 (BF b 64) (List.replicate k (oldF b) ++ [freshF b]) = 12 := by
  have hv : (vals ((BF b 64).flatten ++ (List.replicate k (oldF b) ++ [freshF b])) 0).length = 4097 := by
    rw [← List.append_assoc, vals_snoc, old_vals, show (freshF b).dim 0 = b ++ [110, 101, 119] from rfl, addT_out (fresh_out b), List.length_append, BF_vals_len]; rfl
  unfold chkB
  have e1 : (List.replicate k (oldF b) ++ [freshF b]).all (fun f => decide (f.Fits 1 1)) = true := by
    rw [List.all_eq_true]
    intro f hf
    rcases List.mem_append.1 hf with h | h
    · rw [List.eq_of_mem_replicate h]; exact decide_eq_true (oldF_fit hb)
    · rw [List.mem_singleton.1 h]; exact decide_eq_true (freshF_fit hb)
  have e2 : anyTo (fun d => decide (4096 < (vals ((BF b 64).flatten ++ (List.replicate k (oldF b) ++ [freshF b])) d).length)) 1 = true := by
    unfold anyTo
    simp [hv]
  rw [if_neg (by simp; omega), e1, e2]; rfl
theorem full_end (b : List UInt8) (k : Nat) : mtc (BF b 64 ++ [List.replicate k (oldF b)]) 0 (b ++ [110, 101, 119]) 99 = 0 ∧ (vals (BF b 64 ++ [List.replicate k (oldF b)]).flatten 0).length = 4096 ∧ (BF b 64 ++ [List.replicate k (oldF b)]).flatten.length = 4096 + k := by
  have e : (BF b 64 ++ [List.replicate k (oldF b)]).flatten = (BF b 64).flatten ++ List.replicate k (oldF b) := by simp
  refine ⟨?_, by rw [e, old_vals, BF_vals_len], by rw [e, List.length_append, BF_flat_len]; simp⟩
  unfold mtc
  refine hits_none fun hx => ?_
  obtain ⟨f, hf, ef⟩ := mem_vals.1 hx
  rw [upTo_eq] at hf
  have h2 := mem_vals.2 ⟨f, List.mem_of_mem_take hf, ef⟩
  rw [e, old_vals] at h2
  exact fresh_out b h2
end Go.Proofs.Ytmaeejojmbibnaa
