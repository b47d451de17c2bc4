/- Facts over more than one segment, plain. -/
import Derived.Test.YtmaeejojmbibnaaP6
namespace Go.Proofs.Ytmaeejojmbibnaa
set_option linter.unusedVariables false

def tM (b : List UInt8) (p : Nat) : Tx := b ++ [UInt8.ofNat (97 + p % 64 % 3)]
def fM (b : List UInt8) (p : Nat) : FactP := ⟨[tM b p], [(p : Int), -(p : Int)]⟩
def batM (b : List UInt8) (i : Nat) : List FactP := (List.range 64).map fun k => fM b (i * 64 + k)
def BM (b : List UInt8) (i : Nat) : List (List FactP) := (List.range i).map (batM b)
theorem batM_len (b : List UInt8) (i : Nat) : (batM b i).length = 64 := by simp [batM]
theorem BM_len (b : List UInt8) (i : Nat) : (BM b i).length = i := by simp [BM]
theorem BM_succ (b : List UInt8) (i : Nat) : BM b (i + 1) = BM b i ++ [batM b i] := by simp [BM, List.range_succ (n := i)]
theorem range_blk (f : Nat → FactP) (i : Nat) : (List.range (64 * i)).map f ++ (List.range 64).map (fun k => f (i * 64 + k)) = (List.range (64 * (i + 1))).map f := by
  apply List.ext_getElem?
  intro p
  by_cases h : p < 64 * i
  · rw [List.getElem?_append_left (by simpa using h), List.getElem?_map, List.getElem?_map, List.getElem?_range h, List.getElem?_range (by omega)]
  · rw [List.getElem?_append_right (by simp; omega), List.length_map, List.length_range, List.getElem?_map, List.getElem?_map]
    by_cases h2 : p - 64 * i < 64
    · rw [List.getElem?_range h2, List.getElem?_range (by omega)]
      simp only [Option.map_some]
      congr 2; omega
    · rw [List.getElem?_eq_none (by simpa using h2), List.getElem?_eq_none (by simp; omega)]; rfl
theorem BM_flat (b : List UInt8) : ∀ i, (BM b i).flatten = (List.range (64 * i)).map (fM b)
  | 0 => rfl
  | i + 1 => by
    rw [BM_succ, List.flatten_append, BM_flat b i, List.flatten_singleton]
    exact range_blk (fM b) i
theorem BM_flat_len (b : List UInt8) (i : Nat) : (BM b i).flatten.length = 64 * i := by rw [BM_flat]; simp
theorem tM_len (b : List UInt8) (p : Nat) : (tM b p).length = b.length + 1 := by simp [tM]
theorem fM_fit {b : List UInt8} (hb : b.length ≤ 60) (p : Nat) : (fM b p).Fits 1 2 := ⟨rfl, rfl, fun t ht => by
  have ht' : t = tM b p := by simpa [fM] using ht
  rw [ht', tM_len]; omega⟩
theorem many_chk {b : List UInt8} (hb : b.length ≤ 60) {i : Nat} (hi : i < 30) : chkB 1 2 (BM b i) (batM b i) = 0 :=
  chkB_ok (by rw [batM_len]; omega) (fun f hf => by obtain ⟨k, _, rfl⟩ := List.mem_map.1 hf; exact fM_fit hb _) fun d hd => by
    have := vals_le ((BM b i).flatten ++ batM b i) d
    rw [List.length_append, BM_flat_len, batM_len] at this
    omega
theorem fM_dim (b : List UInt8) (p : Nat) : (fM b p).dim 0 = tM b p := rfl
theorem tM_inj {b : List UInt8} {p q : Nat} (h : tM b p = tM b q) : p % 64 % 3 = q % 64 % 3 := by
  have h2 := List.append_cancel_left h
  simp only [List.cons.injEq, and_true] at h2
  have h5 := congrArg UInt8.toNat h2
  simp only [UInt8.toNat_ofNat'] at h5
  omega
theorem tM_mod (b : List UInt8) {p q : Nat} (h : p % 64 % 3 = q % 64 % 3) : tM b p = tM b q := by unfold tM; rw [h]
theorem many_vals (b : List UInt8) {n : Nat} (hn : 0 < n) : (vals (BM b n).flatten 0).length = 3 := by
  have e : (BM b n).flatten = [fM b 0, fM b 1, fM b 2] ++ ((List.range (64 * n)).map (fM b)).drop 3 := by
    rw [BM_flat]
    have h3 : ((List.range (64 * n)).map (fM b)).take 3 = [fM b 0, fM b 1, fM b 2] := by
      rw [← List.map_take, List.take_range, Nat.min_eq_left (by omega)]; rfl
    rw [← h3, List.take_append_drop]
  have hv : vals [fM b 0, fM b 1, fM b 2] 0 = [tM b 0, tM b 1, tM b 2] := by
    have h := addAll_new 0 [fM b 0, fM b 1, fM b 2] [] (by
      simp only [List.map_cons, List.map_nil, List.nil_append, fM_dim, List.nodup_cons, List.mem_cons, List.not_mem_nil, or_false, not_or, List.nodup_nil, and_true, not_false_eq_true]
      exact ⟨⟨fun e => by have := tM_inj e; omega, fun e => by have := tM_inj e; omega⟩, fun e => by have := tM_inj e; omega⟩)
    exact h
  rw [e, vals_append, addAll_old, hv]; rfl
  intro f hf
  obtain ⟨p, _, rfl⟩ := List.mem_map.1 (List.mem_of_mem_drop hf)
  rw [hv, fM_dim]
  have : p % 64 % 3 = 0 ∨ p % 64 % 3 = 1 ∨ p % 64 % 3 = 2 := by omega
  rcases this with h | h | h
  · have e := tM_mod b (p := p) (q := 0) (h.trans rfl)
    rw [e]; simp
  · have e := tM_mod b (p := p) (q := 1) (h.trans rfl)
    rw [e]; simp
  · have e := tM_mod b (p := p) (q := 2) (h.trans rfl)
    rw [e]; simp
theorem bat_hits (b : List UInt8) (i : Nat) : hits (batM b i) 0 (b ++ [97]) = 22 := by
  unfold hits batM
  rw [List.countP_map]
  have e : ((fun f : FactP => decide (f.dim 0 = b ++ [97])) ∘ fun k => fM b (i * 64 + k)) = fun k => decide ((i * 64 + k) % 64 % 3 = 0) := by
    funext k
    have e97 : b ++ [97] = tM b 0 := rfl
    simp only [Function.comp, fM_dim, e97]
    congr 1
    apply propext
    exact ⟨fun h => by have := tM_inj h; omega, fun h => tM_mod b (by omega)⟩
  rw [e]
  have e2 : ∀ k ∈ List.range 64, (decide ((i * 64 + k) % 64 % 3 = 0) = true ↔ decide (k % 3 = 0) = true) := fun k hk => by
    have : k < 64 := by simpa using hk
    have hm : (i * 64 + k) % 64 = k := by omega
    rw [hm]
  rw [List.countP_congr e2]
  decide
theorem many_hits (b : List UInt8) : ∀ n, hits (BM b n).flatten 0 (b ++ [97]) = 22 * n
  | 0 => rfl
  | n + 1 => by rw [BM_succ, List.flatten_append, hits_append, many_hits b n, List.flatten_singleton, bat_hits]; omega
theorem slc_all (B : List (List FactP)) : slc B 0 (B.length : Nat) = B.flatten := by
  have h1 : lowS B (B.length : Nat) = B.flatten.length := by simp [lowS, clampN]
  unfold slc
  rw [lowS_zero, highS_zero, h1, List.take_length, List.drop_zero]
theorem upTo_all (B : List (List FactP)) : upTo B (B.length : Nat) = B.flatten := by simp [upTo, clampN]
theorem many_end (b : List UInt8) (n : Nat) : slc (BM b n) 0 (n : Nat) = (BM b n).flatten ∧ mtc (BM b n) 0 (b ++ [97]) (n : Nat) = 22 * n := by
  have h := slc_all (BM b n)
  have h2 := upTo_all (BM b n)
  rw [BM_len] at h h2
  exact ⟨h, by unfold mtc; rw [h2, many_hits]⟩
end Go.Proofs.Ytmaeejojmbibnaa
