/- Facts counted value by value, plain. -/
import Derived.Test.YtmaeejojmbibnaaP7
namespace Go.Proofs.Ytmaeejojmbibnaa
set_option linter.unusedVariables false

def sumH (F : List FactP) (d : Nat) (L : List Tx) : Nat := (L.map (hits F d)).sum
theorem hits_cons (f : FactP) (l : List FactP) (d : Nat) (t : Tx) : hits (f :: l) d t = hits l d t + if f.dim d = t then 1 else 0 := by
  unfold hits
  rw [List.countP_cons]
  by_cases h : f.dim d = t <;> simp [h]
theorem sum_add (L : List Tx) (a b : Tx → Nat) : (L.map fun t => a t + b t).sum = (L.map a).sum + (L.map b).sum := by
  induction L with
  | nil => rfl
  | cons x L ih => simp only [List.map_cons, List.sum_cons, ih]; omega
theorem sum_ind (x : Tx) : ∀ (L : List Tx), L.Nodup → (L.map fun t => if x = t then 1 else 0).sum = if x ∈ L then 1 else 0
  | [], _ => rfl
  | y :: L, h => by
    rw [List.nodup_cons] at h
    simp only [List.map_cons, List.sum_cons, sum_ind x L h.2]
    by_cases e : x = y
    · subst e
      simp [h.1]
    · simp [e]
theorem sumH_cons (f : FactP) (l : List FactP) (d : Nat) {L : List Tx} (hn : L.Nodup) : sumH (f :: l) d L = sumH l d L + if f.dim d ∈ L then 1 else 0 := by
  unfold sumH
  have e : (fun t => hits (f :: l) d t) = fun t => hits l d t + if f.dim d = t then 1 else 0 := funext fun t => hits_cons f l d t
  rw [show hits (f :: l) d = fun t => hits (f :: l) d t from rfl, e, sum_add, sum_ind _ L hn]
theorem sum_zero : ∀ L : List Tx, (L.map fun _ => 0).sum = 0
  | [] => rfl
  | x :: L => by rw [List.map_cons, List.sum_cons, sum_zero L]
theorem sumH_le (d : Nat) {L : List Tx} (hn : L.Nodup) : ∀ l : List FactP, sumH l d L ≤ l.length
  | [] => by
    have : sumH [] d L = 0 := by
      unfold sumH
      have : (L.map (hits [] d)) = L.map fun _ => 0 := List.map_congr_left fun t _ => rfl
      rw [this]
      exact sum_zero L
    rw [this]; exact Nat.zero_le _
  | f :: l => by
    rw [sumH_cons f l d hn, List.length_cons]
    have := sumH_le d hn l
    split <;> omega
theorem sumH_all (d : Nat) {L : List Tx} (hn : L.Nodup) : ∀ l : List FactP, (∀ f ∈ l, f.dim d ∈ L) → sumH l d L = l.length
  | [], _ => by have := sumH_le d hn []; simpa using this
  | f :: l, h => by
    rw [sumH_cons f l d hn, sumH_all d hn l fun g hg => h g (by simp [hg]), if_pos (h f (by simp)), List.length_cons]
theorem sumH_vals (F : List FactP) (d : Nat) : sumH F d (vals F d) = F.length := sumH_all d (vals_nodup F d) F fun f hf => mem_vals.2 ⟨f, hf, rfl⟩
/-- Up to the i-th fact. -/
theorem vals_next {F : List FactP} {i : Nat} (h : i < F.length) (d : Nat) : vals (F.take (i + 1)) d = addT (vals (F.take i) d) (F[i].dim d) := by
  rw [List.take_succ_eq_append_getElem h, vals_snoc]
theorem sumH_more (F : List FactP) (d : Nat) (L : List Tx) (t : Tx) : sumH F d (L ++ [t]) = sumH F d L + hits F d t := by simp [sumH]
theorem sound_chk {Bs : List (List FactP)} {L : List FactP} (hb : Bs.flatten.length ≤ 64 * Bs.length) (hB : Bs.length ≤ 60) (hL : L.length ≤ 64) (hf : ∀ f ∈ L, f.Fits 2 1) : chkB 2 1 Bs L = 0 :=
  chkB_ok hL hf fun d hd => by
    have := vals_le (Bs.flatten ++ L) d
    rw [List.length_append] at this
    omega
theorem mtc_all (Bs : List (List FactP)) (d : Nat) (t : Tx) : mtc Bs d t (Bs.length : Nat) = hits Bs.flatten d t := by unfold mtc; rw [upTo_all]
end Go.Proofs.Ytmaeejojmbibnaa
