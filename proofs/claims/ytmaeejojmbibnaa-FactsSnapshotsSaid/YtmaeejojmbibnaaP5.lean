/- How many facts have a text, plain; facts by places. -/
import Derived.Test.YtmaeejojmbibnaaG2
namespace Go.Proofs.Ytmaeejojmbibnaa
open Go.Proofs
set_option linter.unusedVariables false

theorem cntN_add (c : Nat → Nat) (v lo k m : Nat) : cntN c v lo (k + m) = cntN c v lo k + cntN c v (lo + k) m := by
  induction m with
  | zero => simp [cntN]
  | succ m ih => rw [← Nat.add_assoc, cntN_succ, ih, cntN_succ, Nat.add_assoc lo k m, Nat.add_assoc]
theorem cntN_seg (c : Nat → Nat) (v p m : Nat) : cntN (fun j => c (p / 256 * 256 + j)) v (p % 256) m = cntN c v p m := by
  unfold cntN
  congr 1
  refine List.map_congr_left fun j _ => ?_
  have : p / 256 * 256 + (p % 256 + j) = p + j := by omega
  simp only [this]

/-- How many of l have that text there. -/
def hits (l : List FactP) (d : Nat) (t : Tx) : Nat := l.countP (fun f => decide (f.dim d = t))
theorem hits_append (a b : List FactP) (d : Nat) (t : Tx) : hits (a ++ b) d t = hits a d t + hits b d t := by
  unfold hits; rw [List.countP_append]
theorem hits_none {l : List FactP} {d : Nat} {t : Tx} (h : t ∉ vals l d) : hits l d t = 0 := by
  unfold hits
  rw [List.countP_eq_zero]
  intro f hf
  simp only [decide_eq_true_eq]
  intro e
  exact h (mem_vals.2 ⟨f, hf, e⟩)
theorem hits_le (l : List FactP) (d : Nat) (t : Tx) : hits l d t ≤ l.length := List.countP_le_length
/-- The facts of the batches up to one. -/
def upTo (B : List (List FactP)) (b : Int) : List FactP := (B.take (clampN B.length b)).flatten
theorem upTo_len (B : List (List FactP)) (b : Int) : (upTo B b).length = lowS B b := rfl
theorem take_flat (B : List (List FactP)) (i : Nat) : B.flatten.take (B.take i).flatten.length = (B.take i).flatten := by
  have e : B.flatten = (B.take i).flatten ++ (B.drop i).flatten := by
    rw [← List.flatten_append, List.take_append_drop]
  rw [e, List.take_left]
theorem upTo_eq (B : List (List FactP)) (b : Int) : upTo B b = B.flatten.take (lowS B b) := (take_flat B _).symm
theorem lowS_zero (B : List (List FactP)) : lowS B 0 = 0 := by simp [lowS, clampN]
theorem highS_zero (B : List (List FactP)) (b : Int) : highS B 0 b = lowS B b := by unfold highS; rw [lowS_zero]; omega

theorem FW.flat {S : FS} {B : List (List FactP)} (h : FW S B []) : S.n = B.flatten.length := by have := h.n_eq; simpa using this
theorem FW.get {S : FS} {B : List (List FactP)} (h : FW S B []) {p : Nat} (hp : p < S.n) : B.flatten[p]? = some (S.fact p) := by
  have := h.at_ hp
  simpa using this
theorem txt_num {L : List Tx} (hn : L.Nodup) {t : Tx} {v c : Nat} (hv : num L t = some v) (hc : c < L.length) : txt L c = t ↔ c = v := by
  have h1 := num_some hv
  constructor
  · intro e
    exact txt_inj hn hc h1.1 (e.trans h1.2.symm)
  · rintro rfl; exact h1.2
theorem cnt_hits {S : FS} {B : List (List FactP)} (h : FW S B []) {d v : Nat} {t : Tx} (hd : d < S.K) (hv : num (S.D d) t = some v) : ∀ k, k ≤ S.n → cntN (S.cn d) v 0 k = hits (B.flatten.take k) d t
  | 0, _ => by simp [cntN, hits]
  | k + 1, hk => by
    have ih := cnt_hits h hd hv k (by omega)
    have hg := h.get (p := k) (by omega)
    have hl : k < B.flatten.length := by rw [← h.flat]; omega
    have hge : B.flatten[k] = S.fact k := by rw [List.getElem?_eq_getElem hl] at hg; exact Option.some.inj hg
    rw [cntN_succ, ih, List.take_succ_eq_append_getElem hl, hits_append, hge, Nat.zero_add]
    congr 1
    have hx := txt_num (h.dn d hd).1 hv (h.cb d hd k (by omega))
    unfold hits
    rw [List.countP_singleton, S.fact_dim k hd]
    by_cases e : S.cn d k = v
    · rw [if_pos e, if_pos (by simpa using hx.2 e)]
    · rw [if_neg e, if_neg (by simpa using fun e2 => e (hx.1 e2))]
/-- What Match tells. -/
def mtc (B : List (List FactP)) (d : Nat) (t : Tx) (b : Int) : Nat := hits (upTo B b) d t
theorem mtc_some {S : FS} {B : List (List FactP)} (h : FW S B []) {d v : Nat} {t : Tx} (hd : d < S.K) (hv : num (S.D d) t = some v) (b : Int) : cntN (S.cn d) v 0 (lowS B b) = mtc B d t b := by
  rw [cnt_hits h hd hv _ (by rw [h.flat]; exact lowS_le B b), mtc, upTo_eq]
theorem mtc_none {S : FS} {B : List (List FactP)} (h : FW S B []) {d : Nat} {t : Tx} (hd : d < S.K) (hv : num (S.D d) t = none) (b : Int) : mtc B d t b = 0 := by
  have hD := h.v d hd
  rw [List.append_nil] at hD
  have hm := num_none.1 hv
  rw [hD] at hm
  unfold mtc
  refine hits_none fun hx => hm ?_
  obtain ⟨f, hf, e⟩ := mem_vals.1 hx
  rw [upTo_eq] at hf
  exact mem_vals.2 ⟨f, List.mem_of_mem_take hf, e⟩
/-- The facts of the batches behind a, up to b. -/
def slc (B : List (List FactP)) (a b : Int) : List FactP := (B.flatten.take (highS B a b)).drop (lowS B a)
theorem slc_len (B : List (List FactP)) (a b : Int) : (slc B a b).length = highS B a b - lowS B a := by
  unfold slc
  rw [List.length_drop, List.length_take, Nat.min_eq_left (highS_le B a b)]
end Go.Proofs.Ytmaeejojmbibnaa
