/- Facts under a set and under a part of it: plain. -/
import Derived.Test.YtlpglijikmnopaaGreatDoorUGM
import Derived.Test.YtlpglijikmnopaaGreatDoorUG31
namespace Go.Proofs.YtlpglijikmnopaaGreatDoor
open Go.RowKit Go.Maps Go.Sort
set_option linter.unusedVariables false

theorem and7 (s : Int) : ∃ n : Nat, n < 8 ∧ bits .and .i64 s 7 = (n : Int) := by
  have hx : (BitVec.ofInt 64 s).toNat &&& 7 < 2 ^ 3 := Nat.and_lt_two_pow _ (by decide)
  refine ⟨(BitVec.ofInt 64 s).toNat &&& 7, hx, ?_⟩
  show IntKind.i64.wrap ((BitVec.ofInt 64 s &&& BitVec.ofInt 64 7).toNat : Int) = _
  rw [BitVec.toNat_and, show (BitVec.ofInt 64 7).toNat = 7 by decide, IntKind.wrap_i64]
  omega
theorem sub7 {n : Nat} (hn : n < 8) (p : Int) : ∃ q m : Nat, m < 8 ∧ bits .and .i64 (n : Int) p = (q : Int) ∧ bits .and .i64 (q : Int) 7 = (m : Int) ∧ m &&& n = m := by
  have hx : n &&& (BitVec.ofInt 64 p).toNat < 2 ^ 3 := Nat.lt_of_le_of_lt Nat.and_le_left (by omega)
  have hy : (n &&& (BitVec.ofInt 64 p).toNat) &&& 7 < 2 ^ 3 := Nat.and_lt_two_pow _ (by decide)
  refine ⟨n &&& (BitVec.ofInt 64 p).toNat, (n &&& (BitVec.ofInt 64 p).toNat) &&& 7, hy, ?_, ?_, ?_⟩
  · show IntKind.i64.wrap ((BitVec.ofInt 64 (n : Int) &&& BitVec.ofInt 64 p).toNat : Int) = _
    rw [BitVec.toNat_and, ofInt_i64 n (by omega), IntKind.wrap_i64]
    omega
  · exact i64_and_nat _ _ (by omega) (by decide)
  · apply Nat.eq_of_testBit_eq
    intro i
    simp only [Nat.testBit_and]
    cases n.testBit i <;> simp
theorem sub_fin : ∀ n m : Fin 8, (m.1 &&& n.1) = m.1 → bits BinOp.andNot IntKind.i64 (m.1 : Int) (n.1 : Int) = 0 ∧ ∀ x ∈ listB (m.1 : Int), x ∈ listB (n.1 : Int) := by decide +kernel
theorem sub_and {n m : Nat} (hn : n < 8) (hm : m < 8) (h : m &&& n = m) : bits BinOp.andNot IntKind.i64 (m : Int) (n : Int) = 0 ∧ ∀ x ∈ listB (m : Int), x ∈ listB (n : Int) := sub_fin ⟨n, hn⟩ ⟨m, hm⟩ h
theorem list_fin : ∀ n : Fin 8, ∀ x ∈ listB (n.1 : Int), x < 3 := by decide +kernel
theorem list7 {n : Nat} (hn : n < 8) : ∀ x ∈ listB (n : Int), x < 3 := list_fin ⟨n, hn⟩
theorem set_fin {n : Nat} (hn : n < 8) : isSetB (n : Int) = true := by unfold isSetB; simp; omega
theorem last7 {n m : Nat} (hn : n < 8) (hm : 3 ≤ m) : lastOk (listB (n : Int)) m = true := by
  unfold lastOk
  cases h : (listB (n : Int)).getLast? with
  | none => rfl
  | some x =>
    have := list7 hn x (List.mem_of_getLast? h)
    simp only [decide_eq_true_eq]
    omega
/-- Facts that have all of the three dimensions. -/
def Thr (fs : List Fc) : Prop := ∀ f ∈ fs, 3 ≤ f.dims.length
theorem thr_sound (fs : List Fc) : Thr (soundL fs) := fun f hf => (soundL_mem hf).2.1
def kyd (d : List Nat) (fs : List Fc) : List (Ky × List Int) := fs.map fun f => (namesL f.dims d, f.meas)
theorem keyed_all {fs : List Fc} {n : Nat} (hn : n < 8) (h : Thr fs) : keyedL (fun _ => true) (listB (n : Int)) fs = kyd (listB (n : Int)) fs := by
  unfold keyedL kyd
  rw [List.filter_eq_self.2 fun f hf => by rw [last7 hn (h f hf)]; rfl]
theorem idxN_at {d : List Nat} {x : Nat} (h : x ∈ d) : d[(idxN d x).toNat]? = some x := by
  unfold idxN
  cases hf : d.findIdx? (fun y => decide (y = x)) with
  | none =>
    rw [List.findIdx?_eq_none_iff] at hf
    have := hf x h
    simp at this
  | some i =>
    obtain ⟨h1, h2, _⟩ := List.findIdx?_eq_some_iff_getElem.1 hf
    simp only [decide_eq_true_eq] at h2
    show d[((i : Int)).toNat]? = some x
    rw [Int.toNat_natCast, List.getElem?_eq_getElem h1, h2]
theorem names_get {l : List Tx} : ∀ {d : List Nat}, (∀ x ∈ d, x < l.length) → ∀ i : Nat, (namesL l d)[i]? = (d[i]?).bind fun x => l[x]?
  | [], _, i => by simp [namesL]
  | x :: d, h, i => by
    have hx := h x (by simp)
    have e : namesL l (x :: d) = l[x] :: namesL l d := by
      unfold namesL
      rw [List.filterMap_cons, List.getElem?_eq_getElem hx]
    rw [e]
    cases i with
    | zero => simp [hx]
    | succ i =>
      simp only [List.getElem?_cons_succ]
      exact names_get (fun y hy => h y (by simp [hy])) i
theorem names_length {l : List Tx} {d : List Nat} (h : ∀ x ∈ d, x < l.length) : (namesL l d).length = d.length := by
  induction d with
  | nil => rfl
  | cons x d ih =>
    have hx := h x (by simp)
    have e : namesL l (x :: d) = l[x] :: namesL l d := by
      unfold namesL
      rw [List.filterMap_cons, List.getElem?_eq_getElem hx]
    rw [e, List.length_cons, ih fun y hy => h y (by simp [hy]), List.length_cons]
theorem names_cut {l : List Tx} {d : List Nat} (hd : ∀ x ∈ d, x < l.length) : ∀ {t : List Nat}, (∀ x ∈ t, x ∈ d) → namesL (namesL l d) (plcL d t) = namesL l t
  | [], _ => rfl
  | x :: t, h => by
    have hx := h x (by simp)
    have ih := names_cut hd (t := t) fun y hy => h y (by simp [hy])
    unfold plcL
    rw [List.map_cons]
    unfold namesL at ih ⊢
    rw [List.filterMap_cons, List.filterMap_cons]
    have e : (List.filterMap (fun i => l[i]?) d)[(idxN d x).toNat]? = l[x]? := by
      have := names_get hd (idxN d x).toNat
      unfold namesL at this
      rw [this, idxN_at hx]
      rfl
    rw [e]
    unfold plcL at ih
    rw [ih]
theorem kyd_cut {fs : List Fc} {n m : Nat} (hn : n < 8) (hf : Thr fs) (hsub : ∀ x ∈ listB (m : Int), x ∈ listB (n : Int)) : mapF (fun k => namesL k (plcL (listB (n : Int)) (listB (m : Int)))) (kyd (listB (n : Int)) fs) = kyd (listB (m : Int)) fs := by
  unfold mapF kyd
  rw [List.map_map]
  refine List.map_congr_left fun f hf2 => ?_
  show (namesL (namesL f.dims (listB (n : Int))) _, f.meas) = _
  rw [names_cut (fun x hx => by have := list7 hn x hx; have := hf f hf2; omega) hsub]
def Mok (fs : List Fc) : Prop := ∀ f ∈ fs, ∀ x ∈ f.meas, i64' x
theorem eok_kyd {d : List Nat} {fs : List Fc} (h : Mok fs) : Eok (kyd d fs) := fun e he => by
  obtain ⟨f, hf, rfl⟩ := List.mem_map.1 he
  exact h f hf
theorem grp_from (m : Int) {es : List (Ky × List Int)} {r : Rw} (hr : r ∈ grpL takeA (newA m) es) : ∃ e ∈ es, e.1 = r.key := by
  have h := (grp_acc m es hr).1
  cases hc : colG es r.key with
  | nil => exact absurd hc h
  | cons x c =>
    have hx : x ∈ colG es r.key := by rw [hc]; simp
    unfold colG at hx
    obtain ⟨e, he, rfl⟩ := List.mem_map.1 hx
    obtain ⟨h1, h2⟩ := List.mem_filter.1 he
    exact ⟨e, h1, by simpa using h2⟩
theorem rok_grp (m : Int) {d : List Nat} (hd : d.length ≤ 1000) {fs : List Fc} (hok : ∀ f ∈ fs, Fok f) (hm : Mok fs) : Rok (grpL takeA (newA m) (kyd d fs)) := fun r hr => by
  obtain ⟨e, he, hk⟩ := grp_from m hr
  obtain ⟨f, hf, rfl⟩ := List.mem_map.1 he
  refine ⟨hk ▸ (hok f hf).key hd, ?_⟩
  rw [(grp_acc m _ hr).2]
  have hc := (eok_kyd (d := d) hm).col r.key
  have hg := ga_FT m hc
  refine ⟨fun p hp => (hg.2.2 p hp).1, ?_⟩
  rw [hg.2.1]
  unfold newA
  simp only [List.length_replicate]
  omega
theorem bad_grp (m : Int) {n : Nat} (hn : n < 8) {fs : List Fc} (hf : Thr fs) : (grpL takeA (newA m) (kyd (listB (n : Int)) fs)).any (badK (listB (n : Int)).length) = false := by
  rw [List.any_eq_false]
  intro r hr
  obtain ⟨e, he, hk⟩ := grp_from m hr
  obtain ⟨f, hf2, rfl⟩ := List.mem_map.1 he
  unfold badK
  rw [← hk, names_length fun x hx => by have := list7 hn x hx; have := hf f hf2; omega]
  simp
theorem FR.mok {K : Nat → Prop} {w : World} {v : Value} {fs : List Fc} (h : FR K w v fs) : Mok fs := by
  obtain ⟨A, n, c, rfl, hn⟩ := row_form h
  intro f hf
  obtain ⟨j, hj, rfl⟩ := List.getElem_of_mem hf
  obtain ⟨_, _, _, _, _, _, _, _, _, _, hm⟩ := FR.at_ h hj
  exact hm.i64s
theorem kyd_len (d : List Nat) (fs : List Fc) : (kyd d fs).length = fs.length := by unfold kyd; rw [List.length_map]
end Go.Proofs.YtlpglijikmnopaaGreatDoor
