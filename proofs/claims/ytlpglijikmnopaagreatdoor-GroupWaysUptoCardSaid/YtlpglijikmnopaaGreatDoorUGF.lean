/- Which facts a test means; filtering groups is grouping what is filtered: plain. -/
import Derived.Test.YtlpglijikmnopaaGreatDoorUG32
import Derived.Test.YtlpglijikmnopaaGreatDoorUM6
namespace Go.Proofs.YtlpglijikmnopaaGreatDoor
open Go.RowKit Go.Maps Go.Sort Go.Proofs
set_option linter.unusedVariables false

def testM (t : Bd.Ts) (f : Fc) : Bool := Bd.HoldsB t f.dims f.meas
theorem meant_test {t : Bd.Ts} {v : Value} {b : Nat} {w0 : World} (h : Bd.TsAt (fun k => k < b) w0 t v) (hne : t ≠ .none) : MeantC v (testM t) b w0 := by
  intro K w dv mv f hb hd hm
  obtain ⟨g, o, rfl⟩ : ∃ g o, v = .pointer (some ⟨g, o, none⟩) := by
    rcases h.ptr with ⟨e, _⟩ | ⟨_, g, o, e⟩
    · exact absurd e hne
    · exact ⟨g, o, e⟩
  have h' : Bd.TsAt (fun k => k < b) w t (.pointer (some ⟨g, o, none⟩)) := h.mono fun k hk _ => ⟨hk, hb.block k hk⟩
  obtain ⟨w1, hw1⟩ : ∃ w1, w.alloc (.cells #[dv, mv] 63) = w1 := ⟨_, rfl⟩
  obtain ⟨y, hy⟩ : ∃ y, w.heap.size = y := ⟨_, rfl⟩
  have f1 : Fr No w w1 := by rw [← hw1]; exact (Fr.refl No w).alloc _
  have hb2 : Blk w1 y 63 #[dv, mv] := by rw [← hw1, ← hy]; exact Blk.new w 63 _
  have c0 := hb2.cell 0
  have c1 := hb2.cell 1
  have HF := Lib.hid f1
  have HC := Lib.hid (Bd.Holds_any _ K f.dims f.meas dv mv t _ w1 (h'.no f1) ⟨hd.no f1, hm.no f1⟩)
  have HV : Hid (Bd.HoldsB t f.dims f.meas = testM t f) := Lib.hid rfl
  have HW1 := Lib.hid hw1
  have HY := Lib.hid hy
  clear hw1 hd hm h h' hb hb2 f1 hy
  go_enter Tryz.func54, Tryz.ntmps54
  go_upto_region 1 with fail
  rw [HW1.out, HY.out]
  go_wp2_with (go_at_call 82; refine HC.out.mono ?_; rintro e w2 ⟨rfl, f2⟩; have HF2 := Lib.hid (HF.out.tr f2); clear f2)
  go_ret
  exact ⟨by rw [← HV.out]; rfl, HF2.out⟩

/-! ### what a test hangs on -/
theorem leafS_same {D1 D2 : List Tx} (h1 : D1.length ≤ 6) (h2 : D2.length ≤ 6) {k i o : Int} {ts : List Tx} (h : ∀ j : Nat, j < 6 → i = (j : Int) → D1[j]? = D2[j]?) : Bd.leafS k i o D1 ts = Bd.leafS k i o D2 ts := by
  unfold Bd.leafS
  by_cases hi : 0 ≤ i ∧ i < 6
  · have e := h i.toNat (by omega) (by omega)
    have hlen : (i.toNat < D1.length) ↔ (i.toNat < D2.length) := by
      constructor
      · intro hlt
        rcases Nat.lt_or_ge i.toNat D2.length with h3 | h3
        · exact h3
        · rw [List.getElem?_eq_none h3, List.getElem?_eq_getElem hlt] at e; cases e
      · intro hlt
        rcases Nat.lt_or_ge i.toNat D1.length with h3 | h3
        · exact h3
        · rw [List.getElem?_eq_none h3, List.getElem?_eq_getElem hlt] at e; cases e
    have e2 : D1.getD i.toNat [] = D2.getD i.toNat [] := by rw [List.getD_eq_getElem?_getD, List.getD_eq_getElem?_getD, e]
    rw [e2]
    have e3 : ((D1.length : Int) ≤ i) ↔ ((D2.length : Int) ≤ i) := by omega
    simp only [e3]
  · rw [if_pos (by omega), if_pos (by omega)]
theorem leaf_off {k i o : Int} {ts : List Tx} {D : List Tx} (h4 : k ≠ 4) (h5 : k ≠ 5) : Bd.leafS k i o D ts = false := by
  unfold Bd.leafS
  rw [if_neg h4, if_neg h5]
  split <;> rfl
theorem leafI_off {k i o : Int} {ts : List Int} {D : List Int} (h4 : k ≠ 4) (h5 : k ≠ 5) : Bd.leafI k i o D ts = false := by
  unfold Bd.leafI
  rw [if_neg h4, if_neg h5]
  split <;> rfl
theorem bitI_test {i : Int} {j : Nat} (hj : j < 6) (h : i = (j : Int)) : (bitI i).testBit j = true := by
  subst h
  unfold bitI
  rw [if_pos (by omega)]
  simp [Nat.testBit_two_pow_self]
theorem holds_same {D1 D2 : List Tx} {M1 M2 : List Int} (h1 : D1.length ≤ 6) (h2 : D2.length ≤ 6) : ∀ t : Bd.Ts, (Bd.readsT t).2 = false → (∀ j, j < 6 → (Bd.readsT t).1.testBit j = true → D1[j]? = D2[j]?) → Bd.holdsT t D1 M1 = Bd.holdsT t D2 M2
  | .none, _, _ => rfl
  | .node k l r m i o ts ns, hm, hb => by
    unfold Bd.readsT at hm hb
    unfold Bd.holdsT
    by_cases h45 : k = 4 ∨ k = 5
    · rw [if_pos h45] at hm hb
      have n1 : ¬ k = 1 := by omega
      have n2 : ¬ k = 2 := by omega
      have n3 : ¬ k = 3 := by omega
      rw [if_neg n1, if_neg n2, if_neg n3, if_neg n1, if_neg n2, if_neg n3]
      cases m with
      | true => cases hm
      | false =>
        simp only [Bool.false_eq_true, if_false] at hb ⊢
        exact leafS_same h1 h2 fun j hj e => hb j hj (bitI_test hj e)
    · rw [if_neg h45] at hm hb
      simp only [Bool.or_eq_false_iff] at hm
      simp only [Nat.testBit_or, Bool.or_eq_true] at hb
      have il := holds_same (M1 := M1) (M2 := M2) h1 h2 l hm.1 fun j hj e => hb j hj (.inl e)
      have ir := holds_same (M1 := M1) (M2 := M2) h1 h2 r hm.2 fun j hj e => hb j hj (.inr e)
      rw [il, ir]
      have h4 : k ≠ 4 := fun e => h45 (.inl e)
      have h5 : k ≠ 5 := fun e => h45 (.inr e)
      rw [leafI_off h4 h5, leafI_off h4 h5, leaf_off h4 h5, leaf_off h4 h5]
theorem fold_set (g : Nat → Tx) : ∀ (d : List Nat) (L : List Tx), (∀ x ∈ d, x < L.length) → ∀ i : Nat, (d.foldl (fun L x => L.set x (g x)) L)[i]? = if i ∈ d then some (g i) else L[i]?
  | [], L, _, i => by simp
  | x :: d, L, h, i => by
    rw [List.foldl_cons, fold_set g d _ (fun y hy => by rw [List.length_set]; exact h y (by simp [hy])) i]
    by_cases hi : i ∈ d
    · rw [if_pos hi, if_pos (by simp [hi])]
    · rw [if_neg hi, List.getElem?_set]
      by_cases e : x = i
      · subst e
        rw [if_pos rfl, if_pos (h x (by simp)), if_pos (by simp)]
      · rw [if_neg e, if_neg (by simp [hi]; exact fun e2 => e e2.symm)]
theorem names_map {l : List Tx} : ∀ {d : List Nat}, (∀ x ∈ d, x < l.length) → namesL l d = d.map fun x => l.getD x []
  | [], _ => rfl
  | x :: d, h => by
    have hx := h x (by simp)
    have e : namesL l (x :: d) = l[x] :: namesL l d := by
      unfold namesL
      rw [List.filterMap_cons, List.getElem?_eq_getElem hx]
    rw [e, names_map fun y hy => h y (by simp [hy]), List.map_cons, List.getD_eq_getElem?_getD, List.getElem?_eq_getElem hx]
    rfl
theorem zip_map (g : Nat → Tx) : ∀ d : List Nat, (d.map g).zip d = d.map fun x => (g x, x)
  | [] => rfl
  | x :: d => by rw [List.map_cons, List.zip_cons_cons, zip_map g d, List.map_cons]
theorem factD_names {l : List Tx} {d : List Nat} (h : ∀ x ∈ d, x < l.length) (h6 : ∀ x ∈ d, x < 6) (i : Nat) (hi : i ∈ d) : (factD (namesL l d) d)[i]? = l[i]? := by
  unfold factD factJ
  rw [names_map h, zip_map, List.take_of_length_le (by simp), List.foldl_map]
  have := fold_set (fun x => l.getD x []) d (List.replicate 6 []) (fun x hx => by rw [List.length_replicate]; exact h6 x hx) i
  rw [if_pos hi] at this
  refine this.trans ?_
  rw [List.getD_eq_getElem?_getD, List.getElem?_eq_getElem (h i hi)]
  rfl
theorem mem_list {n i : Nat} (hn : n < 8) (hi : i < 6) (h : n.testBit i = true) : i ∈ listB (n : Int) := by
  rw [listB_in (by omega)]
  unfold listN hasB
  refine List.mem_filter.2 ⟨List.mem_range.2 hi, ?_⟩
  rw [Nat.testBit_eq_decide_div_mod_eq] at h
  simpa using h
/-- A test that asks just the set's dimensions. -/
theorem test_key {t : Bd.Ts} {n : Nat} (hn : n < 8) (hm : (Bd.ReadsB t).2 = false) (hb : (Bd.ReadsB t).1 &&& n = (Bd.ReadsB t).1) {f : Fc} (h3 : 3 ≤ f.dims.length) (h6 : f.dims.length ≤ 6) : testM t f = testM t ⟨factD (namesL f.dims (listB (n : Int))) (listB (n : Int)), []⟩ := by
  unfold testM Bd.HoldsB
  unfold Bd.ReadsB at hm hb
  cases hg : Bd.greatB t with
  | true => rfl
  | false =>
    rw [hg] at hm hb
    simp only [Bool.false_eq_true, if_false] at hm hb
    simp only [Bool.not_false, Bool.true_and]
    refine holds_same h6 (by unfold factD; rw [factJ_len]; exact Nat.le_refl _) t hm fun j hj hbit => ?_
    rw [← hb] at hbit
    rw [Nat.testBit_and, Bool.and_eq_true] at hbit
    exact (factD_names (fun x hx => by have := list7 hn x hx; omega) (fun x hx => by have := list7 hn x hx; omega) j (mem_list hn hj hbit.2)).symm
theorem atK_filter (P : Ky → Bool) : ∀ (l : List Rw) (k : Ky), atK (l.filter fun r => P r.key) k = if P k = true then atK l k else none
  | [], k => by simp [atK]
  | r :: l, k => by
    have ih := atK_filter P l k
    rw [atK_cons]
    cases hp : P r.key with
    | true =>
      rw [List.filter_cons_of_pos (p := fun r : Rw => P r.key) hp, atK_cons, ih]
      by_cases e : r.key = k
      · rw [if_pos e, if_pos e, if_pos (e ▸ hp)]
      · rw [if_neg e, if_neg e]
    | false =>
      rw [List.filter_cons_of_neg (p := fun r : Rw => P r.key) (by rw [hp]; simp), ih]
      by_cases e : r.key = k
      · rw [if_pos e, if_neg (by rw [← e, hp]; simp), if_neg (by rw [← e, hp]; simp)]
      · rw [if_neg e]
theorem colG_filter {γ : Type} (P : Ky → Bool) (es : List (Ky × γ)) (k : Ky) : colG (es.filter fun e => P e.1) k = if P k = true then colG es k else [] := by
  induction es with
  | nil => simp [colG]
  | cons e es ih =>
    rw [colG_cons]
    cases hp : P e.1 with
    | true =>
      rw [List.filter_cons_of_pos (p := fun e : Ky × γ => P e.1) hp, colG_cons, ih]
      by_cases h : e.1 = k
      · rw [if_pos h, if_pos h, if_pos (h ▸ hp), if_pos (h ▸ hp)]
      · rw [if_neg h, if_neg h]
    | false =>
      rw [List.filter_cons_of_neg (p := fun e : Ky × γ => P e.1) (by rw [hp]; simp), ih]
      by_cases h : e.1 = k
      · rw [if_pos h, if_neg (by rw [← h, hp]; simp), if_neg (by rw [← h, hp]; simp)]
      · rw [if_neg h]
theorem grp_filter {γ : Type} (step : Ac → γ → Ac) (z : Ac) (P : Ky → Bool) (es : List (Ky × γ)) : (grpL step z es).filter (fun r => P r.key) = grpL step z (es.filter fun e => P e.1) := by
  refine grp_of step z _ ((grp_srt step z es).filter _) fun k => ?_
  rw [atK_filter, at_grp, colG_filter]
  by_cases h : P k = true
  · rw [if_pos h, if_pos h]
  · rw [if_neg h, if_neg h]; rfl
/-- Filtering groups is grouping what is filtered. -/
theorem keep_grp2 {t : Bd.Ts} {n : Nat} (hn : n < 8) (hm : (Bd.ReadsB t).2 = false) (hb : (Bd.ReadsB t).1 &&& n = (Bd.ReadsB t).1) {l : List Fc} (hl : ∀ f ∈ l, 3 ≤ f.dims.length ∧ f.dims.length ≤ 6) : keepL (testM t) (listB (n : Int)) (grp2 n l) = grpL takeA (newA 2) (keyedL (testM t) (listB (n : Int)) l) := by
  unfold keepL grp2
  rw [grp_filter takeA (newA 2) (fun k => testM t ⟨factD k (listB (n : Int)), []⟩)]
  congr 1
  unfold kyd keyedL
  rw [List.filter_map]
  congr 1
  refine List.filter_congr fun f hf => ?_
  obtain ⟨h3, h6⟩ := hl f hf
  rw [last7 hn h3]
  simp only [Function.comp, Bool.true_and]
  exact (test_key hn hm hb h3 h6).symm
theorem ofInt_wrap (z : Nat) (hz : z < 18446744073709551616) : (BitVec.ofInt 64 (IntKind.i64.wrap (z : Int))).toNat = z := by
  rw [BitVec.toNat_ofInt, IntKind.wrap_i64]
  omega
theorem orand7 (s : Int) {q : Nat} (hq : q < 8) : ∃ (y : Int) (n : Nat), n < 8 ∧ bits .or .i64 s (q : Int) = y ∧ bits .and .i64 y 7 = (n : Int) ∧ q &&& n = q := by
  have hz : ((BitVec.ofInt 64 s) ||| BitVec.ofInt 64 (q : Int)).toNat < 18446744073709551616 := BitVec.isLt _
  have hx : ((BitVec.ofInt 64 s).toNat ||| q) &&& 7 < 2 ^ 3 := Nat.and_lt_two_pow _ (by decide)
  refine ⟨IntKind.i64.wrap (((BitVec.ofInt 64 s) ||| BitVec.ofInt 64 (q : Int)).toNat : Int), ((BitVec.ofInt 64 s).toNat ||| q) &&& 7, hx, rfl, ?_, ?_⟩
  · show IntKind.i64.wrap ((BitVec.ofInt 64 (IntKind.i64.wrap (((BitVec.ofInt 64 s) ||| BitVec.ofInt 64 (q : Int)).toNat : Int)) &&& BitVec.ofInt 64 7).toNat : Int) = _
    rw [BitVec.toNat_and, ofInt_wrap _ hz, BitVec.toNat_or, ofInt_i64 q (by omega), show (BitVec.ofInt 64 7).toNat = 7 by decide, IntKind.wrap_i64]
    omega
  · have h7 : q &&& 7 = q := by
      have : ∀ q : Fin 8, q.1 &&& 7 = q.1 := by decide
      exact this ⟨q, hq⟩
    apply Nat.eq_of_testBit_eq
    intro i
    have e := congrArg (fun x => x.testBit i) h7
    simp only [Nat.testBit_and] at e
    simp only [Nat.testBit_and, Nat.testBit_or]
    cases hb : q.testBit i with
    | false => simp
    | true => rw [hb] at e; simp only [Bool.true_and] at e; simp [e]
end Go.Proofs.YtlpglijikmnopaaGreatDoor
