/- The store of facts, plain: columns, dictionaries, batches. -/
import Derived.Test.YtmaeejojmbibnaaDP1
namespace Go.Proofs.Ytmaeejojmbibnaa
open Go.Proofs
set_option linter.unusedVariables false

structure FactP where
  dims : List Tx
  meas : List Int
deriving DecidableEq
def FactP.dim (f : FactP) (d : Nat) : Tx := f.dims.getD d []
def FactP.mea (f : FactP) (m : Nat) : Int := f.meas.getD m 0
def i64 (n : Int) : Prop := -9223372036854775808 ≤ n ∧ n ≤ 9223372036854775807

/-! ### one text more -/
def addT (L : List Tx) (t : Tx) : List Tx := if t ∈ L then L else L ++ [t]
def idx (L : List Tx) (t : Tx) : Nat := (num L t).getD 0
theorem addT_in {L : List Tx} {t : Tx} (h : t ∈ L) : addT L t = L := if_pos h
theorem addT_out {L : List Tx} {t : Tx} (h : t ∉ L) : addT L t = L ++ [t] := if_neg h
theorem mem_addT {L : List Tx} {t s : Tx} : s ∈ addT L t ↔ s ∈ L ∨ s = t := by
  by_cases h : t ∈ L
  · rw [addT_in h]
    constructor
    · exact .inl
    · rintro (h1 | rfl)
      · exact h1
      · exact h
  · rw [addT_out h]; simp
theorem addT_le (L : List Tx) (t : Tx) : L.length ≤ (addT L t).length := by
  by_cases h : t ∈ L
  · rw [addT_in h]; exact Nat.le_refl _
  · rw [addT_out h]; simp
theorem addT_nodup {L : List Tx} (hn : L.Nodup) (t : Tx) : (addT L t).Nodup := by
  by_cases h : t ∈ L
  · rw [addT_in h]; exact hn
  · rw [addT_out h, List.nodup_append]
    exact ⟨hn, by simp, by intro a ha b hb; rw [List.mem_singleton.1 hb]; rintro rfl; exact h ha⟩
theorem addT_old {L : List Tx} {n : Nat} (h : n < L.length) (t : Tx) : txt (addT L t) n = txt L n := by
  by_cases ht : t ∈ L
  · rw [addT_in ht]
  · rw [addT_out ht, txt_add h]
theorem num_in {L : List Tx} {t : Tx} (h : t ∈ L) : ∃ n, num L t = some n := by
  cases e : num L t with
  | some n => exact ⟨n, rfl⟩
  | none => exact absurd h (num_none.1 e)
theorem idx_in {L : List Tx} {t : Tx} (h : t ∈ L) : num L t = some (idx L t) ∧ idx L t < L.length ∧ txt L (idx L t) = t := by
  obtain ⟨n, hn⟩ := num_in h
  have := num_some hn
  unfold idx
  rw [hn]
  exact ⟨rfl, this⟩
theorem idx_add (L : List Tx) (t : Tx) : idx (addT L t) t < (addT L t).length ∧ txt (addT L t) (idx (addT L t) t) = t := (idx_in (mem_addT.2 (.inr rfl))).2
theorem idx_new {L : List Tx} {t : Tx} (h : t ∉ L) : idx (addT L t) t = L.length := by
  unfold idx
  rw [addT_out h, num_add h, if_pos rfl]; rfl
theorem idx_old {L : List Tx} {t : Tx} (h : t ∈ L) : idx (addT L t) t = idx L t := by rw [addT_in h]

/-! ### what came of a dimension -/
def addAll (L : List Tx) (d : Nat) (l : List FactP) : List Tx := l.foldl (fun a f => addT a (f.dim d)) L
def vals (L : List FactP) (d : Nat) : List Tx := addAll [] d L
theorem vals_append (L l : List FactP) (d : Nat) : vals (L ++ l) d = addAll (vals L d) d l := by unfold vals addAll; rw [List.foldl_append]
theorem addAll_snoc (L : List Tx) (d : Nat) (l : List FactP) (f : FactP) : addAll L d (l ++ [f]) = addT (addAll L d l) (f.dim d) := by unfold addAll; rw [List.foldl_append]; rfl
theorem vals_snoc (L : List FactP) (f : FactP) (d : Nat) : vals (L ++ [f]) d = addT (vals L d) (f.dim d) := addAll_snoc _ _ _ _
theorem addAll_take (L : List Tx) (d : Nat) (l : List FactP) {k : Nat} (h : k < l.length) : addAll L d (l.take (k + 1)) = addT (addAll L d (l.take k)) (l[k].dim d) := by
  rw [List.take_succ_eq_append_getElem h, addAll_snoc]
theorem addAll_mono (d : Nat) : ∀ (l : List FactP) (L : List Tx), L.length ≤ (addAll L d l).length
  | [], _ => Nat.le_refl _
  | f :: l, L => Nat.le_trans (addT_le L (f.dim d)) (addAll_mono d l (addT L (f.dim d)))
theorem addAll_take_le (L : List Tx) (d : Nat) (l : List FactP) (k : Nat) : (addAll L d (l.take k)).length ≤ (addAll L d l).length := by
  have h : addAll L d l = addAll (addAll L d (l.take k)) d (l.drop k) := by
    unfold addAll; rw [← List.foldl_append, List.take_append_drop]
  rw [h]; exact addAll_mono _ _ _
theorem mem_addAll (d : Nat) : ∀ (l : List FactP) (L : List Tx) (s : Tx), s ∈ addAll L d l ↔ s ∈ L ∨ ∃ f ∈ l, f.dim d = s
  | [], L, s => by simp [addAll]
  | f :: l, L, s => by
    have := mem_addAll d l (addT L (f.dim d)) s
    show s ∈ addAll (addT L (f.dim d)) d l ↔ _
    rw [this, mem_addT]
    simp only [List.mem_cons, exists_eq_or_imp]
    constructor
    · rintro ((h | h) | h)
      · exact .inl h
      · exact .inr (.inl h.symm)
      · exact .inr (.inr h)
    · rintro (h | h | h)
      · exact .inl (.inl h)
      · exact .inl (.inr h.symm)
      · exact .inr h
theorem mem_vals {l : List FactP} {d : Nat} {s : Tx} : s ∈ vals l d ↔ ∃ f ∈ l, f.dim d = s := by
  unfold vals; rw [mem_addAll]; simp
theorem addAll_nodup (d : Nat) : ∀ (l : List FactP) (L : List Tx), L.Nodup → (addAll L d l).Nodup
  | [], _, h => h
  | f :: l, L, h => addAll_nodup d l (addT L (f.dim d)) (addT_nodup h _)
theorem vals_nodup (l : List FactP) (d : Nat) : (vals l d).Nodup := addAll_nodup d l [] List.nodup_nil

/-! ### the state -/
structure FS where
  K : Nat
  M : Nat
  D : Nat → List Tx
  cn : Nat → Nat → Nat
  mn : Nat → Nat → Int
  n : Nat
  G : Nat
  E : List Nat
def FS.fact (S : FS) (p : Nat) : FactP := ⟨(List.range S.K).map fun d => txt (S.D d) (S.cn d p), (List.range S.M).map fun m => S.mn m p⟩
def FS.L (S : FS) : List FactP := (List.range S.n).map S.fact
theorem FS.L_len (S : FS) : S.L.length = S.n := by simp [FS.L]

def FactP.Fits (K M : Nat) (f : FactP) : Prop := f.dims.length = K ∧ f.meas.length = M ∧ ∀ t ∈ f.dims, t.length ≤ 64
instance (K M : Nat) (f : FactP) : Decidable (f.Fits K M) := by unfold FactP.Fits; infer_instance
def FactP.Ok (f : FactP) : Prop := ∀ x ∈ f.meas, i64 x

/-- Where batches end. -/
def endsOf (B : List (List FactP)) : List Nat := (List.range (B.length + 1)).map fun i => (B.take i).flatten.length
theorem endsOf_len (B : List (List FactP)) : (endsOf B).length = B.length + 1 := by simp [endsOf]
theorem endsOf_at (B : List (List FactP)) {i : Nat} (h : i ≤ B.length) : (endsOf B)[i]? = some (B.take i).flatten.length := by
  unfold endsOf
  rw [List.getElem?_map, List.getElem?_range (by omega)]; rfl
theorem endsOf_snoc (B : List (List FactP)) (l : List FactP) : endsOf (B ++ [l]) = endsOf B ++ [B.flatten.length + l.length] := by
  apply List.ext_getElem?
  intro i
  by_cases h : i ≤ B.length
  · rw [endsOf_at _ (by simp; omega), List.getElem?_append_left (by rw [endsOf_len]; omega), endsOf_at _ h, List.take_append_of_le_length h]
  · by_cases h2 : i = B.length + 1
    · subst h2
      rw [endsOf_at _ (by simp), List.getElem?_append_right (by rw [endsOf_len]; omega), endsOf_len, List.take_of_length_le (by simp)]
      simp
    · rw [List.getElem?_eq_none (by rw [endsOf_len]; simp; omega), List.getElem?_eq_none (by rw [List.length_append, endsOf_len]; simp; omega)]
theorem endsOf_mono (B : List (List FactP)) {i j : Nat} (h : i ≤ j) : (B.take i).flatten.length ≤ (B.take j).flatten.length := by
  have e : B.take j = B.take i ++ (B.take j).drop i := by
    conv => lhs; rw [← List.take_append_drop i (B.take j)]
    rw [List.take_take, Nat.min_eq_left h]
  rw [e, List.flatten_append, List.length_append]
  omega

/-- What is always so: batches B, and behind them facts l of a batch that is being laid. -/
structure FW (S : FS) (B : List (List FactP)) (l : List FactP) : Prop where
  k : 1 ≤ S.K ∧ S.K ≤ 6
  m : 1 ≤ S.M ∧ S.M ≤ 4
  dn : ∀ d, d < S.K → (S.D d).Nodup ∧ (S.D d).length ≤ 4096 ∧ ∀ t ∈ S.D d, t.length ≤ 64
  cb : ∀ d, d < S.K → ∀ p, p < S.n → S.cn d p < (S.D d).length
  cz : ∀ d p, S.n ≤ p → S.cn d p = 0
  mz : ∀ m p, S.n ≤ p → S.mn m p = 0
  mi : ∀ m p, i64 (S.mn m p)
  g : S.G = (S.n + 255) / 256
  e : S.E = endsOf B
  f : S.L = B.flatten ++ l
  v : ∀ d, d < S.K → S.D d = vals (B.flatten ++ l) d
  b : B.length ≤ 1000
  bn : S.n ≤ 64 * B.length + l.length
theorem FW.n_eq {S : FS} {B : List (List FactP)} {l : List FactP} (h : FW S B l) : S.n = B.flatten.length + l.length := by
  have := congrArg List.length h.f
  rw [FS.L_len, List.length_append] at this
  exact this
theorem FW.cn4 {S : FS} {B : List (List FactP)} {l : List FactP} (h : FW S B l) {d : Nat} (hd : d < S.K) (p : Nat) : S.cn d p < 4096 := by
  by_cases hp : p < S.n
  · have := h.cb d hd p hp; have := (h.dn d hd).2.1; omega
  · rw [h.cz d p (by omega)]; omega
theorem FS.fact_dim (S : FS) (p : Nat) {d : Nat} (h : d < S.K) : (S.fact p).dim d = txt (S.D d) (S.cn d p) := by
  simp [FactP.dim, FS.fact, h]
theorem FS.fact_mea (S : FS) (p : Nat) {m : Nat} (h : m < S.M) : (S.fact p).mea m = S.mn m p := by
  simp [FactP.mea, FS.fact, h]
theorem FW.at_ {S : FS} {B : List (List FactP)} {l : List FactP} (h : FW S B l) {p : Nat} (hp : p < S.n) : (B.flatten ++ l)[p]? = some (S.fact p) := by
  rw [← h.f, FS.L, List.getElem?_map, List.getElem?_range hp]; rfl
theorem FW.fit {S : FS} {B : List (List FactP)} {l : List FactP} (h : FW S B l) {f : FactP} (hf : f ∈ B.flatten ++ l) : f.Fits S.K S.M ∧ f.Ok := by
  rw [← h.f] at hf
  obtain ⟨p, hp, rfl⟩ := List.mem_map.1 hf
  have hp' : p < S.n := by simpa using hp
  refine ⟨⟨by simp [FS.fact], by simp [FS.fact], fun t ht => ?_⟩, fun x hx => ?_⟩
  · obtain ⟨d, hd, rfl⟩ := List.mem_map.1 ht
    have hd' : d < S.K := by simpa using hd
    have hc := h.cb d hd' p hp'
    rw [txt_get hc]
    exact (h.dn d hd').2.2 _ (List.getElem_mem _)
  · obtain ⟨m, hm, rfl⟩ := List.mem_map.1 hx
    exact h.mi m p

/-! ### a fact is laid -/
/-- i dimensions and j measures of f lie at the next place. -/
def FS.part (S : FS) (f : FactP) (i j : Nat) : FS := { S with
  D := fun d => if d < i then addT (S.D d) (f.dim d) else S.D d
  cn := fun d p => if d < i ∧ p = S.n then idx (addT (S.D d) (f.dim d)) (f.dim d) else S.cn d p
  mn := fun m p => if m < j ∧ p = S.n then f.mea m else S.mn m p }
theorem FS.part_zero (S : FS) (f : FactP) : S.part f 0 0 = S := by
  unfold FS.part
  simp
def FS.seg (S : FS) : FS := { S with G := S.G + 1 }
def FS.start (S : FS) : FS := if S.n % 256 = 0 then S.seg else S
def FS.next (S : FS) : FS := { S with n := S.n + 1 }
def FS.laid (S : FS) (f : FactP) : FS := (S.start.part f S.K S.M).next
theorem FS.start_K (S : FS) : S.start.K = S.K := by unfold FS.start; split <;> rfl
theorem FS.start_M (S : FS) : S.start.M = S.M := by unfold FS.start; split <;> rfl
theorem FS.start_n (S : FS) : S.start.n = S.n := by unfold FS.start; split <;> rfl
theorem FS.start_D (S : FS) : S.start.D = S.D := by unfold FS.start; split <;> rfl
theorem FS.start_cn (S : FS) : S.start.cn = S.cn := by unfold FS.start; split <;> rfl
theorem FS.start_mn (S : FS) : S.start.mn = S.mn := by unfold FS.start; split <;> rfl
theorem FS.start_E (S : FS) : S.start.E = S.E := by unfold FS.start; split <;> rfl

theorem map_getD {α : Type} (l : List α) (z : α) {K : Nat} (h : l.length = K) : (List.range K).map (fun d => l.getD d z) = l := by
  apply List.ext_getElem?
  intro i
  rw [List.getElem?_map]
  by_cases hi : i < K
  · rw [List.getElem?_range hi]; simp [h, hi]
  · rw [List.getElem?_eq_none (by simpa using hi), List.getElem?_eq_none (by omega)]; rfl
theorem dim_len {K M : Nat} {f : FactP} (h : f.Fits K M) {d : Nat} (hd : d < K) : (f.dim d).length ≤ 64 := by
  have hl : d < f.dims.length := by rw [h.1]; exact hd
  have e : f.dim d = f.dims[d] := by simp [FactP.dim, hl]
  rw [e]
  exact h.2.2 _ (List.getElem_mem _)
theorem mea_ok {f : FactP} (h : f.Ok) (m : Nat) : i64 (f.mea m) := by
  unfold FactP.mea
  by_cases hm : m < f.meas.length
  · rw [List.getD_eq_getElem?_getD, List.getElem?_eq_getElem hm]
    exact h _ (List.getElem_mem _)
  · rw [List.getD_eq_getElem?_getD, List.getElem?_eq_none (by omega)]
    unfold i64; simp
/-- Room for a fact's texts. -/
def Room (S : FS) (f : FactP) : Prop := ∀ d, d < S.K → f.dim d ∈ S.D d ∨ (S.D d).length < 4096
theorem FW.laid {S : FS} {B : List (List FactP)} {l : List FactP} (h : FW S B l) {f : FactP} (hf : f.Fits S.K S.M) (ho : f.Ok) (hr : Room S f) : FW (S.laid f) B (l ++ [f]) := by
  have eK : (S.laid f).K = S.K := S.start_K
  have eM : (S.laid f).M = S.M := S.start_M
  have en : (S.laid f).n = S.n + 1 := congrArg (· + 1) S.start_n
  have eD : ∀ d, d < S.K → (S.laid f).D d = addT (S.D d) (f.dim d) := fun d hd => by
    show (if d < S.K then addT (S.start.D d) (f.dim d) else S.start.D d) = _
    rw [if_pos hd, S.start_D]
  have ec : ∀ d p, (S.laid f).cn d p = if d < S.K ∧ p = S.n then idx (addT (S.D d) (f.dim d)) (f.dim d) else S.cn d p := fun d p => by
    show (if d < S.K ∧ p = S.start.n then idx (addT (S.start.D d) (f.dim d)) (f.dim d) else S.start.cn d p) = _
    rw [S.start_D, S.start_n, S.start_cn]
  have em : ∀ m p, (S.laid f).mn m p = if m < S.M ∧ p = S.n then f.mea m else S.mn m p := fun m p => by
    show (if m < S.M ∧ p = S.start.n then f.mea m else S.start.mn m p) = _
    rw [S.start_n, S.start_mn]
  have ef : (S.laid f).L = (B.flatten ++ l) ++ [f] := by
    unfold FS.L
    rw [en, List.range_succ, List.map_append, ← h.f]
    congr 1
    · refine List.map_congr_left fun p hp => ?_
      have hp' : p < S.n := by simpa using hp
      unfold FS.fact
      rw [eK, eM]
      congr 1
      · refine List.map_congr_left fun d hd => ?_
        have hd' : d < S.K := by simpa using hd
        rw [eD d hd', ec, if_neg (by omega), addT_old (h.cb d hd' p hp')]
      · refine List.map_congr_left fun m hm => ?_
        rw [em, if_neg (by omega)]
    · simp only [List.map_cons, List.map_nil]
      congr 1
      unfold FS.fact
      rw [eK, eM]
      obtain ⟨fd, fm⟩ := f
      have h1 : (List.range S.K).map (fun d => txt ((S.laid ⟨fd, fm⟩).D d) ((S.laid ⟨fd, fm⟩).cn d S.n)) = fd := by
        refine Eq.trans (List.map_congr_left fun d hd => ?_) (map_getD fd [] hf.1)
        have hd' : d < S.K := by simpa using hd
        rw [eD d hd', ec, if_pos ⟨hd', rfl⟩, (idx_add _ _).2]
        rfl
      have h2 : (List.range S.M).map (fun m => (S.laid ⟨fd, fm⟩).mn m S.n) = fm := by
        refine Eq.trans (List.map_congr_left fun m hm => ?_) (map_getD fm 0 hf.2.1)
        have hm' : m < S.M := by simpa using hm
        rw [em, if_pos ⟨hm', rfl⟩]
        rfl
      rw [h1, h2]
  exact {
    k := by rw [eK]; exact h.k
    m := by rw [eM]; exact h.m
    dn := fun d hd => by
      rw [eK] at hd
      rw [eD d hd]
      obtain ⟨h1, h2, h3⟩ := h.dn d hd
      refine ⟨addT_nodup h1 _, ?_, fun t ht => ?_⟩
      · by_cases hm : f.dim d ∈ S.D d
        · rw [addT_in hm]; exact h2
        · have := (hr d hd).resolve_left hm
          rw [addT_out hm]; simp; omega
      · rcases mem_addT.1 ht with ht | rfl
        · exact h3 t ht
        · exact dim_len hf hd
    cb := fun d hd p hp => by
      rw [eK] at hd
      rw [en] at hp
      rw [eD d hd, ec]
      by_cases e : p = S.n
      · rw [if_pos ⟨hd, e⟩]; exact (idx_add _ _).1
      · rw [if_neg (by omega)]; exact Nat.lt_of_lt_of_le (h.cb d hd p (by omega)) (addT_le _ _)
    cz := fun d p hp => by
      rw [en] at hp
      rw [ec, if_neg (by omega)]; exact h.cz d p (by omega)
    mz := fun m p hp => by
      rw [en] at hp
      rw [em, if_neg (by omega)]; exact h.mz m p (by omega)
    mi := fun m p => by
      rw [em]
      split
      · exact mea_ok ho m
      · exact h.mi m p
    g := by
      have hg := h.g
      rw [en]
      show S.start.G = _
      unfold FS.start
      split
      · show S.G + 1 = _; omega
      · omega
    e := by show S.start.E = _; rw [S.start_E]; exact h.e
    f := by rw [ef, List.append_assoc]
    v := fun d hd => by
      rw [eK] at hd
      rw [eD d hd, ← List.append_assoc, vals_snoc, ← h.v d hd]
    b := h.b
    bn := by rw [en, List.length_append]; have := h.bn; simp; omega }
/-- The batch is done. -/
def FS.done (S : FS) : FS := { S with E := S.E ++ [S.n] }
theorem FW.done {S : FS} {B : List (List FactP)} {l : List FactP} (h : FW S B l) (hl : l.length ≤ 64) (hB : B.length < 1000) : FW S.done (B ++ [l]) [] where
  k := h.k
  m := h.m
  dn := h.dn
  cb := h.cb
  cz := h.cz
  mz := h.mz
  mi := h.mi
  g := h.g
  e := by
    show S.E ++ [S.n] = _
    rw [endsOf_snoc, h.e, h.n_eq]
  f := by
    show S.L = _
    rw [h.f]; simp
  v := fun d hd => by
    show S.D d = _
    rw [h.v d hd]; simp
  b := by simp; omega
  bn := by
    show S.n ≤ _
    have := h.bn
    simp; omega

/-! ### what Check tells -/
def anyTo (p : Nat → Bool) (K : Nat) : Bool := (List.range K).any p
def chk (S : FS) (l : List FactP) : Int :=
  if 64 < l.length then 46 else if l.all (fun f => decide (f.Fits S.K S.M)) = false then 26 else if anyTo (fun d => decide (4096 < (addAll (S.D d) d l).length)) S.K then 12 else 0
theorem chk_ok {S : FS} {l : List FactP} (h : chk S l = 0) : l.length ≤ 64 ∧ (∀ f ∈ l, f.Fits S.K S.M) ∧ ∀ d, d < S.K → (addAll (S.D d) d l).length ≤ 4096 := by
  unfold chk at h
  by_cases h1 : 64 < l.length
  · rw [if_pos h1] at h; cases h
  · rw [if_neg h1] at h
    by_cases h2 : l.all (fun f => decide (f.Fits S.K S.M)) = false
    · rw [if_pos h2] at h; cases h
    · rw [if_neg h2] at h
      by_cases h3 : anyTo (fun d => decide (4096 < (addAll (S.D d) d l).length)) S.K = true
      · rw [if_pos h3] at h; cases h
      · refine ⟨by omega, fun f hf => ?_, fun d hd => ?_⟩
        · have := (Bool.not_eq_false _).mp h2
          rw [List.all_eq_true] at this
          exact of_decide_eq_true (this f hf)
        · have h4 := (Bool.not_eq_true _).mp h3
          unfold anyTo at h4
          rw [List.any_eq_false] at h4
          have := h4 d (by simpa using hd)
          simpa using this
/-- The places' range of the batches behind a, up to b. -/
def clampN (n : Nat) (i : Int) : Nat := min i.toNat n
def lowS (B : List (List FactP)) (a : Int) : Nat := (B.take (clampN B.length a)).flatten.length
def highS (B : List (List FactP)) (a b : Int) : Nat := max (lowS B a) (lowS B b)
theorem lowS_le (B : List (List FactP)) (a : Int) : lowS B a ≤ B.flatten.length := by
  have := endsOf_mono B (Nat.min_le_right a.toNat B.length)
  rw [List.take_length] at this
  exact this
theorem highS_le (B : List (List FactP)) (a b : Int) : highS B a b ≤ B.flatten.length := Nat.max_le.2 ⟨lowS_le B a, lowS_le B b⟩
theorem low_le_high (B : List (List FactP)) (a b : Int) : lowS B a ≤ highS B a b := Nat.le_max_left _ _
end Go.Proofs.Ytmaeejojmbibnaa
