/- A store as a law has it: its batches alone; each call by them. -/
import Derived.Test.YtmaeejojmbibnaaH8
namespace Go.Proofs.Ytmaeejojmbibnaa
open Go.RowKit Go.Maps
set_option linter.unusedVariables false

/-- A store of K dimensions and M measures with the batches B, none of its blocks one of X. -/
def St (X : Nat → Prop) (s K M : Nat) (B : List (List FactP)) (w : World) : Prop := ∃ Q S, SX w X s Q S ∧ FW S B [] ∧ S.K = K ∧ S.M = M
/-- X, and what came between two worlds. -/
def Btw (X : Nat → Prop) (w w' : World) : Nat → Prop := fun k => X k ∨ (w.heap.size ≤ k ∧ k < w'.heap.size)
section
variable {X Y : Nat → Prop} {s K M : Nat} {B : List (List FactP)} {w w' : World}
theorem St.keep (h : St X s K M B w) (hf : Fr No w w') : St X s K M B w' := by
  obtain ⟨Q, S, h1, h2, h3⟩ := h
  exact ⟨Q, S, h1.keep hf, h2, h3⟩
theorem St.x (h : St X s K M B w) (hf : Fr X w w') : St X s K M B w' := by
  obtain ⟨Q, S, h1, h2, h3⟩ := h
  exact ⟨Q, S, h1.fr hf, h2, h3⟩
theorem St.less (h : St X s K M B w) (hY : ∀ k, Y k → X k) : St Y s K M B w := by
  obtain ⟨Q, S, h1, h2, h3⟩ := h
  exact ⟨Q, S, h1.less hY, h2, h3⟩
theorem St.more (h : St X s K M B w) (hf : Fr No w w') (hY : ∀ k, Y k → X k ∨ (w.heap.size ≤ k ∧ k < w'.heap.size)) : St Y s K M B w' := by
  obtain ⟨Q, S, h1, h2, h3⟩ := h
  exact ⟨Q, S, h1.more hf hY, h2, h3⟩
theorem St.btw (h : St X s K M B w) (hf : Fr No w w') : St (Btw X w w') s K M B w' := h.more hf fun _ h => h
theorem St.lo (h : St X s K M B w) : ∀ k, X k → k < w.heap.size := by
  obtain ⟨Q, S, h1, h2, h3⟩ := h
  exact h1.lo
theorem St.km (h : St X s K M B w) : (1 ≤ K ∧ K ≤ 6) ∧ (1 ≤ M ∧ M ≤ 4) := by
  obtain ⟨Q, S, h1, h2, rfl, rfl⟩ := h
  exact ⟨h2.k, h2.m⟩
theorem St.fit (h : St X s K M B w) : ∀ f ∈ B.flatten, f.Fits K M ∧ f.Ok := by
  obtain ⟨Q, S, h1, h2, rfl, rfl⟩ := h
  intro f hf
  exact h2.fit (by simpa using hf)
theorem St.blen (h : St X s K M B w) : B.length ≤ 1000 ∧ B.flatten.length ≤ 64000 := by
  obtain ⟨Q, S, h1, h2, rfl, rfl⟩ := h
  have := h2.flat
  have h3 := h2.bn
  have h4 := h2.b
  simp only [List.length_nil] at h3
  exact ⟨h4, by omega⟩
end

/-! ### facts as they are told -/
def fat (l : List FactP) (i : Nat) : FactP := l.getD i ⟨[], []⟩
def TL (l : List FactP) (i d : Nat) : Value := encT ((fat l i).dim d)
def ML (l : List FactP) (i m : Nat) : Value := .int .i64 ((fat l i).mea m)
def TF (h0 : Nat) (w : World) (v : Value) (K M : Nat) (l : List FactP) : Prop := Told h0 w v l.length K M (TL l) (ML l) ∧ ∀ f ∈ l, f.Fits K M ∧ f.Ok
theorem TF.keep {h0 : Nat} {w w' : World} {v : Value} {K M : Nat} {l : List FactP} (h : TF h0 w v K M l) (hf : Fr No w w') : TF h0 w' v K M l := ⟨h.1.keep hf, h.2⟩
theorem fat_eq {l : List FactP} {i : Nat} (h : i < l.length) : fat l i = l[i] := by simp [fat, h]
theorem mea_get {f : FactP} {m : Nat} (h : m < f.meas.length) : f.meas[m] = f.mea m := by simp [FactP.mea, h]
theorem dim_get {f : FactP} {d : Nat} (h : d < f.dims.length) : f.dims[d] = f.dim d := by simp [FactP.dim, h]
theorem TF.facts {h0 : Nat} {w : World} {v : Value} {K M : Nat} {l : List FactP} (h : TF h0 w v K M l) (hK : K ≤ 6) (hM : M ≤ 4) (hl : l.length ≤ maxLen) : Facts (fun k => h0 ≤ k ∧ k < w.heap.size) w v l := by
  obtain ⟨⟨da, ma, o, b⟩, hf⟩ := h
  obtain ⟨A, c, e⟩ := own_form o
  refine ⟨A, c, e, hl, fun hp => ?_⟩
  obtain ⟨g, c', h1, _, h2⟩ := o.form hp
  rw [h1] at e
  injection e with e1 e2 e3
  refine ⟨g, 0, e1.symm, ⟨?_, ?_⟩, ?_, fun j hj => ?_⟩
  · rw [h1] at o; exact (o.lt g rfl).1
  · rw [h1] at o; exact (o.lt g rfl).2
  · rw [h1] at o; exact (o.lt g rfl).2
  · have hcell : ∀ i, i < 2 → w.cell? ⟨g, j * 2 + i, none⟩ = (fcel K M da ma j)[i]? := fun i hi => by
      rw [h1] at o
      exact (o.cellAt (j * 2 + i) (by omega)).trans (fcells_at K M da ma l.length j hj i hi)
    obtain ⟨hfj, hok⟩ := hf _ (List.getElem_mem hj)
    refine ⟨fcel K M da ma j, rfl, fun i hi => by rw [Nat.zero_add]; exact hcell i hi, _, _, rfl, ?_, ?_⟩
    · obtain ⟨cs, b1, b2, b3⟩ := b.db j hj
      refine ⟨some ⟨da j, 0, none⟩, K, by rw [hfj.1], by rw [hfj.1]; unfold maxLen; omega, fun _ => ⟨da j, 0, rfl, ⟨(b.lo j hj).1, b1.lt⟩, b1.lt, fun d hd => ?_⟩⟩
      have hd' : d < K := by rw [← hfj.1]; exact hd
      refine ⟨[encT l[j].dims[d]], rfl, fun i hi => ?_, rfl, ?_⟩
      · obtain rfl : i = 0 := by omega
        rw [Nat.zero_add, Nat.mul_one, Nat.add_zero, b1.cell, b3 d hd']
        unfold TL
        rw [fat_eq hj, dim_get hd]; rfl
      · have := hfj.2.2 _ (List.getElem_mem hd)
        unfold maxLen; omega
    · obtain ⟨cs, b1, b2, b3⟩ := b.mb j hj
      refine ⟨some ⟨ma j, 0, none⟩, M, by rw [hfj.2.1], by rw [hfj.2.1]; unfold maxLen; omega, fun _ => ⟨ma j, 0, rfl, ⟨(b.lo j hj).2, b1.lt⟩, b1.lt, fun d hd => ?_⟩⟩
      have hd' : d < M := by rw [← hfj.2.1]; exact hd
      refine ⟨[.int .i64 l[j].meas[d]], rfl, fun i hi => ?_, rfl, ?_⟩
      · obtain rfl : i = 0 := by omega
        rw [Nat.zero_add, Nat.mul_one, Nat.add_zero, b1.cell, b3 d hd']
        unfold ML
        rw [fat_eq hj, mea_get hd]; rfl
      · exact hok _ (List.getElem_mem hd)

/-! ### what Check tells, by batches -/
def chkB (K M : Nat) (B : List (List FactP)) (l : List FactP) : Int :=
  if 64 < l.length then 46 else if l.all (fun f => decide (f.Fits K M)) = false then 26 else if anyTo (fun d => decide (4096 < (vals (B.flatten ++ l) d).length)) K then 12 else 0
theorem chk_eq {S : FS} {B : List (List FactP)} (h : FW S B []) (l : List FactP) : chk S l = chkB S.K S.M B l := by
  unfold chk chkB
  have e : anyTo (fun d => decide (4096 < (addAll (S.D d) d l).length)) S.K = anyTo (fun d => decide (4096 < (vals (B.flatten ++ l) d).length)) S.K := by
    unfold anyTo
    rw [Bool.eq_iff_iff, List.any_eq_true, List.any_eq_true]
    have key : ∀ d, d < S.K → addAll (S.D d) d l = vals (B.flatten ++ l) d := fun d hd => by
      have := h.v d hd
      rw [List.append_nil] at this
      rw [this, vals_append]
    constructor
    · rintro ⟨d, h1, h2⟩
      refine ⟨d, h1, ?_⟩
      rw [← key d (by simpa using h1)]; exact h2
    · rintro ⟨d, h1, h2⟩
      refine ⟨d, h1, ?_⟩
      rw [key d (by simpa using h1)]; exact h2
  rw [e]
theorem chkB_ok {K M : Nat} {B : List (List FactP)} {l : List FactP} (h1 : l.length ≤ 64) (h2 : ∀ f ∈ l, f.Fits K M) (h3 : ∀ d, d < K → (vals (B.flatten ++ l) d).length ≤ 4096) : chkB K M B l = 0 := by
  unfold chkB
  have e1 : l.all (fun f => decide (f.Fits K M)) = true := by
    rw [List.all_eq_true]; intro f hx; exact decide_eq_true (h2 f hx)
  have e2 : anyTo (fun d => decide (4096 < (vals (B.flatten ++ l) d).length)) K = false := by
    unfold anyTo
    rw [List.any_eq_false]
    intro d hd
    have := h3 d (by simpa using hd)
    simpa using this
  rw [if_neg (by omega), e1, e2]; rfl

/-! ### the calls -/
def NewS (X : Nat → Prop) (K M : Nat) (w : World) (e : Ending) (w' : World) : Prop := ∃ s, e = .returned (.tuple #[.pointer (some ⟨s, 0, none⟩), .int .i64 0]) ∧ St X s K M [] w' ∧ Fr No w w'
theorem m_new (X : Nat → Prop) (K M : Nat) (hK : 1 ≤ K ∧ K ≤ 6) (hM : 1 ≤ M ∧ M ≤ 4) (w : World) (hX : ∀ k, X k → k < w.heap.size) : Calls Try.prog 10 #[.int .i64 K, .int .i64 M] w (NewS X K M w) := by
  refine (snew_any K M hK hM w).mono ?_
  rintro e w' ⟨s, he, Q, ha, hf, hl⟩
  exact ⟨s, he, ⟨Q, _, ⟨fun k hk => Nat.lt_of_lt_of_le (hX k hk) hf.size, ha, fun k hk hx => by have := hl k hk; have := hX k hx; omega⟩, FW.zero hK hM, rfl, rfl⟩, hf⟩
section
variable {X : Nat → Prop} {s K M : Nat} {B : List (List FactP)} {w : World}
theorem m_seq (h : St X s K M B w) : Calls Try.prog 13 #[.pointer (some ⟨s, 0, none⟩)] w fun e w' => e = .returned (.int .i64 (B.length : Nat)) ∧ w = w' := by
  obtain ⟨Q, S, h1, h2, rfl, rfl⟩ := h
  exact seq_any s Q S B [] w h1.at_ h2
theorem m_len (h : St X s K M B w) : Calls Try.prog 14 #[.pointer (some ⟨s, 0, none⟩)] w (QuietI (B.flatten.length : Nat) w) := by
  obtain ⟨Q, S, h1, h2, rfl, rfl⟩ := h
  exact slen_any s Q S B [] w h1.at_ h2
theorem m_segments (h : St X s K M B w) : Calls Try.prog 16 #[.pointer (some ⟨s, 0, none⟩)] w fun e w' => e = .returned (.int .i64 ((B.flatten.length + 255) / 256 : Nat)) ∧ w = w' := by
  obtain ⟨Q, S, h1, h2, rfl, rfl⟩ := h
  have e := h2.g
  rw [h2.flat] at e
  rw [← e]
  exact segments_any s Q S B [] w h1.at_ h2
theorem m_size (h : St X s K M B w) (a b : Int) : Calls Try.prog 23 #[.pointer (some ⟨s, 0, none⟩), .int .i64 a, .int .i64 b] w fun e w' => e = .returned (.int .i64 ((slc B a b).length : Nat)) ∧ Fr No w w' := by
  have hb := h.blen
  obtain ⟨Q, S, h1, h2, rfl, rfl⟩ := h
  rw [slc_len]
  have := highS_le B a b
  exact size_of w _ a b _ _ (low_le_high B a b) (by omega) (span_any s Q S B [] w h1.at_ h2 a b)
theorem m_values (h : St X s K M B w) (d : Nat) (hd : d < K) : Calls Try.prog 25 #[.pointer (some ⟨s, 0, none⟩), .int .i64 d] w fun e w' => e = .returned (.int .i64 ((vals B.flatten d).length : Nat)) ∧ w = w' := by
  obtain ⟨Q, S, h1, h2, rfl, rfl⟩ := h
  have e := h2.v d hd
  rw [List.append_nil] at e
  rw [← e]
  exact values_in s Q S B [] w h1.at_ h2 d hd
theorem m_out (h : St X s K M B w) (i : Int) (hi : i < 0 ∨ (K : Int) ≤ i) : OutP (some ⟨s, 0, none⟩) i w := by
  obtain ⟨Q, S, h1, h2, rfl, rfl⟩ := h
  exact shas_out s Q S B [] w h1.at_ h2 i hi
theorem m_match (h : St X s K M B w) (d : Nat) (hd : d < K) (t : Tx) (ht : t.length ≤ maxLen) (b : Int) : Calls Try.prog 26 #[.pointer (some ⟨s, 0, none⟩), .int .i64 d, encT t, .int .i64 b] w fun e w' => e = .returned (.int .i64 (mtc B d t b : Nat)) ∧ Fr No w w' := by
  obtain ⟨Q, S, h1, h2, rfl, rfl⟩ := h
  exact match_in s Q S B w h1.at_ h2 d hd t ht b
def ScanT (K M : Nat) (l : List FactP) (w : World) (e : Ending) (w' : World) : Prop := ∃ A c, e = .returned (.slice A l.length c) ∧ TF w.heap.size w' (.slice A l.length c) K M l ∧ Fr No w w'
theorem m_scan (h : St X s K M B w) (a b : Int) : Calls Try.prog 19 #[.pointer (some ⟨s, 0, none⟩), .int .i64 a, .int .i64 b] w (ScanT K M (slc B a b) w) := by
  have hfit := h.fit
  obtain ⟨Q, S, h1, h2, rfl, rfl⟩ := h
  refine (scan_any s Q S B w h1.at_ h2 a b).mono ?_
  rintro e w' ⟨v, he, ht, hf⟩
  have hl := slc_len B a b
  have hget : ∀ i, i < highS B a b - lowS B a → fat (slc B a b) i = S.fact (lowS B a + i) := fun i hi => by
    have hh := highS_le B a b
    have hg := h2.get (p := lowS B a + i) (by rw [h2.flat]; omega)
    unfold fat slc
    rw [List.getD_eq_getElem?_getD, List.getElem?_drop, List.getElem?_take, if_pos (by omega), hg]; rfl
  obtain ⟨A, c, rfl⟩ : ∃ A c, v = .slice A (slc B a b).length c := by
    obtain ⟨da, ma, o, _⟩ := ht
    obtain ⟨A, c, e⟩ := own_form o
    exact ⟨A, c, by rw [hl]; exact e⟩
  refine ⟨A, c, he, ⟨ht.congr hl.symm (fun i d hi hd => ?_) (fun i m hi hm => ?_), fun f hx => hfit f (List.mem_of_mem_take (List.mem_of_mem_drop hx))⟩, hf⟩
  · unfold TL TT
    rw [hget i hi, S.fact_dim _ hd]
  · unfold ML MT
    rw [hget i hi, S.fact_mea _ hm]
theorem m_check (h : St X s K M B w) (Y : Nat → Prop) (lv : Value) (l : List FactP) (hl : Facts Y w lv l) : Calls Try.prog 27 #[.pointer (some ⟨s, 0, none⟩), lv] w (ChkP (chkB K M B l) w) := by
  obtain ⟨Q, S, h1, h2, rfl, rfl⟩ := h
  rw [← chk_eq h2]
  exact check_any s Q S B [] w h1.at_ h2 Y lv l hl
theorem m_append (h : St X s K M B w) (hB : B.length < 1000) (lv : Value) (l : List FactP) (hl : Facts X w lv l) (hc : chkB K M B l = 0) : Calls Try.prog 21 #[.pointer (some ⟨s, 0, none⟩), lv] w fun e w' => e = .returned (.tuple #[.int .i64 (B.length + 1 : Nat), .int .i64 0]) ∧ St X s K M (B ++ [l]) w' ∧ Fr (NX X) w w' := by
  obtain ⟨Q, S, h1, h2, rfl, rfl⟩ := h
  rw [← chk_eq h2] at hc
  exact append_ok s Q S B w X h1 h2 hB lv l hl hc
theorem m_refuse (h : St X s K M B w) (Y : Nat → Prop) (lv : Value) (l : List FactP) (hl : Facts Y w lv l) (hc : chkB K M B l ≠ 0) : Calls Try.prog 21 #[.pointer (some ⟨s, 0, none⟩), lv] w fun e w' => e = .returned (.tuple #[.int .i64 0, .int .i64 (chkB K M B l)]) ∧ Fr No w w' := by
  have hq := m_check h Y lv l hl
  obtain ⟨A, c, rfl⟩ := hl.slice
  exact append_no w _ A _ c _ hc hq
end
end Go.Proofs.Ytmaeejojmbibnaa
