/- FactsSnapshots: what the law keeps. -/
import Derived.Test.YtmaeejojmbibnaaJ8
import Derived.Test.YtmaeejojmbibnaaJ9
namespace Go.Proofs.Ytmaeejojmbibnaa
open Go.RowKit Go.Maps
set_option linter.unusedVariables false

/-! ### stretches -/
theorem lowS_nat (B : List (List FactP)) {i : Nat} (h : i ≤ B.length) : lowS B (i : Nat) = (B.take i).flatten.length := by
  unfold lowS clampN
  rw [Int.toNat_natCast, Nat.min_eq_left h]
theorem slc_to (B : List (List FactP)) {i : Nat} (h : i ≤ B.length) : slc B 0 (i : Nat) = (B.take i).flatten := by
  unfold slc
  rw [lowS_zero, highS_zero, lowS_nat B h, List.drop_zero, take_flat]
theorem lowS_mono (B : List (List FactP)) {i j : Nat} (h : i ≤ j) (hj : j ≤ B.length) : lowS B (i : Nat) ≤ lowS B (j : Nat) := by
  rw [lowS_nat B (by omega), lowS_nat B hj]
  exact endsOf_mono B h
theorem take_drop_join {α : Type} (F : List α) {a b c : Nat} (hab : a ≤ b) (hbc : b ≤ c) : (F.take b).drop a ++ (F.take c).drop b = (F.take c).drop a := by
  have e : F.take c = F.take b ++ (F.take c).drop b := by
    conv => lhs; rw [← List.take_append_drop b (F.take c)]
    rw [List.take_take, Nat.min_eq_left hbc]
  by_cases hl : a ≤ (F.take b).length
  · conv => rhs; rw [e, List.drop_append_of_le_length hl]
  · have h1 : (F.take b).length < a := by omega
    have hF : F.length < a := by rw [List.length_take] at h1; omega
    rw [List.drop_eq_nil_of_le (by omega), List.drop_eq_nil_of_le (by rw [List.length_take]; omega), List.drop_eq_nil_of_le (by rw [List.length_take]; omega)]; rfl
theorem slc_join (B : List (List FactP)) {x y n : Nat} (hxy : x ≤ y) (hyn : y ≤ n) (hn : n ≤ B.length) : slc B 0 (x : Nat) ++ slc B (x : Nat) (y : Nat) ++ slc B (y : Nat) (n : Nat) = slc B 0 (n : Nat) := by
  have m1 := lowS_mono B hxy (by omega)
  have m2 := lowS_mono B hyn hn
  have e1 : highS B (x : Nat) (y : Nat) = lowS B (y : Nat) := Nat.max_eq_right m1
  have e2 : highS B (y : Nat) (n : Nat) = lowS B (n : Nat) := Nat.max_eq_right m2
  unfold slc
  rw [highS_zero, highS_zero, e1, e2, lowS_zero, List.drop_zero, List.drop_zero]
  have h1 := take_drop_join B.flatten (Nat.zero_le _) m1
  have h2 := take_drop_join B.flatten (Nat.zero_le _) m2
  rw [List.drop_zero, List.drop_zero] at h1 h2
  rw [h1, h2]

/-! ### what was told, among blocks X -/
def KX (X : Nat → Prop) (w : World) (k : Nat) : Prop := X k ∧ ∃ cs t, Blk w k t cs ∧ t ≠ 32
theorem St.step {X : Nat → Prop} {s K M : Nat} {B : List (List FactP)} {w w' : World} (h : St X s K M B w) (hf : Fr X w w') : St (Btw X w w') s K M B w' := by
  obtain ⟨Q, S, h1, h2, h3⟩ := h
  refine ⟨Q, S, ⟨fun k hk => ?_, h1.at_.fr hf fun k hF hk => h1.off k hk hF, fun k hk hx => ?_⟩, h2, h3⟩
  · rcases hk with hk | hk
    · exact Nat.lt_of_lt_of_le (h1.lo k hk) hf.size
    · exact hk.2
  · rcases hx with hx | hx
    · exact h1.off k hk hx
    · have := h1.at_.lt k hk; omega
theorem TF.factsX {h0 : Nat} {w : World} {v : Value} {K M : Nat} {l : List FactP} {X : Nat → Prop} (h : TF h0 w v K M l) (hK : K ≤ 6) (hM : M ≤ 4) (hl : l.length ≤ maxLen) (hX : ∀ k, h0 ≤ k → k < w.heap.size → X k) : Facts (KX X w) w v l := by
  obtain ⟨⟨da, ma, o, b⟩, hf⟩ := h
  obtain ⟨A, c, e⟩ := own_form o
  refine ⟨A, c, e, hl, fun hp => ?_⟩
  obtain ⟨g, c', h1, _, h2⟩ := o.form hp
  rw [h1] at e
  injection e with e1 e2 e3
  rw [h1] at o
  obtain ⟨cur, hcur⟩ := own_row o rfl
  refine ⟨g, 0, e1.symm, ⟨hX g (o.lt g rfl).1 (o.lt g rfl).2, cur, 51, hcur, by decide⟩, (o.lt g rfl).2, fun j hj => ?_⟩
  have hcell : ∀ i, i < 2 → w.cell? ⟨g, j * 2 + i, none⟩ = (fcel K M da ma j)[i]? := fun i hi => (o.cellAt (j * 2 + i) (by omega)).trans (fcells_at K M da ma l.length j hj i hi)
  obtain ⟨hfj, hok⟩ := hf _ (List.getElem_mem hj)
  refine ⟨fcel K M da ma j, rfl, fun i hi => by rw [Nat.zero_add]; exact hcell i hi, _, _, rfl, ?_, ?_⟩
  · obtain ⟨cs, b1, b2, b3⟩ := b.db j hj
    refine ⟨some ⟨da j, 0, none⟩, K, by rw [hfj.1], by rw [hfj.1]; unfold maxLen; omega, fun _ => ⟨da j, 0, rfl, ⟨hX _ (b.lo j hj).1 b1.lt, cs, 9, b1, by decide⟩, b1.lt, fun d hd => ?_⟩⟩
    have hd' : d < K := by rw [← hfj.1]; exact hd
    refine ⟨[encT l[j].dims[d]], rfl, fun i hi => ?_, rfl, ?_⟩
    · obtain rfl : i = 0 := by omega
      rw [Nat.zero_add, Nat.mul_one, Nat.add_zero, b1.cell, b3 d hd']
      unfold TL
      rw [fat_eq hj, dim_get hd]; rfl
    · have := hfj.2.2 _ (List.getElem_mem hd)
      unfold maxLen; omega
  · obtain ⟨cs, b1, b2, b3⟩ := b.mb j hj
    refine ⟨some ⟨ma j, 0, none⟩, M, by rw [hfj.2.1], by rw [hfj.2.1]; unfold maxLen; omega, fun _ => ⟨ma j, 0, rfl, ⟨hX _ (b.lo j hj).2 b1.lt, cs, 2, b1, by decide⟩, b1.lt, fun d hd => ?_⟩⟩
    have hd' : d < M := by rw [← hfj.2.1]; exact hd
    refine ⟨[.int .i64 l[j].meas[d]], rfl, fun i hi => ?_, rfl, ?_⟩
    · obtain rfl : i = 0 := by omega
      rw [Nat.zero_add, Nat.mul_one, Nat.add_zero, b1.cell, b3 d hd']
      unfold ML
      rw [fat_eq hj, mea_get hd]; rfl
    · exact hok _ (List.getElem_mem hd)
/-- What the first loop keeps. -/
structure Sn (w0 : World) (B s : Nat) (X : Nat → Prop) (Bs : List (List FactP)) (v : Value) (i : Nat) (w : World) : Prop where
  st : St X s 2 1 Bs w
  bel : ∀ k, k < B → X k
  fr : Fr (Ge B) w0 w
  le : B ≤ w.heap.size
  len : Bs.length = i
  row : ∃ cells, w.ownsRow B 32 1 v i cells ∧ ∀ j, j < i → ∃ u, cells[j]? = some u ∧ Facts (KX X w) w u (Bs.take (j + 1)).flatten
  own : ∀ k, v.ownBlock = some k → X k
/-- A batch more, and what was told behind it. -/
theorem Sn.next {w0 w wa wb wc w3 : World} {B s i g cap : Nat} {X : Nat → Prop} {Bs : List (List FactP)} {L : List FactP} {v u : Value} {cells : List Value} (h : Sn w0 B s X Bs v i w) (fa : Fr No w wa) (hb : St (Btw X w wa) s 2 1 (Bs ++ [L]) wb) (fb : Fr (NX (Btw X w wa)) wa wb)
    (fc : Fr No wb wc) (hu : TF wb.heap.size wc u 2 1 (slc (Bs ++ [L]) 0 (i + 1 : Nat))) (wd : World) (fd : Fr No wc wd) (hg : wd.grownBy w3 v.ownBlock)
    (ho : w.ownsRow B 32 1 v i cells) (hc : ∀ j, j < i → ∃ u, cells[j]? = some u ∧ Facts (KX X w) w u (Bs.take (j + 1)).flatten) (ho3 : w3.ownsRow B 32 1 (.slice (some ⟨g, 0, none⟩) (i + 1) cap) (i + 1) (cells ++ [u])) (hat : v.ownBlock = some g ∨ g = wd.heap.size) :
    ∃ X', Sn w0 B s X' (Bs ++ [L]) (.slice (some ⟨g, 0, none⟩) (i + 1) cap) (i + 1) w3 := by
  have fbd : Fr No wb wd := fc.nn fd
  have h1 : St (Btw (Btw X w wa) wb wd) s 2 1 (Bs ++ [L]) wd := hb.btw fbd
  have fg : Fr (fun k => v.ownBlock = some k) wd w3 := (Fr.refl _ wd).grown hg fun k hk _ => hk
  have fgX : Fr (Btw (Btw X w wa) wb wd) wd w3 := fg.mono fun k _ hk => .inl (.inl (h.own k hk))
  have h2 := h1.step fgX
  have hsz1 := fa.size
  have hsz2 := fb.size
  have hsz3 := fbd.size
  have hsz4 := fg.size
  have hown : ∀ k, v.ownBlock = some k → k < w.heap.size := fun k hk => (ho.lt k hk).2
  have hX' : ∀ k, X k → Btw (Btw (Btw X w wa) wb wd) wd w3 k := fun k hk => .inl (.inl (.inl hk))
  have hblk : ∀ k, KX X w k → k < w.heap.size → KX (Btw (Btw (Btw X w wa) wb wd) wd w3) w3 k ∧ w3.heap[k]? = w.heap[k]? := by
    rintro k ⟨hx, cs, t, hbk, ht⟩ hlt
    have e1 := fa.block k hlt id
    have e2 := fb.block k (by omega) fun hn => hn (.inl hx)
    have e3 := fbd.block k (by omega) id
    have hne : v.ownBlock ≠ some k := fun e => by
      obtain ⟨cur, hc'⟩ := own_row ho e
      exact Blk.ne_ hbk hc' ht rfl
    have e4 := fg.block k (by omega) hne
    have e : w3.heap[k]? = w.heap[k]? := e4.trans (e3.trans (e2.trans e1))
    exact ⟨⟨hX' k hx, cs, t, hbk.of e, ht⟩, e⟩
  have hbB : ∀ k, k < B → Btw X w wa k := fun k hk => .inl (h.bel k hk)
  have hcl : cells.length = i := by have := ho.1; omega
  have hlen2 : (Bs ++ [L]).length = i + 1 := by rw [List.length_append, h.len]; rfl
  have hslc : slc (Bs ++ [L]) 0 (i + 1 : Nat) = ((Bs ++ [L]).take (i + 1)).flatten := slc_to _ (by omega)
  have hub : ∀ k, KX (fun k => wb.heap.size ≤ k ∧ k < wc.heap.size) wc k → k < wc.heap.size → KX (Btw (Btw (Btw X w wa) wb wd) wd w3) w3 k ∧ w3.heap[k]? = wc.heap[k]? := by
    rintro k ⟨hx, cs, t, hbk, ht⟩ hlt
    have e3 := fd.block k hlt id
    have hsz := fd.size
    have hne : v.ownBlock ≠ some k := fun e => by have := hown k e; have := hx.1; omega
    have e4 := fg.block k (by omega) hne
    have e : w3.heap[k]? = wc.heap[k]? := e4.trans e3
    exact ⟨⟨.inl (.inr ⟨hx.1, by omega⟩), cs, t, hbk.of e, ht⟩, e⟩
  refine ⟨_, {
    st := h2
    bel := fun k hk => hX' k (h.bel k hk)
    fr := ((((h.fr.gno fa).gt (fb.ge hbB)).gno fbd).gt (fg.mono fun k hk e => ?_))
    le := by have := h.le; omega
    len := hlen2
    row := ⟨cells ++ [u], ho3, fun j hj => ?_⟩
    own := fun k hk => ?_ }⟩
  · exact (ho.lt k e).1
  · by_cases e : j < i
    · obtain ⟨x, hx, hf⟩ := hc j e
      refine ⟨x, by rw [List.getElem?_append_left (by omega)]; exact hx, ?_⟩
      have et : (Bs ++ [L]).take (j + 1) = Bs.take (j + 1) := List.take_append_of_le_length (by rw [h.len]; omega)
      rw [et]
      exact Facts.of hf (by omega) hblk
    · obtain rfl : j = i := by omega
      refine ⟨u, by rw [List.getElem?_append_right (by omega), hcl, Nat.sub_self]; rfl, ?_⟩
      rw [← hslc]
      have hl : (slc (Bs ++ [L]) 0 (j + 1 : Nat)).length ≤ maxLen := by
        have h3 := highS_le (Bs ++ [L]) 0 (j + 1 : Nat)
        have h4 := hb.blen.2
        rw [slc_len]
        unfold maxLen
        omega
      exact Facts.of (hu.factsX (X := fun k => wb.heap.size ≤ k ∧ k < wc.heap.size) (by omega) (by omega) hl fun k h1 h2 => ⟨h1, h2⟩) (by have := fd.size; omega) hub
  · have e : g = k := by simpa [Value.ownBlock] using hk
    subst e
    rcases hat with hat | hat
    · exact hX' g (h.own g hat)
    · exact .inr ⟨by omega, (ho3.lt g rfl).2⟩
end Go.Proofs.Ytmaeejojmbibnaa
