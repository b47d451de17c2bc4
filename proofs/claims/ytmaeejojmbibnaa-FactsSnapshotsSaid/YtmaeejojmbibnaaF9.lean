/- One cell more of a fact that is being laid: a text's number, a measure. -/
import Derived.Test.YtmaeejojmbibnaaF8
namespace Go.Proofs.Ytmaeejojmbibnaa
open Go.RowKit Go.Maps
set_option linter.unusedVariables false

theorem put_of {L : List Tx} {t : Tx} (hl : t.length ≤ 64) (hr : t ∈ L ∨ L.length < 4096) : (DS.of L).put t = .of (addT L t) ∧ (DS.of L).putN t = (idx (addT L t) t : Nat) ∧ (DS.of L).putE t = 0 := by
  unfold DS.put DS.putN DS.putE
  have h64 : ¬ 64 < t.length := by omega
  have eL : (DS.of L).L = L := rfl
  rw [if_neg h64, if_neg h64, if_neg h64, eL]
  cases hn : num L t with
  | some n =>
    have hm := num_mem hn
    have := (idx_in hm).1
    rw [hn] at this
    have e : n = idx L t := Option.some.inj this
    refine ⟨by rw [addT_in hm], ?_, rfl⟩
    show (n : Int) = _
    rw [idx_old hm, e]
  | none =>
    have hm := num_none.1 hn
    have hlt := hr.resolve_left hm
    have h4 : ¬ L.length = 4096 := by omega
    simp only [if_neg h4]
    rw [idx_new hm, addT_out hm]
    exact ⟨rfl, rfl, trivial⟩

/-- Put of a text that has room. -/
def PutQ (d : Nat) (R : Rp) (L : List Tx) (t : Tx) (w : World) (e : Ending) (w' : World) : Prop := e = .returned (.tuple #[.int .i64 (idx (addT L t) t : Nat), .int .i64 0]) ∧ Post d R w (.of (addT L t)) w'
theorem putq_any (d : Nat) (R : Rp) (L : List Tx) (w : World) (h : At w d R (.of L)) (hW : WF (.of L)) (t : Tx) (hl : t.length ≤ 64) (hr : t ∈ L ∨ L.length < 4096) : Calls Try.prog 53 #[.pointer (some ⟨d, 0, none⟩), encT t] w (PutQ d R L t w) := by
  obtain ⟨e1, e2, e3⟩ := put_of hl hr
  refine (put_any d R (.of L) w h hW t (by unfold maxLen; omega)).mono ?_
  rintro e w' ⟨he, p⟩
  rw [e1] at p
  rw [e2, e3] at he
  exact ⟨he, p⟩

theorem part_D (S : FS) (f : FactP) (i j d : Nat) : (S.part f i j).D d = if d < i then addT (S.D d) (f.dim d) else S.D d := rfl
theorem part_cn (S : FS) (f : FactP) (i j d p : Nat) : (S.part f i j).cn d p = if d < i ∧ p = S.n then idx (addT (S.D d) (f.dim d)) (f.dim d) else S.cn d p := rfl
theorem part_mn (S : FS) (f : FactP) (i j m p : Nat) : (S.part f i j).mn m p = if m < j ∧ p = S.n then f.mea m else S.mn m p := rfl

theorem col_set {w : World} {g : Nat} {t : TypeId} {n : Nat} {c c' : Nat → Nat → Value} (h : Col w g t n c) {d0 j0 : Nat} (hd0 : d0 < n) (hj0 : j0 < 256) {v : Value} (hv : c' d0 j0 = v) (hc : ∀ d j, d < n → j < 256 → ¬ (d = d0 ∧ j = j0) → c' d j = c d j) :
    Col (w.setCell ⟨g, d0 * 256 + j0, none⟩ v) g t n c' := by
  obtain ⟨cs, h1, h2, h3⟩ := h
  refine ⟨_, h1.set_ _ _, by simp [h2], fun d j hd hj => ?_⟩
  rw [Array.getElem?_setIfInBounds]
  by_cases e : d = d0 ∧ j = j0
  · obtain ⟨rfl, rfl⟩ := e
    rw [if_pos rfl, if_pos (by omega), hv]
  · rw [if_neg (by omega), h3 d j hd hj, hc d j hd hj e]

theorem dset {w w2 : World} {s i : Nat} {Q : SRp} {S : FS} {f : FactP} {R' : Rp} (h : SAt w s Q (S.part f i 0)) (hi : i < S.K) (hG : S.n / 256 < S.G)
    (a : At w2 (Q.ds i) R' (.of (addT (S.D i) (f.dim i)))) (fr : Fr (foot (Q.ds i) (Q.rp i)) w w2) (gr : ∀ k, foot (Q.ds i) R' k → foot (Q.ds i) (Q.rp i) k ∨ w.heap.size ≤ k) :
    SAt (w2.setCell ⟨Q.sa (S.n / 256), i * 256 + S.n % 256, none⟩ (.int .u16 (idx (addT (S.D i) (f.dim i)) (f.dim i) : Nat))) s { Q with rp := fun d => if d = i then R' else Q.rp d } (S.part f (i + 1) 0) ∧
      Fr (sfoot s Q (S.part f i 0)) w (w2.setCell ⟨Q.sa (S.n / 256), i * 256 + S.n % 256, none⟩ (.int .u16 (idx (addT (S.D i) (f.dim i)) (f.dim i) : Nat))) ∧
      ∀ k, sfoot s { Q with rp := fun d => if d = i then R' else Q.rp d } (S.part f (i + 1) 0) k → sfoot s Q (S.part f i 0) k ∨ w.heap.size ≤ k := by
  obtain ⟨wf, hwf⟩ : ∃ wf, w2.setCell ⟨Q.sa (S.n / 256), i * 256 + S.n % 256, none⟩ (.int .u16 (idx (addT (S.D i) (f.dim i)) (f.dim i) : Nat)) = wf := ⟨_, rfl⟩
  rw [hwf]
  have hap := fun k (hk : foot (Q.ds i) (Q.rp i) k) => h.apart (d := i) hi hk
  have hcol : Col w (Q.sa (S.n / 256)) 83 S.K (dcol (S.part f i 0) (S.n / 256)) := h.sega _ hG
  have hnf : ¬ foot (Q.ds i) (Q.rp i) (Q.sa (S.n / 256)) := fun hk => ((hap _ hk).2.2.2.2 _ hG).1 rfl
  have hcol2 : Col w2 (Q.sa (S.n / 256)) 83 S.K (dcol (S.part f i 0) (S.n / 256)) := hcol.of (fr.block _ hcol.lt hnf)
  have f4 : Fr (One (Q.sa (S.n / 256))) w2 wf := by rw [← hwf]; exact Fr.setCell (F := One (Q.sa (S.n / 256))) (Fr.refl _ w2) (p := ⟨Q.sa (S.n / 256), i * 256 + S.n % 256, none⟩) (fun _ => rfl) _
  have f5 : Fr (fun k => foot (Q.ds i) (Q.rp i) k ∨ k = Q.sa (S.n / 256)) w wf := (fr.mono fun k _ hk => .inl hk).trans f4 fun k _ hk => .inr hk
  have keep : ∀ k, k < w.heap.size → ¬ foot (Q.ds i) (Q.rp i) k → k ≠ Q.sa (S.n / 256) → wf.heap[k]? = w.heap[k]? := fun k hk h1 h2 => f5.block k hk (by rintro (e | e); exact h1 e; exact h2 e)
  have ksa : ∀ {k : Nat} {t : TypeId} {cs : Array Value}, Blk w k t cs → t ≠ 83 → k ≠ Q.sa (S.n / 256) := fun hb hne e => hcol.ne_ hb (Ne.symm hne) e.symm
  have hdd : ∀ d, d < S.K → d ≠ i → ∀ k, foot (Q.ds d) (Q.rp d) k → ¬ foot (Q.ds i) (Q.rp i) k := fun d hd hne k hk => h.dap d i hd hi hne k hk
  have hds : ∀ d, d < S.K → ∀ k, foot (Q.ds d) (Q.rp d) k → k ≠ Q.sa (S.n / 256) := fun d hd k hk e => ((h.apart (d := d) hd hk).2.2.2.2 _ hG).1 e.symm
  have row : ∀ {t : TypeId} {b sz n k : Nat} {v : Value} {xs : List Value}, w.ownsRow b t sz v n xs → v.ownBlock = some k → t ≠ 83 → k ≠ Q.sa (S.n / 256) := fun hr hk hne => by
    obtain ⟨cur, hc⟩ := own_row hr hk
    exact ksa hc hne
  refine ⟨{
    blk := by
      have hb : Blk w s 60 (scells Q (S.part f i 0)) := h.blk
      exact hb.of (keep s hb.lt (fun hk => (hap _ hk).1 rfl) (ksa hb (by decide)))
    dicts := own_of h.dicts fun k hk => keep k (h.dicts.lt k hk).2 (fun hf => (hap _ hf).2.1 hk) (row h.dicts hk (by decide))
    dict := fun d hd => ?_
    dap := fun d e hd he hne k hk hk' => ?_
    segs := own_of h.segs fun k hk => keep k (h.segs.lt k hk).2 (fun hf => (hap _ hf).2.2.1 hk) (row h.segs hk (by decide))
    sega := fun g hg => ?_
    segb := fun g hg => ?_
    saa := h.saa
    sbb := h.sbb
    ends := own_of h.ends fun k hk => keep k (h.ends.lt k hk).2 (fun hf => (hap _ hf).2.2.2.1 hk) (row h.ends hk (by decide))
    eap := fun d hd k hk hf => ?_ }, f5.mono fun k _ hk => ?_, fun k hk => ?_⟩
  · show At wf (Q.ds d) (if d = i then R' else Q.rp d) (.of (if d < i + 1 then addT (S.D d) (f.dim d) else S.D d))
    by_cases e : d = i
    · subst e
      rw [if_pos rfl, if_pos (by omega)]
      refine a.of fun k hk => f4.block k (a.lt k hk) fun e => ?_
      have e' : k = Q.sa (S.n / 256) := e
      rcases gr k hk with h1 | h1
      · exact hds d hi k h1 e'
      · have := hcol.lt; omega
    · rw [if_neg e]
      have hx : (if d < i + 1 then addT (S.D d) (f.dim d) else S.D d) = (if d < i then addT (S.D d) (f.dim d) else S.D d) := by
        by_cases h1 : d < i
        · rw [if_pos h1, if_pos (by omega)]
        · rw [if_neg h1, if_neg (by omega)]
      rw [hx]
      have hA : At w (Q.ds d) (Q.rp d) (.of (if d < i then addT (S.D d) (f.dim d) else S.D d)) := h.dict d hd
      exact hA.of fun k hk => keep k (hA.lt k hk) (hdd d hd e k hk) (hds d hd k hk)
  · have hk1 : foot (Q.ds d) (if d = i then R' else Q.rp d) k := hk
    have hk2 : foot (Q.ds e) (if e = i then R' else Q.rp e) k := hk'
    by_cases e1 : d = i
    · rw [if_pos e1] at hk1
      subst e1
      rw [if_neg (Ne.symm hne)] at hk2
      rcases gr k hk1 with h1 | h1
      · exact h.dap d e hd he hne k h1 hk2
      · have := (h.dict e he).lt k hk2; omega
    · rw [if_neg e1] at hk1
      by_cases e2 : e = i
      · rw [if_pos e2] at hk2
        subst e2
        rcases gr k hk2 with h1 | h1
        · exact h.dap d e hd he hne k hk1 h1
        · have := (h.dict d hd).lt k hk1; omega
      · rw [if_neg e2] at hk2
        exact h.dap d e hd he hne k hk1 hk2
  · by_cases eg : g = S.n / 256
    · subst eg
      show Col wf (Q.sa (S.n / 256)) 83 S.K _
      rw [← hwf]
      refine col_set hcol2 hi (Nat.mod_lt _ (by omega)) ?_ fun d j hd hj hne => ?_
      · show Value.int .u16 ((if i < i + 1 ∧ S.n / 256 * 256 + S.n % 256 = S.n then idx (addT (S.D i) (f.dim i)) (f.dim i) else S.cn i _ : Nat) : Int) = _
        rw [if_pos ⟨by omega, by omega⟩]
      · show Value.int .u16 ((if d < i + 1 ∧ S.n / 256 * 256 + j = S.n then idx (addT (S.D d) (f.dim d)) (f.dim d) else S.cn d _ : Nat) : Int) = Value.int .u16 ((if d < i ∧ S.n / 256 * 256 + j = S.n then idx (addT (S.D d) (f.dim d)) (f.dim d) else S.cn d _ : Nat) : Int)
        by_cases h1 : d < i ∧ S.n / 256 * 256 + j = S.n
        · rw [if_pos h1, if_pos ⟨by omega, h1.2⟩]
        · rw [if_neg h1, if_neg (by omega)]
    · have hc : Col w (Q.sa g) 83 S.K (dcol (S.part f i 0) g) := h.sega g hg
      have hc2 := hc.of (keep _ hc.lt (fun hk => ((hap _ hk).2.2.2.2 _ hg).1 rfl) (h.saa g (S.n / 256) hg hG eg))
      obtain ⟨cs, x1, x2, x3⟩ := hc2
      refine ⟨cs, x1, x2, fun d j hd hj => (x3 d j hd hj).trans ?_⟩
      show some (Value.int .u16 ((if d < i ∧ g * 256 + j = S.n then idx (addT (S.D d) (f.dim d)) (f.dim d) else S.cn d _ : Nat) : Int)) = some (Value.int .u16 ((if d < i + 1 ∧ g * 256 + j = S.n then idx (addT (S.D d) (f.dim d)) (f.dim d) else S.cn d _ : Nat) : Int))
      rw [if_neg (by omega), if_neg (by omega)]
  · have hc : Col w (Q.sb g) 106 S.M (mcol (S.part f i 0) g) := h.segb g hg
    refine hc.of (keep _ hc.lt (fun hk => ((hap _ hk).2.2.2.2 _ hg).2 rfl) ?_)
    obtain ⟨cs, hb, _⟩ := hc
    exact ksa hb (by decide)
  · have hf' : foot (Q.ds d) (if d = i then R' else Q.rp d) k := hf
    by_cases e1 : d = i
    · rw [if_pos e1] at hf'
      subst e1
      rcases gr k hf' with h1 | h1
      · exact h.eap d hd k hk h1
      · have := (h.ends.lt k hk).2; omega
    · rw [if_neg e1] at hf'
      exact h.eap d hd k hk hf'
  · rcases hk with hk | hk
    · exact .inr (.inr (.inr (.inr (.inr ⟨i, hi, hk⟩))))
    · exact .inr (.inr (.inr (.inr (.inl ⟨_, hG, .inl hk.symm⟩))))
  · rcases hk with hk | hk | hk | hk | ⟨g, hg, hk⟩ | ⟨d, hd, hk⟩
    · exact .inl (.inl hk)
    · exact .inl (.inr (.inl hk))
    · exact .inl (.inr (.inr (.inl hk)))
    · exact .inl (.inr (.inr (.inr (.inl hk))))
    · exact .inl (.inr (.inr (.inr (.inr (.inl ⟨g, hg, hk⟩)))))
    · have hk' : foot (Q.ds d) (if d = i then R' else Q.rp d) k := hk
      by_cases e1 : d = i
      · rw [if_pos e1] at hk'
        subst e1
        rcases gr k hk' with h1 | h1
        · exact .inl (.inr (.inr (.inr (.inr (.inr ⟨d, hd, h1⟩)))))
        · exact .inr h1
      · rw [if_neg e1] at hk'
        exact .inl (.inr (.inr (.inr (.inr (.inr ⟨d, hd, hk'⟩)))))

theorem mset {w : World} {s j : Nat} {Q : SRp} {S : FS} {f : FactP} (h : SAt w s Q (S.part f S.K j)) (hj : j < S.M) (hG : S.n / 256 < S.G) :
    SAt (w.setCell ⟨Q.sb (S.n / 256), j * 256 + S.n % 256, none⟩ (.int .i64 (f.mea j))) s Q (S.part f S.K (j + 1)) ∧ Fr (sfoot s Q (S.part f S.K j)) w (w.setCell ⟨Q.sb (S.n / 256), j * 256 + S.n % 256, none⟩ (.int .i64 (f.mea j))) := by
  obtain ⟨wf, hwf⟩ : ∃ wf, w.setCell ⟨Q.sb (S.n / 256), j * 256 + S.n % 256, none⟩ (.int .i64 (f.mea j)) = wf := ⟨_, rfl⟩
  rw [hwf]
  have hcol : Col w (Q.sb (S.n / 256)) 106 S.M (mcol (S.part f S.K j) (S.n / 256)) := h.segb _ hG
  have f4 : Fr (One (Q.sb (S.n / 256))) w wf := by rw [← hwf]; exact Fr.setCell (F := One (Q.sb (S.n / 256))) (Fr.refl _ w) (p := ⟨Q.sb (S.n / 256), j * 256 + S.n % 256, none⟩) (fun _ => rfl) _
  have keep : ∀ k, k < w.heap.size → k ≠ Q.sb (S.n / 256) → wf.heap[k]? = w.heap[k]? := fun k hk h1 => f4.block k hk h1
  have ksb : ∀ {k : Nat} {t : TypeId} {cs : Array Value}, Blk w k t cs → t ≠ 106 → k ≠ Q.sb (S.n / 256) := fun hb hne e => hcol.ne_ hb (Ne.symm hne) e.symm
  have row : ∀ {t : TypeId} {b sz n k : Nat} {v : Value} {xs : List Value}, w.ownsRow b t sz v n xs → v.ownBlock = some k → t ≠ 106 → k ≠ Q.sb (S.n / 256) := fun hr hk hne => by
    obtain ⟨cur, hc⟩ := own_row hr hk
    exact ksb hc hne
  refine ⟨{
    blk := by
      have hb : Blk w s 60 (scells Q (S.part f S.K j)) := h.blk
      exact hb.of (keep s hb.lt (ksb hb (by decide)))
    dicts := own_of h.dicts fun k hk => keep k (h.dicts.lt k hk).2 (row h.dicts hk (by decide))
    dict := fun d hd => (h.dict d hd).of fun k hk => keep k ((h.dict d hd).lt k hk) fun e => ((h.apart (d := d) hd hk).2.2.2.2 _ hG).2 e.symm
    dap := h.dap
    segs := own_of h.segs fun k hk => keep k (h.segs.lt k hk).2 (row h.segs hk (by decide))
    sega := fun g hg => by
      have hc := h.sega g hg
      refine hc.of (keep _ hc.lt ?_)
      obtain ⟨cs, hb, _⟩ := hc
      exact ksb hb (by decide)
    segb := fun g hg => ?_
    saa := h.saa
    sbb := h.sbb
    ends := own_of h.ends fun k hk => keep k (h.ends.lt k hk).2 (row h.ends hk (by decide))
    eap := h.eap }, f4.mono fun k _ hk => .inr (.inr (.inr (.inr (.inl ⟨_, hG, .inr (Eq.symm hk)⟩))))⟩
  by_cases eg : g = S.n / 256
  · subst eg
    rw [← hwf]
    refine col_set hcol hj (Nat.mod_lt _ (by omega)) ?_ fun d i hd hi hne => ?_
    · show Value.int .i64 (if j < j + 1 ∧ S.n / 256 * 256 + S.n % 256 = S.n then f.mea j else S.mn j _) = _
      rw [if_pos ⟨by omega, by omega⟩]
    · show Value.int .i64 (if d < j + 1 ∧ S.n / 256 * 256 + i = S.n then f.mea d else S.mn d _) = Value.int .i64 (if d < j ∧ S.n / 256 * 256 + i = S.n then f.mea d else S.mn d _)
      by_cases h1 : d < j ∧ S.n / 256 * 256 + i = S.n
      · rw [if_pos h1, if_pos ⟨by omega, h1.2⟩]
      · rw [if_neg h1, if_neg (by omega)]
  · have hc : Col w (Q.sb g) 106 S.M (mcol (S.part f S.K j) g) := h.segb g hg
    have hc2 := hc.of (keep _ hc.lt (h.sbb g (S.n / 256) hg hG eg))
    obtain ⟨cs, x1, x2, x3⟩ := hc2
    refine ⟨cs, x1, x2, fun d i hd hi => (x3 d i hd hi).trans ?_⟩
    show some (Value.int .i64 (if d < j ∧ g * 256 + i = S.n then f.mea d else S.mn d _)) = some (Value.int .i64 (if d < j + 1 ∧ g * 256 + i = S.n then f.mea d else S.mn d _))
    rw [if_neg (by omega), if_neg (by omega)]
theorem SAt.next {w : World} {s : Nat} {Q : SRp} {S : FS} (h : SAt w s Q S) : SAt w s Q S.next where
  blk := h.blk
  dicts := h.dicts
  dict := h.dict
  dap := h.dap
  segs := h.segs
  sega := h.sega
  segb := h.segb
  saa := h.saa
  sbb := h.sbb
  ends := h.ends
  eap := h.eap
end Go.Proofs.Ytmaeejojmbibnaa
