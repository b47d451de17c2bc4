/- The order of the texts, made: order. -/
import Derived.Test.YtlglfcadoofmpaaA5
import Derived.Deep.OwnRows
namespace Go.Proofs.Ytlglfcadoofmpaa
open Go.RowKit Go.Maps Go.Proofs
set_option linter.unusedVariables false

theorem Post.trans {w w1 w2 : World} {d : Nat} {R R1 : Rp} {S2 : DS} (hf : Fr (foot d R) w w1) (hg : ∀ k, foot d R1 k → foot d R k ∨ w.heap.size ≤ k) (k : Post d R1 w1 S2 w2) : Post d R w S2 w2 := by
  obtain ⟨R2, a, f, g⟩ := k
  refine ⟨R2, a, hf.trans f fun j hj hk => ?_, fun j hj => ?_⟩
  · rcases hg j hk with h | h
    · exact h
    · omega
  · rcases g j hj with h | h
    · exact hg j h
    · exact .inr (by have := hf.size; omega)

/-- The rows of the sorted numbers and of the ranks turn, and the cells that hold them. -/
theorem At.rows {w w' : World} {d : Nat} {R : Rp} {S S' : DS} {sv kv : Value} (h : At w d R S) (hf : Fr (fun k => k = d ∨ R.sv.ownBlock = some k ∨ R.kv.ownBlock = some k) w w')
    (hb : Blk w' d 65 (dcells S' { R with sv := sv, kv := kv })) (hs : w'.ownsRow 0 3 1 sv S'.S.length (S'.S.map encN)) (hk : w'.ownsRow 0 3 1 kv S'.K.length (S'.K.map encN))
    (hap : ∀ k, sv.ownBlock = some k → kv.ownBlock ≠ some k) (e : S'.L = S.L) : At w' d { R with sv := sv, kv := kv } S' := by
  obtain ⟨a1, a2, a3, a4, a5, a6⟩ := h.apart
  have hk' : ∀ k, foot d R k → k ≠ d → R.sv.ownBlock ≠ some k → R.kv.ownBlock ≠ some k → w'.heap[k]? = w.heap[k]? := fun k hk h1 h2 h3 => hf.block k (h.lt k hk) (by rintro (e | e | e); exact h1 e; exact h2 e; exact h3 e)
  exact {
    blk := hb
    texts := by rw [e]; exact own_of h.texts fun k hk => hk' _ (.inr (.inr (.inl hk))) (fun e => a2 (e ▸ hk)) (a6 k hk).1 (a6 k hk).2
    names := h.names.of fun k hk => hk' _ (.inr (.inl hk)) (fun e => a1 (e ▸ hk)) (a5 k hk).2.1 (a5 k hk).2.2
    lk := by rw [e]; exact h.lk
    sz := by rw [e]; exact h.sz
    sorted := hs
    ranks := hk
    ap := hap }
theorem Post.rows {w w' : World} {d : Nat} {R : Rp} {S S' : DS} {sv kv : Value} (h : At w d R S) (hf : Fr (fun k => k = d ∨ R.sv.ownBlock = some k ∨ R.kv.ownBlock = some k) w w')
    (hb : Blk w' d 65 (dcells S' { R with sv := sv, kv := kv })) (hs : w'.ownsRow 0 3 1 sv S'.S.length (S'.S.map encN)) (hk : w'.ownsRow 0 3 1 kv S'.K.length (S'.K.map encN))
    (hap : ∀ k, sv.ownBlock = some k → kv.ownBlock ≠ some k) (e : S'.L = S.L) (h1 : ∀ k, sv.ownBlock = some k → R.sv.ownBlock = some k ∨ w.heap.size ≤ k) (h2 : ∀ k, kv.ownBlock = some k → R.kv.ownBlock = some k ∨ w.heap.size ≤ k) : Post d R w S' w' :=
  ⟨_, h.rows hf hb hs hk hap e, hf.mono fun k _ hk => by
    rcases hk with hk | hk | hk
    · exact .inl hk
    · exact .inr (.inr (.inr (.inl hk)))
    · exact .inr (.inr (.inr (.inr hk))), fun k hk => by
    rcases hk with hk | hk | hk | hk | hk
    · exact .inl (.inl hk)
    · exact .inl (.inr (.inl hk))
    · exact .inl (.inr (.inr (.inl hk)))
    · exact (h1 k hk).imp (fun e => .inr (.inr (.inr (.inl e)))) id
    · exact (h2 k hk).imp (fun e => .inr (.inr (.inr (.inr e)))) id⟩

/-- One number more behind the sorted ones. -/
def DS.push (S : DS) (k : Nat) : DS := { S with S := S.S ++ [k] }
def PushQ (d bx : Nat) (R : Rp) (w : World) (S' : DS) (w' : World) : Prop := Post d R w S' w' ∧ Blk w' bx 24 #[.pointer (some ⟨d, 0, none⟩)]
theorem push_end {w w3 : World} {d g cap bx : Nat} {R : Rp} {S : DS} {k : Nat} {o : Obj} (h : At w d R S) (hbx : Blk w bx 24 #[.pointer (some ⟨d, 0, none⟩)])
    (hg : ((w.alloc o).drew).grownBy w3 R.sv.ownBlock) (ho3 : w3.ownsRow 0 3 1 (.slice (some ⟨g, 0, none⟩) (S.S.length + 1) cap) (S.S.length + 1) (S.S.map encN ++ [encN k])) (hat : R.sv.ownBlock = some g ∨ g = w.heap.size + 1) :
    PushQ d bx R w (S.push k) (w3.setCell ⟨d, 5, none⟩ (.slice (some ⟨g, 0, none⟩) (S.S.length + 1) cap)) := by
  obtain ⟨a1, a2, a3, a4, a5, a6⟩ := h.apart
  have hd := h.blk.lt
  have f3 : Fr (fun k => R.sv.ownBlock = some k) w w3 := (((Fr.refl _ w).alloc o).drew).grown hg fun k hk _ => hk
  have hB3 : Blk w3 d 65 (dcells S R) := h.blk.of (f3.block d hd a3)
  have hgd : g ≠ d := own_blk_ne ho3 rfl hB3 (by decide)
  have hbd : bx ≠ d := hbx.ne_ h.blk (by decide)
  obtain ⟨wf, hwf⟩ : ∃ wf, w3.setCell ⟨d, 5, none⟩ (.slice (some ⟨g, 0, none⟩) (S.S.length + 1) cap) = wf := ⟨_, rfl⟩
  rw [hwf]
  have f4 : Fr (One d) w3 wf := by rw [← hwf]; exact Fr.set0 d w3 5 _
  have f5 : Fr (fun k => k = d ∨ R.sv.ownBlock = some k) w wf := (f3.mono fun k _ hk => .inr hk).trans f4 fun k _ hk => .inl hk
  have hsb : R.sv.ownBlock ≠ some bx := fun e => own_blk_ne h.sorted e hbx (by decide) rfl
  refine ⟨Post.rows (sv := .slice (some ⟨g, 0, none⟩) (S.S.length + 1) cap) (kv := R.kv) h (f5.mono fun k _ hk => by
    rcases hk with hk | hk
    · exact .inl hk
    · exact .inr (.inl hk)) ?_ ?_ ?_ ?_ rfl ?_ (fun k hk => .inl hk), hbx.of (f5.block bx hbx.lt (by rintro (e | e); exact hbd e; exact hsb e))⟩
  · rw [← hwf]; exact hB3.set_ 5 _
  · have e1 : (S.push k).S.map encN = S.S.map encN ++ [encN k] := by simp [DS.push]
    have e2 : (S.push k).S.length = S.S.length + 1 := by simp [DS.push]
    rw [e1, e2]
    exact own_of ho3 fun j hj => by
      have : g = j := by simpa [Value.ownBlock] using hj
      subst this
      exact f4.block _ (ho3.lt g rfl).2 hgd
  · exact own_of h.ranks fun j hj => f5.block j (h.lt j (.inr (.inr (.inr (.inr hj))))) (by
      rintro (e | e)
      · exact a4 (e ▸ hj)
      · exact h.ap j e hj)
  · intro j hj hk
    have : g = j := by simpa [Value.ownBlock] using hj
    subst this
    rcases hat with hat | hat
    · exact h.ap _ hat hk
    · have := h.lt _ (.inr (.inr (.inr (.inr hk)))); omega
  · intro j hj
    have : g = j := by simpa [Value.ownBlock] using hj
    subst this
    exact hat.imp id fun e => by omega

/-! ### the sort, beside the dictionary -/
def DS.sort (S : DS) (S' : List Nat) : DS := { S with S := S' }
def SortQ (d bx : Nat) (R : Rp) (S : DS) (w : World) (e : Ending) (w' : World) : Prop := e = .returned (.tuple #[]) ∧ ∃ S', Ord S.L S' ∧ PushQ d bx R w (S.sort S') w'
theorem sort_c (d bx : Nat) (R : Rp) (S : DS) (w : World) (h : At w d R S) (hbx : Blk w bx 24 #[.pointer (some ⟨d, 0, none⟩)]) (hn : S.L.Nodup) (hm : S.L.length ≤ 4096) (hS : S.S.Perm (List.range S.L.length)) :
    Calls Try.prog 37 #[R.sv, .func (.func 38) #[] #[.pointer (some ⟨bx, 0, none⟩)]] w (SortQ d bx R S w) := by
  have hlen : S.S.length = S.L.length := by rw [hS.length_eq]; simp
  by_cases h0 : 0 < S.L.length
  · obtain ⟨gt, c, htv, hgt, hct⟩ := own_cells h.texts h0
    obtain ⟨gs, cap, hsv, _, hgs⟩ := h.sorted.form (by omega)
    obtain ⟨a1, a2, a3, a4, a5, a6⟩ := h.apart
    have hsg : R.sv.ownBlock = some gs := by rw [hsv]; rfl
    have htg : R.tv.ownBlock = some gt := by rw [htv]; rfl
    have hR : Reads w bx d gt S.L.length c S.L := ⟨hbx.cell 0, by rw [← htv]; exact h.cells.1, fun i hi => (hct i hi).1.trans (by rw [txt_get hi]; simp [hi])⟩
    have hrow := h.sorted
    rw [hsv, hlen] at hrow
    have hbs : bx ≠ gs := fun e => own_blk_ne h.sorted hsg hbx (by decide) e.symm
    have hds : d ≠ gs := fun e => a3 (e ▸ hsg)
    have hts : gt ≠ gs := fun e => (a6 gt htg).1 (e ▸ hsg)
    have hcon := sort_any bx d gt c gs cap S.L S.S w hR hbs hds hts hn h0 hm hS hrow
    rw [hsv, hlen]
    refine hcon.mono ?_
    rintro e w' ⟨he, hf, S', hO, hr⟩
    refine ⟨he, S', hO, Post.rows (sv := R.sv) (kv := R.kv) h (hf.mono fun k _ hk => .inr (.inl (by rw [hsg, show k = gs from hk]))) ?_ ?_ ?_ h.ap rfl (fun k hk => .inl hk) (fun k hk => .inl hk), hbx.of (hf.block bx hbx.lt hbs)⟩
    · exact h.blk.of (hf.block d h.blk.lt hds)
    · show w'.ownsRow 0 3 1 R.sv S'.length (S'.map encN)
      rw [hsv, hO.len, hlen]; exact hr
    · exact own_of h.ranks fun j hj => hf.block j (h.lt j (.inr (.inr (.inr (.inr hj))))) (fun e => h.ap gs hsg (by rw [← show j = gs from e]; exact hj))
  · have hL0 : S.L = [] := List.length_eq_zero_iff.1 (by omega)
    have hS0 : S.S = [] := List.length_eq_zero_iff.1 (by omega)
    obtain ⟨A, c, hsv⟩ := own_form h.sorted
    have hO : Ord S.L S.S := ⟨hS, by rw [hS0]; exact List.Pairwise.nil⟩
    rw [hsv, hS0]
    refine (sort_none A c _ w).mono ?_
    rintro e w' ⟨he, rfl⟩
    exact ⟨he, S.S, hO, Post.refl h, hbx⟩

/-! ### the ranks -/
theorem replicate_enc (n : Nat) : (List.replicate n 0).map encN = List.replicate n (.int .i64 0) := by simp [encN]
/-- A row of ranks is made. -/
def DS.blank (S : DS) : DS := { S with K := List.replicate S.S.length 0 }
theorem blank_end {w : World} {d bx : Nat} {R : Rp} {S : DS} (h : At w d R S) (hbx : Blk w bx 24 #[.pointer (some ⟨d, 0, none⟩)]) (hm : S.S.length ≤ 4096) :
    PushQ d bx R w S.blank ((w.setCell ⟨d, 6, none⟩ (.slice (some ⟨w.heap.size, 0, none⟩) S.S.length S.S.length)).alloc (.cells (madeCells #[.int .i64 0] S.S.length) 3)).drew := by
  have hd := h.blk.lt
  rw [show ((w.setCell ⟨d, 6, none⟩ (.slice (some ⟨w.heap.size, 0, none⟩) S.S.length S.S.length)).alloc (.cells (madeCells #[.int .i64 0] S.S.length) 3)).drew = (w.alloc (.cells (madeCells #[.int .i64 0] S.S.length) 3)).drew.setCell ⟨d, 6, none⟩ (.slice (some ⟨w.heap.size, 0, none⟩) S.S.length S.S.length) from by rw [← World.setCell_alloc_past _ _ _ _ hd]; rfl]
  obtain ⟨a1, a2, a3, a4, a5, a6⟩ := h.apart
  have hbd : bx ≠ d := hbx.ne_ h.blk (by decide)
  have hf : Fr (One d) w ((w.alloc (.cells (madeCells #[.int .i64 0] S.S.length) 3)).drew.setCell ⟨d, 6, none⟩ (.slice (some ⟨w.heap.size, 0, none⟩) S.S.length S.S.length)) := (((Fr.refl _ w).alloc _).drew).set1 6 _
  have hms : (madeCells #[.int .i64 0] S.S.length).size = S.S.length := by rw [size_madeCells]
  have hm2 : ((w.alloc (.cells (madeCells #[.int .i64 0] S.S.length) 3)).drew.setCell ⟨d, 6, none⟩ (.slice (some ⟨w.heap.size, 0, none⟩) S.S.length S.S.length)).ownsRow 0 3 1 (.slice (some ⟨w.heap.size, 0, none⟩) S.S.length S.S.length) S.S.length (S.blank.K.map encN) := by
    refine ⟨by simp [DS.blank], .inr ⟨w.heap.size, S.S.length, madeCells #[.int .i64 0] S.S.length, rfl, Nat.zero_le _, ?_, Nat.le_refl _, by unfold maxLen; omega, by omega, ?_⟩⟩
    · rw [Below.heap_setCell _ _ _ _ (show w.heap.size ≠ d by omega)]
      exact heap_alloc_new w _
    · show _ = (List.replicate S.S.length 0).map encN
      rw [replicate_enc, List.take_of_length_le (by rw [Array.length_toList, hms]; omega), toList_madeCells_one]
  refine ⟨Post.rows (sv := R.sv) (kv := .slice (some ⟨w.heap.size, 0, none⟩) S.S.length S.S.length) h (hf.mono fun k _ hk => .inl hk) ?_ ?_ ?_ ?_ rfl (fun k hk => .inl hk) (fun k hk => .inr (by
    have : w.heap.size = k := by simpa [Value.ownBlock] using hk
    omega)), hbx.of (hf.block bx hbx.lt hbd)⟩
  · exact Blk.set_ (w := (w.alloc (.cells (madeCells #[.int .i64 0] S.S.length) 3)).drew) (h.blk.of (Below.heap_alloc w _ d hd)) 6 _
  · exact own_of h.sorted fun j hj => hf.block j (h.lt j (.inr (.inr (.inr (.inl hj))))) (fun e => a3 ((show j = d from e) ▸ hj))
  · have e : S.blank.K.length = S.S.length := by simp [DS.blank]
    rw [e]; exact hm2
  · intro k hk e
    have : w.heap.size = k := by simpa [Value.ownBlock] using e
    subst this
    have := h.lt _ (.inr (.inr (.inr (.inl hk)))); omega
/-- One rank is written. -/
def DS.rank (S : DS) (n k : Nat) : DS := { S with K := S.K.set n k }
theorem rank_end {w : World} {d bx gk c n k : Nat} {R : Rp} {S : DS} (h : At w d R S) (hbx : Blk w bx 24 #[.pointer (some ⟨d, 0, none⟩)]) (hkv : R.kv = .slice (some ⟨gk, 0, none⟩) S.K.length c) :
    At (w.setCell ⟨gk, n, none⟩ (encN k)) d R (S.rank n k) ∧ Fr (foot d R) w (w.setCell ⟨gk, n, none⟩ (encN k)) ∧ Blk (w.setCell ⟨gk, n, none⟩ (encN k)) bx 24 #[.pointer (some ⟨d, 0, none⟩)] := by
  obtain ⟨a1, a2, a3, a4, a5, a6⟩ := h.apart
  have hkg : R.kv.ownBlock = some gk := by rw [hkv]; rfl
  have hbk : bx ≠ gk := fun e => own_blk_ne h.ranks hkg hbx (by decide) e.symm
  have hdk : d ≠ gk := fun e => a4 (e ▸ hkg)
  have hf : Fr (One gk) w (w.setCell ⟨gk, n, none⟩ (encN k)) := Fr.set0 gk w n _
  have hr := h.ranks
  rw [hkv] at hr
  have hs := (hr.stored n (encN k)).1
  refine ⟨At.rows (sv := R.sv) (kv := R.kv) (S' := S.rank n k) h (hf.mono fun k _ hk => .inr (.inr (by rw [hkg, show k = gk from hk]))) ?_ ?_ ?_ h.ap rfl, hf.mono fun k _ hk => .inr (.inr (.inr (.inr (by rw [hkg, show k = gk from hk])))), hbx.of (hf.block bx hbx.lt hbk)⟩
  · exact h.blk.of (hf.block d h.blk.lt hdk)
  · exact own_of h.sorted fun j hj => hf.block j (h.lt j (.inr (.inr (.inr (.inl hj))))) (fun e => h.ap j hj (by rw [show j = gk from e]; exact hkg))
  · rw [hkv]
    have e1 : (S.rank n k).K.length = S.K.length := by simp [DS.rank]
    have e2 : (S.rank n k).K.map encN = (S.K.map encN).set n (encN k) := by simp [DS.rank, List.map_set]
    rw [e1, e2]
    exact hs

/-! ### order -/
/-- The ranks, so far: of the first k sorted numbers. -/
structure Rk (S : DS) (k : Nat) : Prop where
  len : S.K.length = S.S.length
  at_ : ∀ (i n : Nat), i < k → S.S[i]? = some n → S.K[n]? = some i
theorem Rk.blank (S : DS) : Rk S.blank 0 := ⟨by simp [DS.blank], fun i n h => by omega⟩
theorem Rk.next {S : DS} {k n : Nat} (h : Rk S k) (hn : S.S[k]? = some n) (hd : S.S.Nodup) (hl : n < S.K.length) : Rk (S.rank n k) (k + 1) where
  len := by show (S.K.set n k).length = _; simp [h.len]; rfl
  at_ i m hi hm := by
    show (S.K.set n k)[m]? = some i
    have hm : S.S[i]? = some m := hm
    by_cases e : i = k
    · subst e
      have : m = n := Option.some.inj (hm.symm.trans hn)
      subst this
      simp [hl]
    · have hne : n ≠ m := by
        rintro rfl
        obtain ⟨h1, h2⟩ := List.getElem?_eq_some_iff.1 hn
        obtain ⟨h3, h4⟩ := List.getElem?_eq_some_iff.1 hm
        exact e ((List.getElem_inj hd).1 (h4.trans h2.symm))
      rw [List.getElem?_set_ne hne]
      exact h.at_ i m (by omega) hm

/-- What the rounds of the ranks keep. -/
structure RkI (d bx : Nat) (R : Rp) (S3 : DS) (w3 : World) (i : Nat) (S2 : DS) (wr : World) : Prop where
  L : S2.L = S3.L
  S : S2.S = S3.S
  dn : S2.done = S3.done
  mu : S2.mu = S3.mu
  rk : Rk S2 i
  at_ : At wr d R S2
  fr : Fr (foot d R) w3 wr
  box : Blk wr bx 24 #[.pointer (some ⟨d, 0, none⟩)]
theorem RkI.next {d bx : Nat} {R : Rp} {S3 S2 : DS} {w3 wr : World} {i n gk c : Nat} (h : RkI d bx R S3 w3 i S2 wr) (hkv : R.kv = .slice (some ⟨gk, 0, none⟩) S2.K.length c) (hn : S2.S[i]? = some n) (hd : S2.S.Nodup) (hl : n < S2.K.length) :
    RkI d bx R S3 w3 (i + 1) (S2.rank n i) (wr.setCell ⟨gk, n, none⟩ (encN i)) := by
  obtain ⟨a, f, b⟩ := rank_end (n := n) (k := i) h.at_ h.box hkv
  exact ⟨h.L, h.S, h.dn, h.mu, h.rk.next hn hd hl, a, h.fr.trans f fun _ _ h => h, b⟩

def OrdQ (d : Nat) (R : Rp) (S : DS) (w : World) (e : Ending) (w' : World) : Prop :=
  e = .returned (.tuple #[]) ∧ ∃ S' : DS, S'.L = S.L ∧ S'.done = S.done ∧ S'.mu = S.mu ∧ Ord S'.L S'.S ∧ Rks S'.S S'.K ∧ Post d R w S' w'

/-- What the rounds keep: the dictionary, of the same texts, and the captured variable's box. -/
structure Keeps (d bx : Nat) (R : Rp) (S : DS) (w : World) (S1 : DS) (w' : World) : Prop where
  L : S1.L = S.L
  dn : S1.done = S.done
  mu : S1.mu = S.mu
  post : Post d R w S1 w'
  box : Blk w' bx 24 #[.pointer (some ⟨d, 0, none⟩)]
theorem Keeps.step {d bx : Nat} {R : Rp} {S S1 S2 : DS} {w w1 w2 : World} (h : Keeps d bx R S w S1 w1) (k : ∀ R1, At w1 d R1 S1 → PushQ d bx R1 w1 S2 w2) (e1 : S2.L = S1.L) (e2 : S2.done = S1.done) (e3 : S2.mu = S1.mu) : Keeps d bx R S w S2 w2 := by
  obtain ⟨R1, a, f, g⟩ := h.post
  obtain ⟨p, b⟩ := k R1 a
  exact ⟨e1.trans h.L, e2.trans h.dn, e3.trans h.mu, Post.trans f g p, b⟩
theorem perm_push {S : List Nat} {k : Nat} (h : S.Perm (List.range k)) : (S ++ [k]).Perm (List.range (k + 1)) := by
  rw [List.range_succ]; exact h.append_right _

set_option maxRecDepth 100000 in
set_option maxHeartbeats 4000000 in
theorem order_any (d : Nat) (R : Rp) (S : DS) (w : World) (h : At w d R S) (hn : S.L.Nodup) (hm : S.L.length ≤ 4096) (hp : S.S.Perm (List.range S.S.length)) (hsl : S.S.length ≤ S.L.length) :
    Calls Try.prog 27 #[.pointer (some ⟨d, 0, none⟩)] w (OrdQ d R S w) := by
  obtain ⟨w0, hw0⟩ : ∃ w0, w.alloc (.cells #[.pointer (some ⟨d, 0, none⟩)] 24) = w0 := ⟨_, rfl⟩
  obtain ⟨bx, hbx⟩ : ∃ bx, w.heap.size = bx := ⟨_, rfl⟩
  have f0 : Fr No w w0 := by rw [← hw0]; exact (Fr.refl _ w).alloc _
  have h0 := h.keep f0
  have hb0 : Blk w0 bx 24 #[.pointer (some ⟨d, 0, none⟩)] := by rw [← hw0, ← hbx]; exact Blk.new w 24 _
  have K0 : Keeps d bx R S w S w0 := ⟨rfl, rfl, rfl, Post.keep h f0, hb0⟩
  have HK0 := Lib.hid K0
  have HW0 := Lib.hid hw0
  have HBX := Lib.hid hbx
  have HN := Lib.hid hn
  have HP := Lib.hid hp
  have c5 := h0.cells.2.2.2.2.2.1
  obtain ⟨A, c, e5⟩ := own_form h0.sorted
  rw [e5] at c5
  have bb := hb0.cell 0
  simp only [List.getElem?_toArray, List.getElem?_cons_zero] at bb
  obtain ⟨i0, hi0, hz0, hz1, hz2⟩ := info_parts info3
  have hmf : ∀ (fn : Fn) (first cap : Array Value) (w : World), (Instr.makeFunc fn first cap).run Try.prog w = .ok (.func fn first cap) w := fun _ _ _ _ => rfl
  obtain ⟨N, hNN⟩ : ∃ N, S.L.length = N := ⟨_, rfl⟩
  obtain ⟨M, hMM⟩ : ∃ M, S.S.length = M := ⟨_, rfl⟩
  rw [hNN] at hm hsl
  rw [hMM] at hsl c5
  have HNN := Lib.hid hNN
  have HMM := Lib.hid hMM
  clear h f0 h0 hb0 K0 hw0 hbx hn hp e5 hNN hMM
  go_enter Try.func27, Try.ntmps27
  go_upto_region 1 with fail
  rw [HW0.out, HBX.out]
  go_wp2
  go_loopw [2] (fun nv wr => ∃ (k : Nat) (S1 : DS), nv = .int .i64 k ∧ k ≤ N ∧ S1.S.length = k ∧ Hid (S1.S.Perm (List.range k)) ∧ Hid (Keeps d bx R S w S1 wr)) (fun nv _ => N - (intOf nv).toNat)
  case atStart => exact ⟨M, S, rfl, hsl, HMM.out, Lib.hid (HMM.out ▸ HP.out), HK0⟩
  case round =>
    obtain ⟨k, S1, rfl, hk, hlen, HPM, HK⟩ := hrel
    obtain ⟨R1, h1, hf1, hg1⟩ := HK.out.post
    have HF1 := Lib.hid hf1
    have HG1 := Lib.hid hg1
    have hb1 := HK.out.box
    have c0 := h1.cells.1
    obtain ⟨A0, q0, e0⟩ := own_form h1.texts
    rw [e0, HK.out.L, HNN.out] at c0
    have c5' := h1.cells.2.2.2.2.2.1
    obtain ⟨A5, q5, e5⟩ := own_form h1.sorted
    rw [e5, hlen] at c5'
    have bb' := hb1.cell 0
    simp only [List.getElem?_toArray, List.getElem?_cons_zero] at bb'
    have hdl := h1.blk.lt
    have hbl := hb1.lt
    have z5 := h1.blk.frozen 5
    have H1 := Lib.hid h1
    have HB1 := Lib.hid hb1
    have HE5 := Lib.hid e5
    clear h1 hb1 hf1 hg1 e0 e5 bb c5
    by_cases hlt : k < N
    · have hrow : wr.ownsRow 0 3 1 (.slice A5 k q5) k (S1.S.map encN) := by
        have := H1.out.sorted
        rw [HE5.out, hlen] at this; exact this
      have HROW := Lib.hid hrow
      have HLEN := Lib.hid hlen
      have hq : ∀ (o : Obj) (w3 : World), ((wr.alloc o).drew).grownBy w3 (Value.ownBlock (.slice A5 k q5)) → w3.cell? ⟨bx, 0, none⟩ = some (.pointer (some ⟨d, 0, none⟩)) ∧ w3.cell? ⟨d, 5, none⟩ = some (.slice A5 k q5) ∧ w3.frozen? ⟨d, 5, none⟩ = false := by
        intro o w3 hg
        have e : (Value.slice A5 k q5).ownBlock = R1.sv.ownBlock := by rw [HE5.out]; cases A5 <;> rfl
        have hdb : Blk w3 d 65 (dcells S1 R1) := H1.out.blk.of ((hg.block d (by simp; omega) (fun e' => H1.out.apart.2.2.1 (e ▸ e'.symm))).trans (Below.heap_alloc wr o d hdl))
        have hbb : Blk w3 bx 24 #[.pointer (some ⟨d, 0, none⟩)] := HB1.out.of ((hg.block bx (by simp; omega) (fun e' => own_blk_ne H1.out.sorted (e ▸ e'.symm) HB1.out (by decide) rfl)).trans (Below.heap_alloc wr o bx hbl))
        have c5 : w3.cell? ⟨d, 5, none⟩ = some R1.sv := hdb.cell 5
        rw [HE5.out, HLEN.out] at c5
        exact ⟨hbb.cell 0, c5, hdb.frozen 5⟩
      have hend : ∀ (o : Obj) (w3 : World) (g cap : Nat), ((wr.alloc o).drew).grownBy w3 (Value.ownBlock (.slice A5 k q5)) → w3.ownsRow 0 3 1 (.slice (some ⟨g, 0, none⟩) (k + 1) cap) (k + 1) (S1.S.map encN ++ [.int .i64 k]) → ((Value.slice A5 k q5).ownBlock = some g ∨ g = wr.heap.size + 1) →
          Keeps d bx R S w (S1.push k) (w3.setCell ⟨d, 5, none⟩ (.slice (some ⟨g, 0, none⟩) (k + 1) cap)) := by
        intro o w3 g cap hg ho hat
        have e : (Value.slice A5 k q5).ownBlock = R1.sv.ownBlock := by rw [HE5.out]; cases A5 <;> rfl
        rw [e] at hg hat
        have hl := HLEN.out
        have hpe := push_end (k := k) (cap := cap) H1.out HB1.out hg (by rw [hl]; exact ho) hat
        rw [hl] at hpe
        exact ⟨HK.out.L, HK.out.dn, HK.out.mu, Post.trans HF1.out HG1.out hpe.1, hpe.2⟩
      have HQ := Lib.hid hq
      have HEND := Lib.hid hend
      clear hq hend hrow hlen
      go_upto_region 4 with fail
      go_region_law (first | (refine step_append_lies _ (by rfl) _ _ _ (by rfl) 0 3 i0 _ 1 8 Try.underlying35 hi0 hz0 hz1 hz2 rfl (by omega) (.slice A5 k q5) _ _ (by rfl) ((HROW.out.alloc _).drew) ⟨wr.heap.size, 0, none⟩ 1 1 [.int .i64 k] (by rfl) (by rfl) (World.news_of_block (cs := #[.int .i64 k]) (t := 3) (fr := (0, 0)) (heap_alloc_new wr _)) (by simp [Value.oneCell']) (by omega) (by unfold maxLen; omega) (by omega) (by simp) (wr.heap.size + 1) (by simp) ?_; intro g cap w3 hown3 hgrow hat hlt3; have b3 := (HQ.out _ _ hgrow).1; have d3 := (HQ.out _ _ hgrow).2.1; have z3 := (HQ.out _ _ hgrow).2.2; have HE := Lib.hid (HEND.out _ _ g cap hgrow hown3 hat); clear hgrow hown3 hat))
      all_goals (
        go_wp2
        go_roundw
        case rel => exact ⟨k + 1, S1.push k, by go_num, by omega, by show (S1.S ++ [k]).length = k + 1; simp [HLEN.out], Lib.hid (perm_push HPM.out), Lib.hid HE.out⟩
        case measure => simp [intOf]; omega)
    · obtain rfl : k = N := by omega
      have hsc := sort_c d bx R1 S1 wr H1.out HB1.out (by rw [HK.out.L]; exact HN.out) (by rw [HK.out.L, HNN.out]; exact hm) (by rw [HK.out.L, HNN.out]; exact HPM.out)
      rw [HE5.out, hlen] at hsc
      have HSC := Lib.hid hsc
      have HLEN := Lib.hid hlen
      clear hsc hlen
      go_wp2_with fail
      refine HSC.out.mono ?_
      rintro e w2 ⟨rfl, S', hO, hpq⟩
      have K2 : Keeps d bx R S w (S1.sort S') w2 := ⟨HK.out.L, HK.out.dn, HK.out.mu, Post.trans HF1.out HG1.out hpq.1, hpq.2⟩
      have HO := Lib.hid hO
      have HK2 := Lib.hid K2
      obtain ⟨R2, h2, hf2, hg2⟩ := K2.post
      have hb2 := K2.box
      have hl2 : (S1.sort S').S.length = k := by show S'.length = k; rw [hO.len, HK.out.L, HNN.out]
      have c5 := h2.cells.2.2.2.2.2.1
      obtain ⟨B5, r5, e5⟩ := own_form h2.sorted
      rw [e5, hl2] at c5
      have bb := hb2.cell 0
      simp only [List.getElem?_toArray, List.getElem?_cons_zero] at bb
      have z6 := h2.blk.frozen 6
      have c6 := h2.cells.2.2.2.2.2.2
      have hd2 := h2.blk.lt
      have hbx2 := hb2.lt
      have hbl := blank_end h2 hb2 (by rw [hl2]; exact hm)
      rw [hl2] at hbl
      have K3 : Keeps d bx R S w (S1.sort S').blank _ := ⟨K2.L, K2.dn, K2.mu, Post.trans hf2 hg2 hbl.1, hbl.2⟩
      have HK3 := Lib.hid K3
      have H2 := Lib.hid h2
      have HL2 := Lib.hid hl2
      have hmk := run_make_row' (P := Try.prog) 35 3 (.int .i64 0) 8 Try.underlying35 info3 rfl .i64 .i64 k (by omega) (by omega)
      clear HSC hO hpq K2 h2 hf2 hg2 hb2 hl2 e5 hbl K3 c5' bb' c0 z5
      obtain ⟨w3, hw3⟩ : ∃ w3, ((w2.setCell ⟨d, 6, none⟩ (.slice (some ⟨w2.heap.size, 0, none⟩) k k)).alloc (.cells (madeCells #[.int .i64 0] k) 3)).drew = w3 := ⟨_, rfl⟩
      have HW3 := Lib.hid hw3
      go_wp2
      go_region
      go_upto_region 7 with fail
      have K3 := HK3.out
      rw [hw3] at K3
      clear hw3 HW3 HK3 hmk c5 bb z6 c6 hd2 hbx2
      have HK3 := Lib.hid K3
      obtain ⟨R3, h3, hf3, hg3⟩ := K3.post
      have hb3 := K3.box
      have hK3 : (S1.sort S').blank.K.length = k := by show (List.replicate (S1.sort S').S.length 0).length = k; rw [List.length_replicate, HL2.out]
      have hS3 : (S1.sort S').blank.S.length = k := HL2.out
      have c5 := h3.cells.2.2.2.2.2.1
      obtain ⟨B5, r5, e5⟩ := own_form h3.sorted
      rw [e5, hS3] at c5
      have HE5 := Lib.hid e5
      have bb := hb3.cell 0
      simp only [List.getElem?_toArray, List.getElem?_cons_zero] at bb
      have hI : RkI d bx R3 (S1.sort S').blank w3 0 (S1.sort S').blank w3 := ⟨rfl, rfl, rfl, rfl, Rk.blank _, h3, Fr.refl _ _, hb3⟩
      have HI := Lib.hid hI
      have HF3 := Lib.hid hf3
      have HG3 := Lib.hid hg3
      obtain ⟨T, hT⟩ : ∃ T, (S1.sort S').blank = T := ⟨_, rfl⟩
      have hTS : T.S = S' := by rw [← hT]; rfl
      rw [hT] at hK3 hS3 HI HE5 HK3
      have HTK := Lib.hid hK3
      have HTS := Lib.hid hTS
      have HTL := Lib.hid hS3
      have HTN : Hid (T.L = S.L) := Lib.hid HK3.out.L
      have hOT : Ord T.L T.S := by rw [hTS, HTN.out]; have := HO.out; rw [HK.out.L] at this; exact this
      have HOT := Lib.hid hOT
      clear K3 h3 hf3 hg3 hb3 hK3 hS3 e5 hI hT hTS hOT
      go_wp2
      go_loopw [49] (fun iv wr => ∃ (i : Nat) (S2 : DS), iv = .int .i64 i ∧ i ≤ k ∧ Hid (RkI d bx R3 T w3 i S2 wr)) (fun iv _ => k - (intOf iv).toNat)
      case atStart => exact ⟨0, T, rfl, Nat.zero_le _, HI⟩
      case round =>
        obtain ⟨i, S2, rfl, hi, HR2⟩ := hrel
        have e2K : S2.K.length = k := by rw [HR2.out.rk.len, HR2.out.S, HTL.out]
        by_cases hlt2 : i < k
        · have hiT : i < T.S.length := by rw [HTL.out]; exact hlt2
          obtain ⟨n, hnn⟩ : ∃ n, T.S[i]? = some n := ⟨_, List.getElem?_eq_getElem hiT⟩
          have hnk : n < k := by
            have := HOT.out.lt (List.mem_of_getElem? hnn)
            rw [HTN.out, HNN.out] at this; exact this
          have hrs := HR2.out.at_.sorted
          rw [HR2.out.S, HE5.out, HTL.out] at hrs
          obtain ⟨gs, cs, es, _, hcs⟩ := own_cells hrs (by omega)
          obtain ⟨rfl, rfl⟩ : B5 = some ⟨gs, 0, none⟩ ∧ r5 = cs := by
            injection es with a _ b; exact ⟨a, b⟩
          have cn : wr.cell? ⟨gs, i, none⟩ = some (.int .i64 n) := (hcs i hlt2).1.trans (by rw [List.getElem?_map, hnn]; rfl)
          have hrk := HR2.out.at_.ranks
          rw [e2K] at hrk
          obtain ⟨gk, ck, ek, _, hck⟩ := own_cells hrk (by omega)
          have c6 := HR2.out.at_.cells.2.2.2.2.2.2
          rw [ek] at c6
          have bb' := HR2.out.box.cell 0
          simp only [List.getElem?_toArray, List.getElem?_cons_zero] at bb'
          obtain ⟨vv, hvv⟩ : ∃ vv, wr.cell? ⟨gk, n, none⟩ = some vv := ⟨_, (hck n hnk).1.trans (List.getElem?_eq_getElem (by rw [List.length_map, e2K]; exact hnk))⟩
          have zk := (hck n hnk).2
          have HN2 := Lib.hid (HR2.out.next (n := n) (gk := gk) (c := ck) (by rw [e2K]; exact ek) (by rw [HR2.out.S]; exact hnn) (by rw [HR2.out.S]; exact HOT.out.nodup) (by rw [e2K]; exact hnk))
          clear hrs es hcs hrk ek hck hnn hiT e2K c5 bb
          go_wp2
          go_roundw
          case rel => exact ⟨i + 1, _, by go_num, by omega, Lib.hid HN2.out⟩
          case measure => simp [intOf]; omega
        · obtain rfl : i = k := by omega
          have hR := HR2.out
          have hfin : OrdQ d R S w (.returned (.tuple #[])) wr := by
            refine ⟨rfl, S2, hR.L.trans HTN.out, hR.dn.trans HK3.out.dn, hR.mu.trans HK3.out.mu, by rw [hR.L, hR.S]; exact HOT.out, ⟨hR.rk.len, fun j n hj => ?_⟩, Post.trans HF3.out HG3.out ⟨R3, hR.at_, hR.fr, fun k hk => .inl hk⟩⟩
            refine hR.rk.at_ j n ?_ hj
            have := (List.getElem?_eq_some_iff.1 hj).1
            rw [hR.S, HTL.out] at this; exact this
          have HFIN := Lib.hid hfin
          clear hR hfin e2K c5 bb
          go_wp2
          go_end0
          exact HFIN.out
end Go.Proofs.Ytlglfcadoofmpaa
