/- One text more: add, Put. -/
import Derived.Test.YtmaeejojmbibnaaDA3
import Derived.Deep.RegionLaw
import Derived.Lib.QuietBelow
import Derived.Deep.Cut
import Derived.Deep.CutBlock
import Derived.Deep.DeepCutAuto
import Derived.StillTailTactics
namespace Go.Proofs.Ytmaeejojmbibnaa
open Go.RowKit Go.Maps
set_option linter.unusedVariables false

theorem mapTurned_one {w w' : World} {b : Nat} (h : w.mapTurned w' b) : Fr (One b) w w' :=
  (Fr.refl _ w).grown h.grown fun k hk _ => by cases hk; rfl
theorem owns_le {w : World} {b n : Nat} {D : DU} {P : Program} {k : TypeId} {R : Value → Option (DU × List MemPlace)} (h : w.ownsMap P k R b n D) : Maps.size D ≤ n ∧ w.ownsMap P k R b (Maps.size D) D := by
  refine ⟨?_, owns_tight h⟩
  obtain ⟨es, clock, hb, F, hs, rfl⟩ := h
  rw [Maps.size_eq, length_sorted]; simpa using hs

/-- A map is made where there was none. -/
theorem At.mapped {w : World} {d : Nat} {R : Rp} {S : DS} (h : At w d R S) (hn : R.nm = none) : At ((w.alloc (.map #[] 0)).setCell ⟨d, 1, none⟩ (.map (some w.heap.size))) d { R with nm := some w.heap.size } S := by
  have hd := h.blk.lt
  have hne : w.heap.size ≠ d := by omega
  have hf : Fr (One d) w ((w.alloc (.map #[] 0)).setCell ⟨d, 1, none⟩ (.map (some w.heap.size))) := ((Fr.refl _ w).alloc _).set1 1 _
  obtain ⟨_, a2, a3, a4, _, _⟩ := h.apart
  have hk : ∀ k, foot d R k → k ≠ d → ((w.alloc (.map #[] 0)).setCell ⟨d, 1, none⟩ (.map (some w.heap.size))).heap[k]? = w.heap[k]? := fun k hk hn => hf.block k (h.lt k hk) hn
  have hD : R.D = .map [] := by have := h.names; rw [hn] at this; exact this
  exact {
    blk := Blk.set_ (w := w.alloc (.map #[] 0)) (h.blk.of (Below.heap_alloc w _ d hd)) 1 _
    texts := own_of h.texts fun b hb => hk _ (.inr (.inr (.inl hb))) (fun e => a2 (e ▸ hb))
    names := by
      show World.ownsMap _ _ _ _ w.heap.size (Maps.size R.D) R.D
      rw [hD]
      exact (World.ownsMap_made (H := Unit) w Try.prog 9 (plainElem Try.prog 3)).setCell (a := ⟨d, 1, none⟩) hne _
    lk := h.lk
    sz := h.sz
    sorted := own_of h.sorted fun b hb => hk _ (.inr (.inr (.inr (.inl hb)))) (fun e => a3 (e ▸ hb))
    ranks := own_of h.ranks fun b hb => hk _ (.inr (.inr (.inr (.inr hb)))) (fun e => a4 (e ▸ hb))
    ap := h.ap }
theorem Post.mapped {w w' : World} {d : Nat} {R : Rp} {S S' : DS} (h : At w d R S) (hn : R.nm = none) (k : Post d { R with nm := some w.heap.size } ((w.alloc (.map #[] 0)).setCell ⟨d, 1, none⟩ (.map (some w.heap.size))) S' w') : Post d R w S' w' := by
  obtain ⟨R', a, f, g⟩ := k
  have hf : Fr (One d) w ((w.alloc (.map #[] 0)).setCell ⟨d, 1, none⟩ (.map (some w.heap.size))) := ((Fr.refl _ w).alloc _).set1 1 _
  have hf2 : Fr (foot d R) w ((w.alloc (.map #[] 0)).setCell ⟨d, 1, none⟩ (.map (some w.heap.size))) := hf.mono fun k _ hk => .inl hk
  refine ⟨R', a, hf2.trans f (fun j hj hk => ?_), fun j hj => ?_⟩
  · rcases hk with hk | hk | hk
    · exact .inl hk
    · have : w.heap.size = j := Option.some.inj hk
      omega
    · exact .inr (.inr hk)
  · rcases g j hj with hk | hk
    · rcases hk with hk | hk | hk
      · exact .inl (.inl hk)
      · have : w.heap.size = j := Option.some.inj hk
        exact .inr (by omega)
      · exact .inl (.inr (.inr hk))
    · exact .inr (by have := hf.size; omega)
theorem Post.pre {w w1 w' : World} {d : Nat} {R : Rp} {S' : DS} (hf : Fr No w w1) (k : Post d R w1 S' w') : Post d R w S' w' := by
  obtain ⟨R', a, f, g⟩ := k
  exact ⟨R', a, hf.any.trans f (fun _ _ h => h), fun j hj => (g j hj).imp id fun h => by have := hf.size; omega⟩

theorem add_end {w w2 w3 : World} {d b g cap : Nat} {R : Rp} {S : DS} {t : Tx} {o : Obj} (h : At w d R S) (hb : R.nm = some b) (ht : t ∉ S.L) (hturn : w.mapTurned w2 b)
    (ho : w2.ownsMap Try.prog 9 (plainElem Try.prog 3) b (S.L.length + 1) (R.D.put (.string t) (.lit (.int .i64 S.L.length))))
    (hg : (w2.alloc o).grownBy w3 R.tv.ownBlock) (ho3 : w3.ownsRow 0 9 1 (.slice (some ⟨g, 0, none⟩) (S.L.length + 1) cap) (S.L.length + 1) (S.L.map encT ++ [encT t])) (hat : R.tv.ownBlock = some g ∨ g = w2.heap.size + 1) :
    Post d R w (S.add t) ((((w3.setCell ⟨d, 0, none⟩ (.slice (some ⟨g, 0, none⟩) (S.L.length + 1) cap)).setCell ⟨d, 2, none⟩ (.int .u32 0)).setCell ⟨d, 3, none⟩ (.int .i32 0)).setCell ⟨d, 4, none⟩ (.int .u32 0)) := by
  obtain ⟨a1, a2, a3, a4, a5, a6⟩ := h.apart
  have hbn := a5 b hb
  have f2 := mapTurned_one hturn
  have f3 : Fr (fun k => k = b ∨ R.tv.ownBlock = some k) w w3 := ((f2.mono (G := fun k => k = b ∨ R.tv.ownBlock = some k) fun k _ hk => .inl hk).alloc o).grown hg fun k hk _ => .inr hk
  have hd := h.blk.lt
  have hdb : d ≠ b := fun e => a1 (e ▸ hb)
  have hB3 : Blk w3 d 101 (dcells S R) := h.blk.of (f3.block d hd (by rintro (e | e); exact hdb e; exact a2 e))
  have hgd : g ≠ d := own_blk_ne ho3 rfl hB3 (by decide)
  obtain ⟨wf, hwf⟩ : ∃ wf, (((w3.setCell ⟨d, 0, none⟩ (.slice (some ⟨g, 0, none⟩) (S.L.length + 1) cap)).setCell ⟨d, 2, none⟩ (.int .u32 0)).setCell ⟨d, 3, none⟩ (.int .i32 0)).setCell ⟨d, 4, none⟩ (.int .u32 0) = wf := ⟨_, rfl⟩
  rw [hwf]
  have f4 : Fr (One d) w3 wf := by rw [← hwf]; exact (((Fr.set0 d w3 0 _).set1 2 _).set1 3 _).set1 4 _
  have hBf : Blk wf d 101 (dcells (S.add t) { R with tv := .slice (some ⟨g, 0, none⟩) (S.L.length + 1) cap }) := by
    rw [← hwf]; exact (((hB3.set_ 0 _).set_ 2 _).set_ 3 _).set_ 4 _
  have f5 : Fr (fun k => k = d ∨ k = b ∨ R.tv.ownBlock = some k) w wf := (f3.mono fun k _ hk => .inr hk).trans f4 fun k _ hk => .inl hk
  have hk : ∀ k, foot d R k → k ≠ d → k ≠ b → R.tv.ownBlock ≠ some k → wf.heap[k]? = w.heap[k]? := fun k hk h1 h2 h3 => f5.block k (h.lt k hk) (by rintro (e | e | e); exact h1 e; exact h2 e; exact h3 e)
  have hbl : b < w2.heap.size := Nat.lt_of_lt_of_le (h.lt b (.inr (.inl hb))) f2.size
  have hob : wf.heap[b]? = w2.heap[b]? := (f4.block b (by have := hg.size; simp at this; omega) (fun e => hdb e.symm)).trans ((hg.block b (by simp; omega) (fun e => hbn.1 e.symm)).trans (Below.heap_alloc w2 o b hbl))
  refine ⟨{ R with tv := .slice (some ⟨g, 0, none⟩) (S.L.length + 1) cap, D := R.D.put (.string t) (.lit (.int .i64 S.L.length)) }, {
    blk := hBf
    texts := ?_
    names := ?_
    lk := fun s => ?_
    sz := ?_
    sorted := own_of h.sorted fun k hb' => hk _ (.inr (.inr (.inr (.inl hb')))) (fun e => a3 (e ▸ hb')) (fun e => hbn.2.1 (e ▸ hb')) (fun e => (a6 _ e).1 hb')
    ranks := own_of h.ranks fun k hb' => hk _ (.inr (.inr (.inr (.inr hb')))) (fun e => a4 (e ▸ hb')) (fun e => hbn.2.2 (e ▸ hb')) (fun e => (a6 _ e).2 hb')
    ap := h.ap }, f5.mono fun k _ hk => ?_, fun k hk => ?_⟩
  · have e : (S.add t).L.map encT = S.L.map encT ++ [encT t] := by simp [DS.add]
    have e2 : (S.add t).L.length = S.L.length + 1 := by simp [DS.add]
    rw [e, e2]
    exact own_of ho3 fun k hk => by
      have : g = k := by simpa [Value.ownBlock] using hk
      subst this
      refine f4.block _ ?_ (fun e => hgd e)
      have := (ho3.lt g rfl).2
      exact this
  · show MapAt wf Try.prog 9 (plainElem Try.prog 3) R.nm _
    rw [hb]
    exact owns_of (owns_le ho).2 hob
  · show look (R.D.put _ _) s = numI (S.L ++ [t]) s
    unfold numI
    rw [num_add ht]
    by_cases e : s = t
    · subst e
      rw [look_put_same (h.names.isMap), if_pos rfl]; rfl
    · rw [look_put_other e, if_neg e, h.lk]; rfl
  · have := (owns_le ho).1
    show Maps.size _ ≤ (S.L ++ [t]).length
    simpa using this
  · rcases hk with hk | hk | hk
    · exact .inl hk
    · exact .inr (.inl (hk ▸ hb))
    · exact .inr (.inr (.inl hk))
  · rcases hk with hk | hk | hk | hk
    · exact .inl (.inl hk)
    · exact .inl (.inr (.inl hk))
    · have e : g = k := by simpa [Value.ownBlock] using hk
      subst e
      rcases hat with hat | hat
      · exact .inl (.inr (.inr (.inl hat)))
      · exact .inr (by have := f2.size; omega)
    · exact .inl (.inr (.inr (.inr hk)))

theorem wf64 {n : Int} (h0 : -9223372036854775808 ≤ n) (h1 : n ≤ 9223372036854775807) : (Lit.int .i64 n).wf = true := WalkArith.wf_i64 ⟨h0, h1⟩

def AddP (d : Nat) (R : Rp) (S : DS) (t : Tx) (w : World) (e : Ending) (w' : World) : Prop := e = .returned (.int .i64 (S.L.length : Nat)) ∧ Post d R w (S.add t) w'

set_option maxRecDepth 100000 in
set_option maxHeartbeats 1600000 in
theorem add_some (d b : Nat) (R : Rp) (S : DS) (w : World) (h : At w d R S) (hb : R.nm = some b) (t : Tx) (hl : t.length ≤ 64) (ht : t ∉ S.L) (hn : S.L.length < 4096) :
    Calls Try.prog 56 #[.pointer (some ⟨d, 0, none⟩), encT t] w (AddP d R S t w) := by
  have HC := Lib.hid (sclone_any t w (by omega))
  have q51 : ∀ (w : World) (r : Option Nat), (binOp .eql 87 (.map r) (.map none)).run Try.prog w = .ok (.bool r.isNone) w := fun w r => run_eql_map_nil w _ _ _ r Try.underlying87
  have hkey := key9 t (by unfold maxLen; omega)
  have hval : plainElem (H := Unit) Try.prog 3 (.int .i64 (S.L.length : Nat)) = some (.lit (.int .i64 (S.L.length : Nat)), []) := plainElem_int Try.underlying3 (wf64 (by omega) (by omega))
  have HK := Lib.hid hkey
  have HV := Lib.hid hval
  obtain ⟨i0, hi0, hz0, hz1, hz2⟩ := info_parts info9
  have hend : ∀ (w1 w2 w3 : World) (o : Obj) (g cap : Nat), At w1 d R S → w1.mapTurned w2 b → w2.ownsMap Try.prog 9 (plainElem Try.prog 3) b (S.L.length + 1) (R.D.put (.string t) (.lit (.int .i64 S.L.length))) → (w2.alloc o).grownBy w3 R.tv.ownBlock →
      w3.ownsRow 0 9 1 (.slice (some ⟨g, 0, none⟩) (S.L.length + 1) cap) (S.L.length + 1) (S.L.map encT ++ [encT t]) → (R.tv.ownBlock = some g ∨ g = w2.heap.size + 1) → Post d R w1 (S.add t) _ := fun w1 w2 w3 o g cap h1 h2 h3 h4 h5 h6 => add_end h1 hb ht h2 h3 h4 h5 h6
  have HE := Lib.hid hend
  have HH := Lib.hid h
  have HB := Lib.hid hb
  obtain ⟨A, c, htv⟩ := own_form h.texts
  have HTV := Lib.hid htv
  clear h hb ht hkey hval hend htv
  unfold encT
  go_enter Try.func56, Try.ntmps56
  go_wp2_with fail
  refine HC.out.mono ?_
  rintro e w1 ⟨rfl, hbl⟩
  have HBL := Lib.hid (Fr.of_below hbl)
  have h1 := HH.out.keep HBL.out
  have c0 := h1.cells.1
  rw [HTV.out] at c0
  have c1 := h1.cells.2.1
  rw [HB.out] at c1
  have hown : w1.ownsMap Try.prog 9 (plainElem Try.prog 3) b S.L.length R.D := by
    have q := h1.names
    rw [HB.out] at q
    obtain ⟨es, clock, h2, F, h3, h4⟩ := (q : w1.ownsMap Try.prog 9 (plainElem Try.prog 3) b _ R.D)
    exact ⟨es, clock, h2, F, Nat.le_trans h3 h1.sz, h4⟩
  have HO := Lib.hid hown
  have H1 := Lib.hid h1
  clear hbl h1 hown
  go_wp2_with (first
    | (at_mapUpdate; refine wpList_mapUpdate_in _ rfl _ _ _ 87 rfl 9 3 law9 Try.underlying87 _ b _ _ rfl HO.out (by unfold maxLen; omega) _ _ _ rfl rfl HK.out _ _ HV.out ?_; intro w2 hown2 hturn2; have f2 := mapTurned_one hturn2; have a := H1.out.apart; have hbd : d ≠ b := fun e => a.1 (e ▸ HB.out); have hB2 : Blk w2 d 101 (dcells S R) := H1.out.blk.of (f2.block d H1.out.blk.lt hbd); have c0' : w2.cell? ⟨d, 0, none⟩ = some R.tv := hB2.cell 0; rw [HTV.out] at c0'; have hrow2 : w2.ownsRow 0 9 1 R.tv S.L.length (S.L.map encT) := own_of H1.out.texts fun k hk => f2.block k (H1.out.lt k (.inr (.inr (.inl hk)))) (fun e => (a.2.2.2.2.1 b HB.out).1 (e ▸ hk)); rw [HTV.out] at hrow2; have HROW := Lib.hid hrow2; have HB2 := Lib.hid hB2; have HT2 := Lib.hid hturn2; have HO2 := Lib.hid hown2; clear hturn2 hown2 hrow2 hB2 f2 a hbd c0 c1; have hq : ∀ (o : Obj) (w3 : World), (w2.alloc o).grownBy w3 R.tv.ownBlock → Blk w3 d 101 (dcells S R) := (fun o w3 hg => HB2.out.of ((hg.block d (by have := HB2.out.lt; simp; omega) (fun e => H1.out.apart.2.1 e.symm)).trans (Below.heap_alloc w2 o d HB2.out.lt))); have HQ := Lib.hid hq; clear hq)
    | (at_builtin; refine wpList_append_lies _ (by rfl) _ _ 48 (by rfl) 0 9 i0 _ 1 16 Try.underlying48 hi0 hz0 hz1 hz2 rfl (by omega) (.slice A S.L.length c) _ _ (by rfl) (HROW.out.alloc _) ⟨w2.heap.size, 0, none⟩ 1 1 [.string ⟨t.toArray⟩] (by rfl) (by rfl) (World.news_of_block (cs := #[.string ⟨t.toArray⟩]) (t := 9) (fr := (0, 0)) (heap_alloc_new w2 _)) (by simp [Value.oneCell']) (by omega) (by unfold maxLen; omega) (by omega) (by simp) (w2.heap.size + 1) (by simp) ?_; intro g cap w3 hown3 hgrow hat hlt; rw [← HTV.out] at hgrow hat; have hB3 := HQ.out _ _ hgrow; have z0 := hB3.frozen 0; have c0'' : w3.cell? ⟨d, 0, none⟩ = some R.tv := hB3.cell 0; have c2 : w3.cell? ⟨d, 2, none⟩ = some (.int .u32 (oneN S.done)) := hB3.cell 2; have c3 : w3.cell? ⟨d, 3, none⟩ = some (.int .i32 S.mu) := hB3.cell 3; have c4 : w3.cell? ⟨d, 4, none⟩ = some (.int .u32 0) := hB3.cell 4; have z2 := hB3.frozen 2; have z3 := hB3.frozen 3; have z4 := hB3.frozen 4; have HF := Lib.hid (Post.pre HBL.out (HE.out w1 w2 w3 _ g cap H1.out HT2.out HO2.out hgrow hown3 hat)); clear hgrow hown3 hat hB3))
  go_ret
  exact ⟨rfl, HF.out⟩
set_option maxRecDepth 100000 in
set_option maxHeartbeats 1600000 in
theorem add_none (d : Nat) (R : Rp) (S : DS) (w : World) (h : At w d R S) (hb : R.nm = none) (t : Tx) (hl : t.length ≤ 64) (ht : t ∉ S.L) (hn : S.L.length < 4096) :
    Calls Try.prog 56 #[.pointer (some ⟨d, 0, none⟩), encT t] w (AddP d R S t w) := by
  have HC := Lib.hid (sclone_any t w (by omega))
  have q51 : ∀ (w : World) (r : Option Nat), (binOp .eql 87 (.map r) (.map none)).run Try.prog w = .ok (.bool r.isNone) w := fun w r => run_eql_map_nil w _ _ _ r Try.underlying87
  have hkey := key9 t (by unfold maxLen; omega)
  have hval : plainElem (H := Unit) Try.prog 3 (.int .i64 (S.L.length : Nat)) = some (.lit (.int .i64 (S.L.length : Nat)), []) := plainElem_int Try.underlying3 (wf64 (by omega) (by omega))
  have HK := Lib.hid hkey
  have HV := Lib.hid hval
  obtain ⟨i0, hi0, hz0, hz1, hz2⟩ := info_parts info9
  have HH := Lib.hid h
  have HN := Lib.hid hb
  have HNT := Lib.hid ht
  have hmk := @run_makeMap Try.prog
  clear h hb ht hkey hval
  unfold encT
  go_enter Try.func56, Try.ntmps56
  go_wp2_with fail
  refine HC.out.mono ?_
  rintro e w1 ⟨rfl, hbl⟩
  have HBL0 := Lib.hid (Fr.of_below hbl)
  have h0 := HH.out.keep HBL0.out
  have c1 := h0.cells.2.1
  rw [HN.out] at c1
  have hdl := h0.blk.lt
  have hB1 : Blk (w1.alloc (.map #[] 0)) d 101 (dcells S R) := h0.blk.of (Below.heap_alloc w1 _ d hdl)
  have z1 := hB1.frozen 1
  have c1' : (w1.alloc (.map #[] 0)).cell? ⟨d, 1, none⟩ = some (.map R.nm) := hB1.cell 1
  rw [HN.out] at c1'
  clear hB1
  obtain ⟨wA, hwA⟩ : ∃ wA, (w1.alloc (.map #[] 0)).setCell ⟨d, 1, none⟩ (.map (some w1.heap.size)) = wA := ⟨_, rfl⟩
  obtain ⟨b, hbe⟩ : ∃ b, w1.heap.size = b := ⟨_, rfl⟩
  obtain ⟨R1, hR1⟩ : ∃ R1 : Rp, { R with nm := some b } = R1 := ⟨_, rfl⟩
  have h1 : At wA d R1 S := by rw [← hwA, ← hR1, ← hbe]; exact h0.mapped HN.out
  have HB : Hid (R1.nm = some b) := Lib.hid (by rw [← hR1])
  have HPOST : Hid (∀ S' w', Post d R1 wA S' w' → Post d R w S' w') := Lib.hid fun S' w' k => Post.pre HBL0.out (Post.mapped h0 HN.out (by rw [hbe, hR1]; rw [hbe] at hwA; rw [hwA]; exact k))
  have hend : ∀ (w1 w2 w3 : World) (o : Obj) (g cap : Nat), At w1 d R1 S → w1.mapTurned w2 b → w2.ownsMap Try.prog 9 (plainElem Try.prog 3) b (S.L.length + 1) (R1.D.put (.string t) (.lit (.int .i64 S.L.length))) → (w2.alloc o).grownBy w3 R1.tv.ownBlock →
      w3.ownsRow 0 9 1 (.slice (some ⟨g, 0, none⟩) (S.L.length + 1) cap) (S.L.length + 1) (S.L.map encT ++ [encT t]) → (R1.tv.ownBlock = some g ∨ g = w2.heap.size + 1) → Post d R1 w1 (S.add t) _ := fun w1 w2 w3 o g cap h1 h2 h3 h4 h5 h6 => add_end h1 HB.out HNT.out h2 h3 h4 h5 h6
  have HE := Lib.hid hend
  obtain ⟨A, c, htv⟩ := own_form h1.texts
  have HTV := Lib.hid htv
  have cc0 := h0.cells.1
  have htv0 : R.tv = .slice A S.L.length c := by rw [← htv, ← hR1]
  rw [htv0] at cc0
  have hwB : (w1.setCell ⟨d, 1, none⟩ (.map (some w1.heap.size))).alloc (.map #[] 0) = wA := by rw [← hwA]; exact (World.setCell_alloc_past _ _ _ _ hdl).symm
  have HWA := Lib.hid hwB
  have HBE := Lib.hid hbe
  have H1 := Lib.hid h1
  clear htv htv0 hend hwA hwB hbe hR1 h0 h1
  go_upto_region 5 with fail
  rw [HWA.out]
  have c0 := H1.out.cells.1
  rw [HTV.out] at c0
  clear c1 z1 cc0 c1'
  have c1 := H1.out.cells.2.1
  rw [HB.out] at c1
  have h1 := H1.out
  have hown : wA.ownsMap Try.prog 9 (plainElem Try.prog 3) b S.L.length R1.D := by
    have q := h1.names
    rw [HB.out] at q
    obtain ⟨es, clock, h2, F, h3, h4⟩ := (q : wA.ownsMap Try.prog 9 (plainElem Try.prog 3) b _ R1.D)
    exact ⟨es, clock, h2, F, Nat.le_trans h3 h1.sz, h4⟩
  have HO := Lib.hid hown
  clear hbl h1 hown
  go_wp2_with (first
    | (at_mapUpdate; refine wpList_mapUpdate_in _ rfl _ _ _ 87 rfl 9 3 law9 Try.underlying87 _ b _ _ rfl HO.out (by unfold maxLen; omega) _ _ _ rfl rfl HK.out _ _ HV.out ?_; intro w2 hown2 hturn2; have f2 := mapTurned_one hturn2; have a := H1.out.apart; have hbd : d ≠ b := fun e => a.1 (e ▸ HB.out); have hB2 : Blk w2 d 101 (dcells S R1) := H1.out.blk.of (f2.block d H1.out.blk.lt hbd); have c0' : w2.cell? ⟨d, 0, none⟩ = some R1.tv := hB2.cell 0; rw [HTV.out] at c0'; have hrow2 : w2.ownsRow 0 9 1 R1.tv S.L.length (S.L.map encT) := own_of H1.out.texts fun k hk => f2.block k (H1.out.lt k (.inr (.inr (.inl hk)))) (fun e => (a.2.2.2.2.1 b HB.out).1 (e ▸ hk)); rw [HTV.out] at hrow2; have HROW := Lib.hid hrow2; have HB2 := Lib.hid hB2; have HT2 := Lib.hid hturn2; have HO2 := Lib.hid hown2; clear hturn2 hown2 hrow2 hB2 f2 a hbd c0 c1; have hq : ∀ (o : Obj) (w3 : World), (w2.alloc o).grownBy w3 R1.tv.ownBlock → Blk w3 d 101 (dcells S R1) := (fun o w3 hg => HB2.out.of ((hg.block d (by have := HB2.out.lt; simp; omega) (fun e => H1.out.apart.2.1 e.symm)).trans (Below.heap_alloc w2 o d HB2.out.lt))); have HQ := Lib.hid hq; clear hq)
    | (at_builtin; refine wpList_append_lies _ (by rfl) _ _ 48 (by rfl) 0 9 i0 _ 1 16 Try.underlying48 hi0 hz0 hz1 hz2 rfl (by omega) (.slice A S.L.length c) _ _ (by rfl) (HROW.out.alloc _) ⟨w2.heap.size, 0, none⟩ 1 1 [.string ⟨t.toArray⟩] (by rfl) (by rfl) (World.news_of_block (cs := #[.string ⟨t.toArray⟩]) (t := 9) (fr := (0, 0)) (heap_alloc_new w2 _)) (by simp [Value.oneCell']) (by omega) (by unfold maxLen; omega) (by omega) (by simp) (w2.heap.size + 1) (by simp) ?_; intro g cap w3 hown3 hgrow hat hlt; rw [← HTV.out] at hgrow hat; have hB3 := HQ.out _ _ hgrow; have z0 := hB3.frozen 0; have c0'' : w3.cell? ⟨d, 0, none⟩ = some R1.tv := hB3.cell 0; have c2 : w3.cell? ⟨d, 2, none⟩ = some (.int .u32 (oneN S.done)) := hB3.cell 2; have c3 : w3.cell? ⟨d, 3, none⟩ = some (.int .i32 S.mu) := hB3.cell 3; have c4 : w3.cell? ⟨d, 4, none⟩ = some (.int .u32 0) := hB3.cell 4; have z2 := hB3.frozen 2; have z3 := hB3.frozen 3; have z4 := hB3.frozen 4; have HF := Lib.hid (HPOST.out _ _ (HE.out wA w2 w3 _ g cap H1.out HT2.out HO2.out hgrow hown3 hat)); clear hgrow hown3 hat hB3))
  go_ret
  exact ⟨rfl, HF.out⟩

theorem add_any (d : Nat) (R : Rp) (S : DS) (w : World) (h : At w d R S) (t : Tx) (hl : t.length ≤ 64) (ht : t ∉ S.L) (hn : S.L.length < 4096) :
    Calls Try.prog 56 #[.pointer (some ⟨d, 0, none⟩), encT t] w (AddP d R S t w) := by
  cases hb : R.nm with
  | none => exact add_none d R S w h hb t hl ht hn
  | some b => exact add_some d b R S w h hb t hl ht hn

def PutN (d : Nat) (R : Rp) (S : DS) (t : Tx) (w : World) (e : Ending) (w' : World) : Prop := e = .returned (.tuple #[.int .i64 (S.L.length : Nat), .int .i64 0]) ∧ Post d R w (S.add t) w'
set_option maxRecDepth 100000 in
theorem put_new (d : Nat) (R : Rp) (S : DS) (w : World) (h : At w d R S) (t : Tx) (hl : t.length ≤ 64) (hn : num S.L t = none) (hf : S.L.length < 4096) :
    Calls Try.prog 53 #[.pointer (some ⟨d, 0, none⟩), encT t] w (PutN d R S t w) := by
  have HA := Lib.hid (add_any d R S w h t hl (num_none.1 hn) hf)
  have c1 := h.cells.2.1
  have hr := run_look h.names (l := t) (by unfold maxLen; omega)
  have e1 : look R.D t = none := by rw [h.lk, numI, hn]; rfl
  rw [e1] at hr
  simp only [Option.getD_none, Option.isSome_none] at hr
  have c0 := h.cells.1
  obtain ⟨A, c, e⟩ := own_form h.texts
  rw [e] at c0
  have hne : ((S.L.length : Int) == 4096) = false := by simp; omega
  clear e1 h hn e
  unfold encT at *
  have hs : (⟨t.toArray⟩ : ByteArray).size ≤ 64 := size_le hl
  generalize (⟨t.toArray⟩ : ByteArray) = s at *
  clear hl
  go_enter Try.func53, Try.ntmps53
  go_wp2_with (go_at_call 56; refine HA.out.mono ?_; rintro e w' ⟨rfl, hp⟩)
  go_ret2
  exact ⟨rfl, hp⟩

/-- Put, whatever the text: the plain state behind it. -/
def DS.put (S : DS) (t : Tx) : DS := if 64 < t.length then S else match num S.L t with | some _ => S | none => if S.L.length = 4096 then S else S.add t
def DS.putN (S : DS) (t : Tx) : Int := if 64 < t.length then 0 else match num S.L t with | some n => n | none => if S.L.length = 4096 then 0 else S.L.length
def DS.putE (S : DS) (t : Tx) : Int := if 64 < t.length then 45 else match num S.L t with | some _ => 0 | none => if S.L.length = 4096 then 12 else 0
def PutA (d : Nat) (R : Rp) (S : DS) (t : Tx) (w : World) (e : Ending) (w' : World) : Prop := e = .returned (.tuple #[.int .i64 (S.putN t), .int .i64 (S.putE t)]) ∧ Post d R w (S.put t) w'
theorem put_any (d : Nat) (R : Rp) (S : DS) (w : World) (h : At w d R S) (hW : WF S) (t : Tx) (hm : t.length ≤ maxLen) : Calls Try.prog 53 #[.pointer (some ⟨d, 0, none⟩), encT t] w (PutA d R S t w) := by
  by_cases hl : 64 < t.length
  · refine (put_long d w t hl hm).mono ?_
    rintro e w' ⟨he, rfl⟩
    unfold PutA DS.putN DS.putE DS.put
    rw [if_pos hl, if_pos hl, if_pos hl]
    exact ⟨he, Post.refl h⟩
  · have hl' : t.length ≤ 64 := by omega
    cases hn : num S.L t with
    | some n =>
      refine (put_old d R S w h t hl' hn).mono ?_
      rintro e w' ⟨he, rfl⟩
      unfold PutA DS.putN DS.putE DS.put
      rw [if_neg hl, if_neg hl, if_neg hl, hn]
      exact ⟨he, Post.refl h⟩
    | none =>
      by_cases hf : S.L.length = 4096
      · refine (put_full d R S w h t hl' hn hf).mono ?_
        rintro e w' ⟨he, rfl⟩
        unfold PutA DS.putN DS.putE DS.put
        rw [if_neg hl, if_neg hl, if_neg hl, hn]
        simp only [hf, if_true]
        exact ⟨he, Post.refl h⟩
      · refine (put_new d R S w h t hl' hn (by have := hW.le; omega)).mono ?_
        rintro e w' ⟨he, hp⟩
        unfold PutA DS.putN DS.putE DS.put
        rw [if_neg hl, if_neg hl, if_neg hl, hn]
        simp only [hf, if_false]
        exact ⟨he, hp⟩
theorem WF.put {S : DS} (h : WF S) (t : Tx) : WF (S.put t) := by
  unfold DS.put
  split
  · exact h
  · split
    · exact h
    · rename_i hl hn
      split
      · exact h
      · exact h.add (num_none.1 hn) (by omega) (by have := h.le; omega)
end Go.Proofs.Ytmaeejojmbibnaa
