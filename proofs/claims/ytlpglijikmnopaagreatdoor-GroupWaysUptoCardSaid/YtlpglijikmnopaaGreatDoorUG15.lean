/- The landed Hash. -/
import Derived.Test.YtlpglijikmnopaaGreatDoorUGW
namespace Go.Proofs.YtlpglijikmnopaaGreatDoor
open Go.RowKit Go.Maps Go.Sort Go.Proofs Go.Shelf
set_option linter.unusedVariables false
attribute [local go_sem] Oper.semAt_some

def lT (xs : List Yd) : List (Ky × List Int) := xs.map fun u => (u.k, u.ms)
/-- What the loop of Hash keeps. -/
def HI (B g m n0 B9 : Nat) (z : Ac) (w : World) (s : Nat) (pre : List Yd) (W : World) : Prop :=
  n0 ≤ s ∧ (∃ rv, Gs B g m n0 z rv (ordL takeA z (lT pre)) W) ∧ Wf (ordL takeA z (lT pre)) ∧ Blk W B9 70 #[.pointer (some ⟨g, 0, none⟩)] ∧ Fr (fun k => k = g ∨ k = m ∨ n0 ≤ k) w W
theorem HI.no {B g m n0 B9 : Nat} {z : Ac} {w : World} {s : Nat} {pre : List Yd} {W W' : World} (h : HI B g m n0 B9 z w s pre W) (f : Fr No W W') : HI B g m n0 B9 z w s pre W' := by
  obtain ⟨h0, ⟨rv, h1⟩, h2, h3, h4⟩ := h
  exact ⟨h0, ⟨rv, h1.no f⟩, h2, h3.no f, h4.trans f fun _ _ h => h.elim⟩
theorem HI.turn {B g m n0 B9 : Nat} {z : Ac} {w : World} {s : Nat} {pre : List Yd} {W : World} (h : HI B g m n0 B9 z w s pre W) {r : Nat} {o o' : Obj} (hr : W.heap[r]? = some o) (ho : o.isCells = false) (hn : n0 ≤ r) : HI B g m n0 B9 z w s pre (W.putObj r o') := by
  obtain ⟨h0, ⟨rv, h1⟩, h2, h3, h4⟩ := h
  have ap := h1.ap
  exact ⟨h0, ⟨rv, h1.turn hr ho (by omega)⟩, h2, h3.of (frc_put hr ho _ h3.isC), fr_put h4 (.inr (.inr hn))⟩
theorem HI.up {B g m n0 B9 : Nat} {z : Ac} {w : World} {s s' : Nat} {pre : List Yd} {W : World} (h : HI B g m n0 B9 z w s pre W) (hs : s ≤ s') : HI B g m n0 B9 z w s' pre W := ⟨Nat.le_trans h.1 hs, h.2⟩
theorem ydR.turn {B b : Nat} {x : Yd} {W : World} (h : ydR b B x W) {r : Nat} {o o' : Obj} (hr : W.heap[r]? = some o) (ho : o.isCells = false) : ydR b B x (W.putObj r o') :=
  ⟨KRz.turn h.1 (frc_put hr ho), RowE.turn intG_elem intG_c (by decide) h.2.1 (frc_put hr ho), h.2.2⟩
theorem le_last : ∀ {d : List Nat}, d.Pairwise (· < ·) → ∀ {x : Nat}, d.getLast? = some x → ∀ i ∈ d, i ≤ x
  | [], _, _, h, _, _ => by cases h
  | [a], _, x, h, i, hi => by simp at h hi; omega
  | a :: b :: l, hp, x, h, i, hi => by
    rw [List.getLast?_cons_cons] at h
    have h2 := le_last (List.pairwise_cons.1 hp).2 h
    rcases List.mem_cons.1 hi with rfl | hi
    · have h3 := (List.pairwise_cons.1 hp).1 b List.mem_cons_self
      have h4 := h2 b List.mem_cons_self
      omega
    · exact h2 i hi
theorem listB_up (s : Int) : (listB s).Pairwise (· < ·) := by
  unfold listB
  split
  · exact List.Pairwise.filter _ List.pairwise_lt_range
  · exact List.Pairwise.nil
theorem listB_last {s : Int} {n : Nat} (h : lastOk (listB s) n = true) : ∀ i ∈ listB s, i < n := by
  unfold lastOk at h
  intro i hi
  cases hx : (listB s).getLast? with
  | none => rw [List.getLast?_eq_none_iff.1 hx] at hi; cases hi
  | some x =>
    rw [hx] at h
    have := le_last (listB_up s) hx i hi
    have := of_decide_eq_true h
    omega
theorem Gs.ownC {b g m n0 : Nat} {z : Ac} {rv : Value} {l : List Rw} {w : World} (h : Gs b g m n0 z rv l w) {r : Nat} (hr : rv.ownBlock = some r) : IsC w r := by
  obtain ⟨K, xs, ho, _⟩ := h.rows
  obtain ⟨cur, hc⟩ := own_row ho hr
  exact ⟨_, _, _, hc⟩
theorem not_isC {w : World} {r : Nat} {o : Obj} (h : w.heap[r]? = some o) (ho : o.isCells = false) : ¬ IsC w r := by
  rintro ⟨c, t, fz, e⟩
  rw [h] at e
  injection e with e
  rw [e] at ho
  cases ho
theorem hash_end {B g m N0 B9 : Nat} {z : Ac} {w4 W w1 w3 : World} {pre : List Yd} {x : Yd} {rv v3 : Value} {gr n c p : Nat} {a0 : Ac} (hgs : Gs B g m N0 z rv (ordL takeA z (lT pre)) W) (hwf : Wf (ordL takeA z (lT pre))) (hz : Lok z.parts) (hb9 : Blk W B9 70 #[.pointer (some ⟨g, 0, none⟩)]) (hB9 : B9 ≠ g ∧ B9 ≠ m ∧ B9 < N0)
    (hfr : Fr (fun k => k = g ∨ k = m ∨ N0 ≤ k) w4 W) (hg1 : Gs B g m N0 z (.slice (some ⟨gr, 0, none⟩) n c) (rowG z (ordL takeA z (lT pre)) x.k) w1) (hf1 : Fr (fun j => j = g ∨ j = m ∨ rv.ownBlock = some j) W w1) (hgo : rv.ownBlock = some gr ∨ W.heap.size ≤ gr)
    (ha : (atK (ordL takeA z (lT pre)) x.k).getD z = a0) (hp : posK (ordL takeA z (lT pre)) x.k = p) (f13 : Fr No w1 w3) (hpo : PO w1.heap.size w3 v3 (takeA a0 x.ms).parts) (hms : ∀ n ∈ x.ms, i64' n) :
    Bk N0 W ((w3.setCell ⟨gr, p * 3 + 1, none⟩ (.int .i64 (takeA a0 x.ms).count)).setCell ⟨gr, p * 3 + 2, none⟩ v3) ∧ Fr (fun k => k = g ∨ k = m ∨ N0 ≤ k) W ((w3.setCell ⟨gr, p * 3 + 1, none⟩ (.int .i64 (takeA a0 x.ms).count)).setCell ⟨gr, p * 3 + 2, none⟩ v3) ∧
      HI B g m N0 B9 z w4 ((w3.setCell ⟨gr, p * 3 + 1, none⟩ (.int .i64 (takeA a0 x.ms).count)).setCell ⟨gr, p * 3 + 2, none⟩ v3).heap.size (pre ++ [x]) ((w3.setCell ⟨gr, p * 3 + 1, none⟩ (.int .i64 (takeA a0 x.ms).count)).setCell ⟨gr, p * 3 + 2, none⟩ v3) := by
  have hi : posK (ordL takeA z (lT pre)) x.k < (rowG z (ordL takeA z (lT pre)) x.k).length := rowG_len z _ _
  obtain ⟨hs1, hs2⟩ := hg1.store hi (takeA a0 x.ms) f13 hpo
  rw [hp] at hs1 hs2
  obtain ⟨W', hW'⟩ : ∃ W', (w3.setCell ⟨gr, p * 3 + 1, none⟩ (.int .i64 (takeA a0 x.ms).count)).setCell ⟨gr, p * 3 + 2, none⟩ v3 = W' := ⟨_, rfl⟩
  rw [hW'] at hs1 hs2 ⊢
  have hall : Fr (fun j => j = g ∨ j = m ∨ rv.ownBlock = some j ∨ j = gr) W W' := (hf1.mono fun k _ hk => by rcases hk with h | h | h; exact .inl h; exact .inr (.inl h); exact .inr (.inr (.inl h))).trans hs2 fun j _ e => .inr (.inr (.inr e))
  have hap := hgs.ap
  have hgo' := hg1.own gr rfl
  have hFr : Fr (fun k => k = g ∨ k = m ∨ N0 ≤ k) W W' := hall.mono fun k _ hk => by
    rcases hk with h | h | h | h
    · exact .inl h
    · exact .inr (.inl h)
    · exact .inr (.inr (hgs.own k h))
    · exact .inr (.inr (by omega))
  have hord : ordL takeA z (lT (pre ++ [x])) = updG takeA z (ordL takeA z (lT pre)) x.k x.ms := by
    rw [show lT (pre ++ [x]) = lT pre ++ [(x.k, x.ms)] by unfold lT; rw [List.map_append]; rfl, ord_snoc]
  refine ⟨fun r o hr ho hc => ?_, hFr, by have := hFr.size; omega, ⟨.slice (some ⟨gr, 0, none⟩) n c, ?_⟩, ?_, hb9.of (hFr.block B9 hb9.lt ?_), hfr.trans hFr fun _ _ h => h⟩
  · refine (hall.block r (Array.getElem?_eq_some_iff.1 ho).1 ?_).trans ho
    rintro (h | h | h | h)
    · omega
    · omega
    · exact not_isC ho hc (hgs.ownC h)
    · rcases hgo with h2 | h2
      · rw [h] at ho
        exact not_isC ho hc (hgs.ownC h2)
      · have := (Array.getElem?_eq_some_iff.1 ho).1
        omega
  · rw [hord]
    have e : updG takeA z (ordL takeA z (lT pre)) x.k x.ms = setA (rowG z (ordL takeA z (lT pre)) x.k) p (takeA a0 x.ms) := by unfold updG; rw [ha, hp]
    rw [e]
    exact hs1
  · rw [hord]
    exact hwf.upd hz hms
  · rintro (h | h | h)
    · exact hB9.1 h
    · exact hB9.2.1 h
    · omega
def TellsH (b : Nat) (l : List Rw) (w : World) (e : Ending) (w' : World) : Prop := ∃ A n c, e = .returned (.slice A n c) ∧ n = l.length ∧ RRz (fun k => b ≤ k) w' (.slice A n c) l ∧ Fr No w w'
set_option maxRecDepth 100000 in
set_option maxHeartbeats 4000000 in
theorem hash_any {B : Nat} {fv wv : Value} {fs : List Fc} {s meas : Int} {M : Fc → Bool} (w : World) (hBs : w.heap.size = B) (hf : FR (fun j => j < B) w fv fs) (hM : MeantC wv M B w) (hwv : ∃ p, wv = .pointer p) (hok : ∀ f ∈ fs, Fok f) (hl : fs.length < 4000000) (hp : Pv w) :
    Calls Tryz.prog 13 #[fv, wv, .int .i64 s, .int .i64 meas] w (TellsH B (grpL takeA (newA meas) (keyedL M (listB s) fs)) w) := by
  obtain ⟨p, rfl⟩ := hwv
  obtain ⟨A, fn, c, rfl, -⟩ : ∃ A l c, fv = .slice A l c ∧ True := by obtain ⟨A, c, e, _⟩ := hf; exact ⟨A, _, c, e, trivial⟩
  obtain ⟨z, hz⟩ : ∃ z, newA meas = z := ⟨_, rfl⟩
  have HZ := Lib.hid hz
  have HBS := Lib.hid hBs
  have HN := Lib.hid (new_any meas w)
  have HFV := Lib.hid hf
  have HM := Lib.hid hM
  have HOK := Lib.hid hok
  have HL := Lib.hid hl
  have HP := Lib.hid hp
  rw [hz] at HN ⊢
  clear hz hBs hf hM hok hl hp
  refine (callsIn_wide (n := 3)).1 ?_
  refine callsIn_of_wp_marks Tryz.func13 rfl trivial ?_ rfl
  simp only [Tryz.ntmps13, List.size_toArray, List.length_cons, List.length_nil, Nat.reduceAdd, Nat.reduceSub, Array.replicate_succ, Array.replicate_zero, List.push_toArray, List.append_toArray, List.nil_append, List.cons_append]
  gi_wp2_with (first
    | (refine ⟨trivial, ?_⟩; gi_at_call 37; refine (callsIn_wide.2 HN.out).mono ?_; rintro e w1 ⟨v1, rfl, hpo, f1⟩; have HPO := Lib.hid hpo; have HF1 := Lib.hid f1; clear hpo f1)
    | (refine ⟨trivial, ?_⟩; gi_at_call 36; refine (callsIn_wide.2 (newGroups_any (b := B) z v1 w1 (by have := HF1.out.size; have := HBS.out; omega) (by have := HPO.out.prz; rw [HBS.out] at this; exact this))).mono ?_; rintro e w2 ⟨g, m, n0, rfl, hgs, hg1, hm1, f2⟩; have HGS := Lib.hid hgs; have HF2 := Lib.hid f2; clear hgs f2))
  obtain ⟨B9, hB9⟩ : ∃ x, w2.heap.size = x := ⟨_, rfl⟩
  obtain ⟨w3, hw3⟩ : ∃ x, w2.alloc (Obj.cells #[Value.pointer (some { block := g, off := 0 })] 70) = x := ⟨_, rfl⟩
  rw [hB9, hw3]
  have f3 : Fr No w2 w3 := by rw [← hw3]; exact (Fr.refl No w2).alloc _
  have hb9 : Blk w3 B9 70 #[.pointer (some ⟨g, 0, none⟩)] := by rw [← hw3, ← hB9]; exact Blk.new w2 70 _
  have HF3 := Lib.hid f3
  have HB9 := Lib.hid hb9
  have h9' : w2.heap.size ≤ B9 := by omega
  clear hw3 hB9 f3 hb9
  gi_wp2_with (refine ⟨trivial, ?_⟩; gi_at_call 38; refine (callsIn_wide.2 (keyed_any A fn c p s w3)).mono ?_; rintro e w4 ⟨x, y, u, dv, rfl, hx, hy, hu, hd, hx1, hy1, hu1, f4⟩; have HX := Lib.hid hx; have HY := Lib.hid hy; have HU := Lib.hid hu; have HD := Lib.hid hd; have HF4 := Lib.hid f4; clear hx hy hu hd f4)
  obtain ⟨N0, hN0⟩ : ∃ x, w4.heap.size = x := ⟨_, rfl⟩
  have hs1 := HF1.out.size
  have hs2 := HF2.out.size
  have hs3 := HF3.out.size
  have hs4 := HF4.out.size
  have hB0 := HBS.out
  have hg4 := HGS.out
  have ap := hg4.ap
  have h9 : w2.heap.size ≤ B9 ∧ B9 < w3.heap.size := ⟨by
    have := HB9.out.lt
    exact h9', HB9.out.lt⟩
  have f04 : Fr No w w4 := ((HF1.out.trans HF2.out fun _ _ h => h).trans HF3.out fun _ _ h => h).trans HF4.out fun _ _ h => h
  have f24 : Fr No w2 w4 := HF3.out.trans HF4.out fun _ _ h => h
  have hgs4 : Gs B g m N0 z (.slice none 0 0) [] w4 := (hg4.no f24).raise (by omega) (by omega)
  have hxl := HX.out.lt
  have hyl := HY.out.lt
  have hul := HU.out.lt
  have HSEQ : Hid (SeqM 2 70 #[.pointer (some ⟨x, 0, none⟩), .pointer (some ⟨y, 0, none⟩), .pointer (some ⟨u, 0, none⟩)] ydE (ydR B) (fun k => k = g ∨ k = m ∨ N0 ≤ k) (fun xs => lT xs = keyedL M (listB s) fs) fs.length w4) := Lib.hid
    (keyed1_any (w0 := w) (Kd := fun k => w3.heap.size ≤ k ∧ k < N0) HX.out HY.out HU.out (HD.out.mono (fun k hk hlt => ⟨⟨hk, by omega⟩, rfl⟩) fun _ _ h => h) (HFV.out.no f04) HM.out (by rw [← hB0]; exact f04.below)
      (fun k hk => by rcases hk with h | h | h <;> refine ⟨?_, ?_, ?_, ?_, ?_⟩ <;> omega) (by have := listB_len s; omega) (fun n h => listB_last h) HOK.out (by omega) ⟨_, rfl⟩)
  have HI0 : Hid (HI B g m N0 B9 z w4 w4.heap.size [] w4) := Lib.hid ⟨by omega, ⟨_, hgs4⟩, Wf.nil, HB9.out.no HF4.out, Fr.refl _ _⟩
  have HP4 : Hid (Pv w4) := Lib.hid (HP.out.no f04)
  have HA : Hid (B ≤ g ∧ g < N0 ∧ B ≤ m ∧ m < N0 ∧ B9 ≠ g ∧ B9 ≠ m ∧ B9 < N0 ∧ B ≤ N0 ∧ 0 < g ∧ 0 < m ∧ 0 < N0) := Lib.hid (by have := HP.out.lt; refine ⟨?_, ?_, ?_, ?_, ?_, ?_, ?_, ?_, ?_, ?_, ?_⟩ <;> omega)
  have HF04 := Lib.hid f04
  have HN0 := Lib.hid hN0
  clear hs1 hs2 hs3 hs4 hB0 hg4 ap h9 f04 f24 hgs4 hxl hyl hul hN0 hx1 hy1 hu1 hg1 hm1
  refine walk_range (encs := ydE) (Rd := ydR B) (Gm := fun k => k = g ∨ k = m ∨ N0 ≤ k) (N := fs.length) rfl (enters_of Tryz.func70 (by kernel_rfl) rfl) (fun _ => rfl) (fun k hk => .inr (.inr (by have := HN0.out; omega))) HSEQ.out (HI B g m N0 B9 z w4) (fun s pre A B h f => h.no f) (fun s s' pre A h hs => h.up hs)
    (fun s pre A r o o' h hr ho hc => h.turn ho hc (by have := HN0.out; omega)) (fun s x A r o o' h hr ho hc => h.turn ho hc) HI0.out
    (fun xd => { tmps := #[Value.slice A fn c, Value.pointer p, Value.int IntKind.i64 s, Value.int IntKind.i64 meas, undef, undef, undef, undef, Value.slice none 0 0, Value.pointer (some { block := B9, off := 0 }), xd.kv, xd.mv, undef,
          Value.int IntKind.i64 meas, Value.agg #[Value.int IntKind.i64 z.count, v1], Value.pointer (some { block := g, off := 0 }), Value.slice A fn c, Value.pointer p, Value.int IntKind.i64 s,
          Value.func (Fn.func 70) #[] #[Value.pointer (some { block := x, off := 0 }), Value.pointer (some { block := y, off := 0 }), Value.pointer (some { block := u, off := 0 })],
          xd.kv, xd.mv, undef, undef, undef, undef, undef, undef, undef, undef, undef, undef, undef, undef, undef, undef], defers := [] }) ?assign ?body ?done
  case assign =>
    intro l xd W K hK
    dsimp only [ydE]
    gi_wp2
    exact hK
  case body =>
    rintro l sv pre xd W hsW hI ⟨hkr, hir, hkok⟩ hn
    obtain ⟨k, ms, kv, mv⟩ := xd
    dsimp only at hkr hir hkok ⊢
    obtain ⟨hsN, ⟨rv, hgs⟩, hwf, hb9, hfr⟩ := hI
    obtain ⟨Ak, kn, ck, rfl, -⟩ : ∃ A l c, kv = .slice A l c ∧ True := by obtain ⟨A, c, e, _⟩ := hkr.form; exact ⟨A, _, c, e, trivial⟩
    obtain ⟨Am, mn, cm, rfl, -⟩ : ∃ A l c, mv = .slice A l c ∧ True := by obtain ⟨A, c, e, _⟩ := hir.form; exact ⟨A, _, c, e, trivial⟩
    have hz : Lok z.parts := by rw [← HZ.out]; exact new_lok _
    have HR := Lib.hid (row_any W hgs hkr.1 (by have := HA.out; omega) hkok (HP4.out.fr hfr (by have := HA.out; omega)) (by have := ord_len takeA z (lT pre); unfold lT at this; rw [List.length_map] at this; have := HL.out; unfold lT; omega))
    have hwr := hwf.row hz k
    have hms := hir.i64s
    have b90 := hb9.cell 0
    obtain ⟨a0, ha0⟩ : ∃ a, (atK (ordL takeA z (lT pre)) k).getD z = a := ⟨_, rfl⟩
    obtain ⟨p0, hp0⟩ : ∃ p, posK (ordL takeA z (lT pre)) k = p := ⟨_, rfl⟩
    have hi : posK (ordL takeA z (lT pre)) k < (rowG z (ordL takeA z (lT pre)) k).length := rowG_len z _ _
    have HEND : Hid (∀ gr n c w1 w3 v3 act, Gs B g m N0 z (.slice (some ⟨gr, 0, none⟩) n c) (rowG z (ordL takeA z (lT pre)) k) w1 → Fr (fun j => j = g ∨ j = m ∨ rv.ownBlock = some j) W w1 → (rv.ownBlock = some gr ∨ W.heap.size ≤ gr) → Fr No w1 w3 → PO w1.heap.size w3 v3 (takeA a0 ms).parts →
        bodyQ w4.heap.size (fun k => k = g ∨ k = m ∨ N0 ≤ k) (fun pre W => HI B g m N0 B9 z w4 W.heap.size pre W) (pre ++ [⟨k, ms, .slice Ak kn ck, .slice Am mn cm⟩]) W .normal act ((w3.setCell ⟨gr, p0 * 3 + 1, none⟩ (.int .i64 (takeA a0 ms).count)).setCell ⟨gr, p0 * 3 + 2, none⟩ v3)) := Lib.hid fun gr n c w1 w3 v3 act h1 h2 h3 h4 h5 => by
      rw [HN0.out]
      exact hash_end (x := ⟨k, ms, .slice Ak kn ck, .slice Am mn cm⟩) hgs hwf hz hb9 (by have := HA.out; omega) hfr h1 h2 h3 ha0 hp0 h4 h5 hms
    have HGS2 := Lib.hid hgs
    have HWR := Lib.hid hwr
    have HB99 := Lib.hid hb9
    have HIR := Lib.hid hir
    have HA0 := Lib.hid ha0
    have HP0 := Lib.hid hp0
    clear hgs hwf hfr hkr hir hkok hz hwr hms ha0 hp0
    gi_wp2
    refine ⟨trivial, ?_⟩
    refine (CallsIn.inRound l (callsIn_wide.2 HR.out)).mono ?_
    rintro e wa ⟨gr, n, cg, rfl, hn1, hg1, hf1, hgo⟩
    obtain ⟨⟨pv0, x1, x2, hpr⟩, hfz, hgl⟩ := hg1.look hi
    have hrp := rowG_pos z (ordL takeA z (lT pre)) k
    have hl0 := HWR.out _ (List.getElem_mem hi)
    rw [hrp, HA0.out] at x1 hpr hl0
    rw [HP0.out] at x1 x2
    dsimp only at x1 hpr hl0
    obtain ⟨C0, cc0, rfl, -⟩ := hpr.form
    have HT : Hid (∀ w', Fr No wa w' → Calls Tryz.prog 40 #[.agg #[.int .i64 a0.count, .slice C0 a0.parts.length cc0], .slice Am mn cm] w' (TellsA (takeA a0 ms) w')) := Lib.hid fun w' f' =>
      take_any a0.count a0.parts ms _ (.slice Am mn cm) w' (hpr.no f').1 hl0 (IR.no (HIR.out.mono (fun j hj hlt => ⟨hj, hf1.block j hlt (by
        have := HA.out
        rintro (h | h | h)
        · omega
        · omega
        · have := HGS2.out.own j h; omega)⟩) fun _ _ h => h) f')
    have HE2 : Hid (∀ w3 v3 act, Fr No wa w3 → PO wa.heap.size w3 v3 (takeA a0 ms).parts → bodyQ w4.heap.size (fun k => k = g ∨ k = m ∨ N0 ≤ k) (fun pre W => HI B g m N0 B9 z w4 W.heap.size pre W) (pre ++ [⟨k, ms, .slice Ak kn ck, .slice Am mn cm⟩]) W .normal act ((w3.setCell ⟨gr, p0 * 3 + 1, none⟩ (.int .i64 (takeA a0 ms).count)).setCell ⟨gr, p0 * 3 + 2, none⟩ v3)) := Lib.hid fun w3 v3 act h4 h5 => HEND.out gr n cg wa w3 v3 act hg1 hf1 hgo h4 h5
    rw [HP0.out]
    have z1 := hfz (p0 * 3 + 1)
    have z2 := hfz (p0 * 3 + 2)
    have HU : Hid (∀ w', Fr No wa w' → w'.cell? ⟨gr, p0 * 3 + 1, none⟩ = some (.int .i64 a0.count) ∧ w'.cell? ⟨gr, p0 * 3 + 2, none⟩ = some (.slice C0 a0.parts.length cc0) ∧ w'.frozen? ⟨gr, p0 * 3 + 1, none⟩ = false ∧ w'.frozen? ⟨gr, p0 * 3 + 2, none⟩ = false) := Lib.hid fun w' f' => by
      have e := f'.block gr hgl id
      refine ⟨(cell_of_heap e).trans x1, (cell_of_heap e).trans x2, ?_, ?_⟩
      · simp only [World.frozen?] at z1 ⊢; rw [e]; exact z1
      · simp only [World.frozen?] at z2 ⊢; rw [e]; exact z2
    obtain ⟨q0, hq0⟩ : ∃ x, a0.parts.length = x := ⟨_, rfl⟩
    rw [hq0] at x2 HT HU
    obtain ⟨ac0, hac0⟩ : ∃ x, a0.count = x := ⟨_, rfl⟩
    rw [hac0] at x1 HT HU
    obtain ⟨am, ham⟩ : ∃ x, takeA a0 ms = x := ⟨_, rfl⟩
    rw [ham] at HT HE2
    clear hg1 hf1 hgo hrp hl0 hpr hq0 hac0 ham hfz HEND HR HGS2 HWR b90
    gi_wp2_with (refine ⟨trivial, ?_⟩; gi_at_call 40; refine (CallsIn.inRound l (callsIn_wide.2 (HT.out wa (Fr.refl _ _)))).mono ?_; rintro e w3 ⟨v3, rfl, hpo, f3⟩; obtain ⟨u1, u2, v1', v2'⟩ := HU.out w3 f3; have HE3 : Hid (∀ act, _) := Lib.hid (fun act => HE2.out w3 v3 act f3 hpo); obtain ⟨V3, k3, rfl, -⟩ := hpo.pr.form; clear hpo f3)
    exact HE3.out _
  case done =>
    rintro D xs W hD hS ⟨-, ⟨rv, hgs⟩, hwf, hb9, hfr⟩ hK
    have hlen : (ordL takeA z (lT xs)).length < 4000000 := by
      have h1 := ord_len takeA z (lT xs)
      rw [hS] at h1 ⊢
      have h2 : (keyedL M (listB s) fs).length ≤ fs.length := by
        unfold keyedL
        rw [List.length_map]
        exact List.length_filter_le _ _
      have := HL.out
      omega
    have HO := Lib.hid (inOrder_any W hgs (by omega))
    have HGS2 := Lib.hid hgs
    have b90 := hb9.cell 0
    have HK := Lib.hid hK
    have HFR := Lib.hid hfr
    have HS := Lib.hid hS
    clear hgs hwf hb9 hfr hK hS hlen
    gi_wp2_with (refine ⟨trivial, ?_⟩; gi_at_call 41; refine (callsIn_wide.2 HO.out).mono ?_; rintro e wb ⟨l', ⟨hpm, hso⟩, Ar, nr, cr, rfl, hnr, hrr, fr⟩)
    subst hnr
    have hKb : wb.heap[D]? = some (.deferred (some [])) := (fr.block D (Array.getElem?_eq_some_iff.1 HK.out).1 fun h => not_isC HK.out rfl (HGS2.out.ownC h)).trans HK.out
    refine ⟨by simp, .inl ⟨_, _, rfl, run_takeDeferred hKb, ?_⟩⟩
    have hl' : l' = grpL takeA z (keyedL M (listB s) fs) := by rw [← HS.out]; exact ord_sorted takeA z hpm hso
    rw [← hl']
    have hA := HA.out
    refine ⟨_, results_tmp rfl _ _ _, Ar, _, cr, rfl, rfl, RowE.turn rwU_elem rwU_c (by decide) hrr (frc_put hKb rfl), ?_⟩
    have f1 : Fr (fun k => B ≤ k) w wb := (HF04.out.any.trans HFR.out fun k _ h => by rcases h with h | h | h <;> omega).trans fr fun k _ h => by have := HGS2.out.own k h; omega
    have f2 := fr_put (o := .deferred none) f1 (show B ≤ D by have := HN0.out; omega)
    exact ⟨f2.os, f2.tape, f2.output, f2.size, fun k hk _ => f2.block k hk (by have := HBS.out; omega)⟩
end Go.Proofs.YtlpglijikmnopaaGreatDoor
