/- The document's reader takes up a fact. -/
import Derived.Test.YtjhjcdfhfjeogaaP6
import Derived.Test.YtjhjcdfhfjeogaaC9
import Derived.Deep.DeepCutAuto
import Derived.Deep.RegionLaw
namespace Go.Proofs.Ytjhjcdfhfjeogaa
open Go.RowKit Go.Maps
set_option linter.unusedVariables false

/-- append, as one step of a region that draws, by its run. -/
theorem step_add {ops : Array Oper} {o : Oper} {a : Act} {w w' : World} {v' : Value} {K : Act → World → Prop} {Q : Exit → Act → World → Prop} {E : Prop}
    (hg : o.guard = none) (sl x : Operand) (t1 t2 : TypeId) (hop : o.op = Op.call { callee := Callee.builtin Builtin.append, args := #[sl, x], argTypes := #[t1, t2] })
    (v vx : Value) (hs : a.eval sl = v) (hx : a.eval x = vx) (hr : (Builtin.append_ #[t1, t2] o.type #[v, vx]).run Try.prog w = .ok v' w') (hK : K (a.put o.dst v') w') :
    if Region.wanted o (yielded ops a.tmps) = true then Oper.wp Try.prog o a w K Q else E := by
  have hw : Region.wanted o (yielded ops a.tmps) = true := by simp [Region.wanted, hg]
  rw [if_pos hw]
  unfold Oper.wp
  simp [execOp, hop, resolve, invoke, builtin, hs, hx, hr, Result.andThen]
  exact hK
/-- A call of the document's reader that tells a fact. -/
def DPf (g : Nat) (w : World) (f : FactP) (S' : RS) (e : Ending) (w' : World) : Prop :=
  ∃ dv mv, e = .returned (.agg #[dv, mv]) ∧ DAt w' g S' ∧ Fr (DFt g) w w' ∧ RowE (fun k => w.heap.size ≤ k) w' 1 strE dv f.dims ∧ RowE (fun k => w.heap.size ≤ k) w' 1 intE mv f.meas
/-- The reader's block, or the fact's. -/
def FB (g fb k : Nat) : Prop := k = g ∨ k = fb

set_option maxRecDepth 100000 in
set_option maxHeartbeats 4000000 in
theorem dfact_r (g : Nat) (S : RS) (w : World) (h : DAt w g S) : Calls Try.prog 75 #[dpt g] w (DPf g w S.fact.1 S.fact.2) := by
  obtain ⟨w0, hw0⟩ : ∃ w0, w.alloc (.cells #[.slice none 0 0, .slice none 0 0] 99) = w0 := ⟨_, rfl⟩
  obtain ⟨gr, hgr⟩ : ∃ gr, w.heap.size = gr := ⟨_, rfl⟩
  have h0 : DAt w0 g S := by rw [← hw0]; exact h.keep ((Fr.refl _ w).alloc _)
  have hb0 : Blk w0 gr 99 #[.slice none 0 0, .slice none 0 0] := by rw [← hw0, ← hgr]; exact Blk.new w 99 _
  have hf0 : Fr (DFt g) w w0 := by rw [← hw0]; exact (Fr.refl _ w).alloc _
  have hlt := h.lt
  have hggr : g < gr := by omega
  have H0 := Lib.hid h0
  have X0 := Lib.hid hb0
  have F0 := Lib.hid hf0
  have GR := Lib.hid hgr
  have HT := Lib.hid (dtexts_r g S w0 h0)
  have HVf : Hid (S.fact = (if S.texts.2.ints.2.fault = 0 then ⟨S.texts.1, S.texts.2.ints.1⟩ else FactP.zero, S.texts.2.ints.2)) := Lib.hid rfl

  have HTX : Hid (S.several RS.text 4 = S.texts) := Lib.hid rfl
  clear h h0 hb0 hf0
  unfold dpt at HT ⊢
  go_enter Try.func75, Try.ntmps75
  go_wp2_with fail

  refine HT.out.mono ?_
  rw [HTX.out]
  rintro e w1 ⟨dv, rfl, h1, f1, r1⟩
  clear HT
  have hx1 : Blk w1 gr 99 #[.slice none 0 0, .slice none 0 0] := X0.out.of (f1.block gr X0.out.lt fun e => by unfold DFt at e; omega)
  obtain ⟨A1, n1, c1, rfl⟩ := r1.slice
  have hs0 := X0.out.lt
  have hr1 := (r1.bound (by omega)).mono (K' := fun k => gr < k ∧ k < w1.heap.size) fun k hk => ⟨by have := hk.1; omega, hk.2⟩
  obtain ⟨w2, hw2⟩ : ∃ w2, w1.alloc (.cells #[.slice A1 n1 c1, .slice none 0 0] 99) = w2 := ⟨_, rfl⟩
  obtain ⟨fb, hfb⟩ : ∃ fb, w1.heap.size = fb := ⟨_, rfl⟩
  have h2 : DAt w2 g S.texts.2 := by rw [← hw2]; exact h1.keep ((Fr.refl _ w1).alloc _)
  have hb2 : Blk w2 fb 99 #[.slice A1 n1 c1, .slice none 0 0] := by rw [← hw2, ← hfb]; exact Blk.new w1 99 _
  have hf2 : Fr (DFt g) w w2 := by rw [← hw2]; exact (F0.out.thenD f1).alloc _
  have hfa : Fr No w1 w2 := by rw [← hw2]; exact (Fr.refl _ w1).alloc _
  have hx2 : Blk w2 gr 99 #[.slice none 0 0, .slice none 0 0] := hx1.of (hfa.block gr hx1.lt id)
  have hr2 : RowE (fun k => gr < k ∧ k < fb) w2 1 strE (.slice A1 n1 c1) S.texts.1 := by rw [← hfb]; exact hr1.of (fun k hk => hfa.block k hk.2 id) fun _ _ h => h
  obtain ⟨b, hb⟩ : ∃ b, w2.heap.size = b := ⟨_, rfl⟩
  have hgfb : gr < fb := by have := hx1.lt; omega
  have hfbb : fb < b := by have := hb2.lt; omega
  have hml := many_le S.texts.2 8
  have hsl := h2.len
  have HM := Lib.hid (dmany_any g S.texts.2 8 (by omega) (by omega) w2 h2)
  have HV : Hid (S.texts.2.ints = (if (seq RS.int (S.texts.2.many 8).1 (S.texts.2.many 8).2).2.fault = 0 then (seq RS.int (S.texts.2.many 8).1 (S.texts.2.many 8).2).1 else [], (seq RS.int (S.texts.2.many 8).1 (S.texts.2.many 8).2).2)) := Lib.hid rfl
  have hn : (S.texts.2.many 8).1 ≤ 1073741824 := by omega
  have X2 := Lib.hid hx2
  have R2 := Lib.hid hr2
  have B2 := Lib.hid hb2
  have F2 := Lib.hid hf2
  have W2 := Lib.hid hw2
  have SB := Lib.hid hb
  have SF := Lib.hid hfb
  generalize (S.texts.2.many 8).1 = n at *
  generalize (S.texts.2.many 8).2 = S1 at *
  clear h1 f1 r1 hx1 hr1 h2 hb2 hf2 hfa hx2 hr2 hml hsl hb hfb hw2 hgr hw0 hlt H0 X0 F0
  unfold dpt at HM
  go_wp2_with fail
  rw [W2.out, SF.out]
  refine HM.out.mono ?_
  rintro e w3 ⟨rfl, h3, f3⟩
  have hb3 : Blk w3 fb 99 #[.slice A1 n1 c1, .slice none 0 0] := B2.out.of (f3.block fb B2.out.lt fun e => by unfold DFt at e; omega)
  have B3 := Lib.hid hb3
  have H3 := Lib.hid h3
  have F3 : Hid (Fr (FB g fb) w2 w3) := Lib.hid (f3.mono fun k _ hk => .inl hk.symm)
  clear h3 f3 HM hb3
  go_wp2
  go_loopw [5] (fun i wr => ∃ j : Nat, ∃ A c, j ≤ n ∧ i = .int .i64 j ∧ Blk wr fb 99 #[.slice A1 n1 c1, .slice A j c] ∧ Grow b 2 1 intG wr (.slice A j c) (seq RS.int j S1).1 ∧ DAt wr g (seq RS.int j S1).2 ∧ Fr (FB g fb) w2 wr) (fun i _ => n - (intOf i).toNat)
  case atStart => exact ⟨0, _, _, by omega, rfl, B3.out, Grow.nil0 _ _ _ _ _, H3.out, F3.out⟩
  case round =>
    obtain ⟨j, A, c, hj, rfl, hbk, hg, hr, hf⟩ := hrel
    have HB := Lib.hid hbk
    have HG := Lib.hid hg
    have HR0 := Lib.hid hr
    have HF := Lib.hid hf
    have HQ : Hid (seq RS.int (j + 1) S1 = ((seq RS.int j S1).1 ++ [(RS.int (seq RS.int j S1).2).1], (RS.int (seq RS.int j S1).2).2)) := Lib.hid rfl
    have HL := Lib.hid (seq_len RS.int S1 j)
    clear hbk hg hr hf
    by_cases hlt : j < n
    · have x1 : wr.cell? ⟨fb, 1, none⟩ = some (.slice A j c) := HB.out.cell 1
      have HC : Hid (Calls Try.prog 69 #[dpt g] wr.drew fun e w4 => e = .returned (.int .i64 (RS.int (seq RS.int j S1).2).1) ∧ ∃ A' c' w5, w4.cell? ⟨fb, 1, none⟩ = some (.slice A j c) ∧ (w4.alloc (.cells #[.int .i64 (RS.int (seq RS.int j S1).2).1] 2)).cell? ⟨fb, 1, none⟩ = some (.slice A j c) ∧ w5.cell? ⟨fb, 1, none⟩ = some (.slice A j c) ∧ w5.frozen? ⟨fb, 1, none⟩ = false ∧
          (∀ ty, (Builtin.append_ #[97, 97] ty #[.slice A j c, .slice (some ⟨w4.heap.size, 0, none⟩) 1 1]).run Try.prog (w4.alloc (.cells #[.int .i64 (RS.int (seq RS.int j S1).2).1] 2)) = .ok (.slice A' (j + 1) c') w5) ∧
          Blk w5 fb 99 #[.slice A1 n1 c1, .slice A j c] ∧ Grow b 2 1 intG w5 (.slice A' (j + 1) c') (seq RS.int (j + 1) S1).1 ∧ DAt w5 g (seq RS.int (j + 1) S1).2 ∧ Fr (FB g fb) w2 w5) := by
        refine Lib.hid ((dint_any g (seq RS.int j S1).2 wr.drew (HR0.out.keep ((Fr.refl _ _).drew))).mono ?_)
        rintro e w4 ⟨rfl, h4, f4⟩
        refine ⟨rfl, ?_⟩
        have hg4 := HG.out.keep intG_elem (((Fr.refl (DFt g) wr).drew).trans f4 fun _ _ h => h) (fun k hk => by unfold DFt at hk; omega)
        have hb4 : Blk w4 fb 99 #[.slice A1 n1 c1, .slice A j c] := HB.out.of (f4.block fb HB.out.lt fun e => by unfold DFt at e; omega)
        have hel : intG (fun x => wr.heap.size ≤ x) w4 (RS.int (seq RS.int j S1).2).1 [.int .i64 (RS.int (seq RS.int j S1).2).1] := ⟨rfl, int_bd _⟩
        have hbw : b ≤ wr.heap.size := by have := HF.out.size; rw [SB.out] at this; exact this
        obtain ⟨A', c', w5, hap, hg5, f5, hlt5⟩ := hg4.more intG_elem (w0 := wr) hbw f4.size (fun x hx => (HG.out.lt x hx).2) 97 Try.underlying97 (.int .i64 0) info2 rfl (by omega) _ [.int .i64 (RS.int (seq RS.int j S1).2).1] rfl (by simp [Value.oneCell']) hel (by rw [HL.out]; omega) (by rw [HL.out]; unfold maxLen; omega)
        rw [HL.out] at hap hg5
        have hb5 : Blk w5 fb 99 #[.slice A1 n1 c1, .slice A j c] := hb4.of (f5.block fb hb4.lt fun hx => by have := (HG.out.lt fb hx).1; omega)
        refine ⟨A', c', w5, hb4.cell 1, (hb4.of (((Fr.refl No w4).alloc _).block fb hb4.lt id)).cell 1, hb5.cell 1, hb5.frozen 1, hap, hb5, by rw [HQ.out]; exact hg5, by rw [HQ.out]; exact h4.of (f5.block g h4.lt fun hx => by have := (HG.out.lt g hx).1; omega), ?_⟩
        exact (HF.out.trans ((((Fr.refl (FB g fb) wr).drew).trans f4 fun k _ hk => .inl (by unfold DFt at hk; exact hk.symm))) fun _ _ h => h).trans f5 fun x hlx hx => by have := (HG.out.lt x hx).1; have := SB.out; omega
      unfold dpt at HC
      generalize (RS.int (seq RS.int j S1).2).1 = xv at *
      go_upto_region 6 with fail
      go_region_law (first
        | (refine step_add rfl _ _ _ _ rfl _ _ rfl rfl (HAP.out _) ?_)
        | (go_simp; go_at_call 69; refine HC.out.mono ?_; rintro e w4 ⟨rfl, A', c', w5, x4, x5, y1, z1, hap, hB, hG, hR, hF⟩; have HAP := Lib.hid hap; have HB5 := Lib.hid hB; have HG5 := Lib.hid hG; have HR5 := Lib.hid hR; have HF5 := Lib.hid hF; clear hap hB hG hR hF))
      all_goals
        go_wp2
        go_roundw
        case rel => exact ⟨j + 1, A', c', by omega, by go_num, HB5.out.set_ 1 _, HG5.out.keep intG_elem (Fr.set0 fb _ 1 _) (fun k hk => by have : k = fb := hk; omega), HR5.out.of (Below.heap_setCell _ _ _ _ (by show g ≠ fb; omega)), (HF5.out.setCell (p := ⟨fb, 1, none⟩) (fun _ => .inr rfl) _)⟩
        case measure => simp [intOf]; omega
    · obtain rfl : j = n := by omega
      have hbx : Blk wr gr 99 #[.slice none 0 0, .slice none 0 0] := X2.out.of (HF.out.block gr X2.out.lt fun hk => by unfold FB at hk; omega)
      have e1 : wr.cell? ⟨g, 1, none⟩ = some (.int .i64 (seq RS.int j S1).2.fault) := HR0.out.blk.cell 1
      have x0 : wr.cell? ⟨fb, 0, none⟩ = some (.slice A1 n1 c1) := HB.out.cell 0
      have x1 : wr.cell? ⟨fb, 1, none⟩ = some (.slice A j c) := HB.out.cell 1
      have z0 : wr.cell? ⟨gr, 0, none⟩ = some (.slice none 0 0) := hbx.cell 0
      have z1 : wr.cell? ⟨gr, 1, none⟩ = some (.slice none 0 0) := hbx.cell 1
      have y0 := hbx.frozen 0
      have y1 := hbx.frozen 1
      have hrd : RowE (fun k => gr < k ∧ k < fb) wr 1 strE (.slice A1 n1 c1) S.texts.1 := R2.out.of (fun k hk => HF.out.block k (by rw [SB.out]; omega) fun e => by unfold FB at e; omega) fun _ _ h => h
      have hfin : ∀ u0 u1, DAt ((wr.setCell ⟨gr, 0, none⟩ u0).setCell ⟨gr, 1, none⟩ u1) g (seq RS.int j S1).2 ∧ Fr (DFt g) w ((wr.setCell ⟨gr, 0, none⟩ u0).setCell ⟨gr, 1, none⟩ u1) ∧
          (∀ k, gr < k → ((wr.setCell ⟨gr, 0, none⟩ u0).setCell ⟨gr, 1, none⟩ u1).heap[k]? = wr.heap[k]?) := by
        intro u0 u1
        have hset : ∀ k, k ≠ gr → ((wr.setCell ⟨gr, 0, none⟩ u0).setCell ⟨gr, 1, none⟩ u1).heap[k]? = wr.heap[k]? := fun k hk => by
          rw [Below.heap_setCell _ _ _ k hk, Below.heap_setCell _ _ _ k hk]
        refine ⟨HR0.out.of (hset g (by omega)), ?_, fun k hk => hset k (by omega)⟩
        have hnew : ¬ gr < w.heap.size := by rw [GR.out]; omega
        have hw : Fr (DFt g) w wr := F2.out.trans HF.out fun k hk hk' => by
          rcases hk' with e | e
          · exact e.symm
          · have := GR.out; omega
        exact (hw.setCell (p := ⟨gr, 0, none⟩) (fun h => absurd h hnew) _).setCell (p := ⟨gr, 1, none⟩) (fun h => absurd h hnew) _
      have HFIN := Lib.hid hfin
      have HRD := Lib.hid hrd
      have hkw : ∀ k, gr < k → w.heap.size ≤ k := fun k hk => by have := GR.out; omega
      have HKW := Lib.hid hkw
      clear hbx hrd hfin hkw
      by_cases hz : (seq RS.int j S1).2.fault = 0
      · rw [hz] at e1
        have hrm := HG.out.row intG_elem (by rw [HL.out]; unfold maxLen; omega)
        have HRM := Lib.hid hrm
        have HE : Hid (S.fact = (⟨S.texts.1, (seq RS.int j S1).1⟩, (seq RS.int j S1).2)) := Lib.hid (by rw [HVf.out, HV.out, if_pos hz, if_pos hz])
        clear hz hrm
        go_wp2
        refine bodyPost_ret (v := .agg #[.slice A1 n1 c1, .slice A j c]) (by simp [results, Try.results75, go_sem, z0, z1]) rfl ?_
        obtain ⟨q1, q2, q3⟩ := HFIN.out (.slice A1 n1 c1) (.slice A j c)
        exact ⟨_, _, rfl, by rw [HE.out]; exact q1, q2, by rw [HE.out]; exact (HRD.out.of (fun k hk => q3 k hk.1) fun _ _ h => h).mono fun k hk => HKW.out k hk.1,
          by rw [HE.out]; exact (HRM.out.of (fun k hk => q3 k (by omega)) fun _ _ h => h).mono fun k hk => HKW.out k (by omega)⟩
      · have hd : ((seq RS.int j S1).2.fault != 0) = true := by simpa using hz
        have HE : Hid (S.fact = (FactP.zero, (seq RS.int j S1).2)) := Lib.hid (by rw [HVf.out, HV.out, if_neg (by exact hz)])
        clear hz
        go_wp2
        refine bodyPost_ret (v := .agg #[.slice none 0 0, .slice none 0 0]) (by simp [results, Try.results75, go_sem, z0, z1]) rfl ?_
        obtain ⟨q1, q2, q3⟩ := HFIN.out (.slice none 0 0) (.slice none 0 0)
        exact ⟨_, _, rfl, by rw [HE.out]; exact q1, q2, by rw [HE.out]; exact RowE.nil _ _ _ _ _, by rw [HE.out]; exact RowE.nil _ _ _ _ _⟩
end Go.Proofs.Ytjhjcdfhfjeogaa
