/- Facts that may be asked of; facts appended. -/
import Derived.Test.YtlpglijikmnopaaGreatDoorUGQ
import Derived.Test.YtlpglijikmnopaaGreatDoorUM2
namespace Go.Proofs.YtlpglijikmnopaaGreatDoor
open Go.RowKit Go.Maps Go.Sort Go.Proofs
set_option linter.unusedVariables false

theorem info63 : (Tryz.prog.info? 63).map (fun i => (i.zero, i.size, i.bytes)) = some (some (.agg #[.slice none 0 0, .slice none 0 0]), 2, 48) := by kernel_rfl
theorem fcG_one : ∀ K w x cs, fcG K w x cs → ∀ u ∈ cs, u.oneCell' = true := by
  rintro K w x cs ⟨kv, mv, rfl, h1, h2⟩ u hu
  simp only [List.mem_cons, List.not_mem_nil, or_false] at hu
  rcases hu with rfl | rfl
  · exact h1.one
  · obtain ⟨A, c, rfl, _⟩ := IR.form h2; rfl
theorem RowE.cellsL2 {α : Type} {E : EG α} {K : Nat → Prop} {w : World} {size : Nat} {v : Value} {l : List α} (h : RowE K w size (E K w) v l) (hl : 0 < l.length) (hs : 0 < size) :
    ∃ (g off c : Nat) (xs : List Value), v = .slice (some ⟨g, off, none⟩) l.length c ∧ K g ∧ g < w.heap.size ∧ xs.length = l.length * size ∧ (∀ i u, xs[i]? = some u → w.cell? ⟨g, off + i, none⟩ = some u) ∧ ∀ j (hj : j < l.length), ∃ cs : List Value, cs.length = size ∧ (∀ i, i < size → xs[j * size + i]? = cs[i]?) ∧ E K w l[j] cs := by
  obtain ⟨A, c, e, h1, h2, h3⟩ := h
  obtain ⟨g, off, rfl, hg, hgl, hel⟩ := h3 hl
  refine ⟨g, off, c, (List.range (l.length * size)).map fun i => (w.cell? ⟨g, off + i, none⟩).getD undef, e, hg, hgl, by simp, fun i u hu => ?_, fun j hj => ?_⟩
  · rw [List.getElem?_map] at hu
    have hi : i < l.length * size := by
      rcases Nat.lt_or_ge i (l.length * size) with h | h
      · exact h
      · rw [List.getElem?_eq_none (by simpa using h)] at hu; cases hu
    rw [List.getElem?_range hi] at hu
    have hd : i / size < l.length := Nat.div_lt_of_lt_mul (by rw [Nat.mul_comm]; exact hi)
    obtain ⟨cs, hcl, hcs, _⟩ := hel (i / size) hd
    have hm := Nat.mod_lt i hs
    have h4 := hcs (i % size) hm
    have e2 : i / size * size + i % size = i := by rw [Nat.mul_comm]; exact Nat.div_add_mod i size
    have e3 : off + i / size * size + i % size = off + i := by omega
    rw [e3] at h4
    rw [Option.map_some] at hu
    rw [h4, List.getElem?_eq_getElem (by omega)] at hu ⊢
    simpa using hu
  · obtain ⟨cs, hcl, hcs, hE⟩ := hel j hj
    refine ⟨cs, hcl, fun i hi => ?_, hE⟩
    have hlt : j * size + i < l.length * size := by
      have := Nat.mul_le_mul_right size (show j + 1 ≤ l.length by omega)
      rw [Nat.add_mul, Nat.one_mul] at this
      omega
    rw [List.getElem?_map, List.getElem?_range hlt]
    have h4 := hcs i hi
    rw [Nat.add_assoc] at h4
    show some ((w.cell? ⟨g, off + (j * size + i), none⟩).getD undef) = _
    rw [h4, List.getElem?_eq_getElem (by omega)]
    rfl
/-- A list of facts appended to one of one's own. -/
theorem app_facts {X : Nat → Prop} {b : Nat} {w : World} {v u : Value} {l m : List Fc} {K2 : Nat → Prop} (h : GrX X b 63 2 fcG w v l) (hb : b ≤ w.heap.size) (h2 : FR K2 w u m) (hK : ∀ k, K2 k → X k ∧ v.ownBlock ≠ some k) (hl : l.length ≤ 10000000) (hm : m.length ≤ 10000000) :
    ∃ v' w', (∀ ty, (Builtin.append_ #[22, 22] ty #[v, u]).run Tryz.prog w = .ok v' w') ∧ GrX X b 63 2 fcG w' v' (l ++ m) ∧ Fr (fun k => v.ownBlock = some k) w w' ∧ ∀ k, v'.ownBlock = some k → v.ownBlock = some k ∨ w.heap.size ≤ k := by
  obtain ⟨i0, hi, hz0, hz1, hz2⟩ := info_parts info63
  by_cases h0 : 0 < m.length
  · obtain ⟨g, off, c, xs2, rfl, hg, hgl, hxl, hxs, hel2⟩ := RowE.cellsL2 h2 h0 (by decide)
    obtain ⟨K, xs, ho, hel, hKK⟩ := h
    have hone : ∀ u ∈ xs2, u.oneCell' = true := by
      intro u hu
      obtain ⟨i, hi, e⟩ := List.getElem_of_mem hu
      have hd : i / 2 < m.length := by rw [hxl] at hi; omega
      obtain ⟨cs, hcl, hcs, hE⟩ := hel2 (i / 2) hd
      have h4 := hcs (i % 2) (Nat.mod_lt _ (by decide))
      have e2 : i / 2 * 2 + i % 2 = i := by omega
      rw [e2, List.getElem?_eq_getElem hi, e] at h4
      exact fcG_one _ _ _ _ hE u (List.mem_of_getElem? h4.symm)
    obtain ⟨v', w', hr, how, hgr, hnil, hat⟩ := run_append_own_at (P := Tryz.prog) w b 22 0 63 i0 _ 2 48 Tryz.underlying22 hi hz0 hz1 hz2 rfl (by decide) v l.length xs ho ⟨g, off, none⟩ m.length c xs2 hxl (fun j u hu => by rw [Addr.add_lit]; exact hxs j u hu) hone (by unfold maxLen; omega) (by omega) hb
    have hfr : Fr (fun k => v.ownBlock = some k) w w' := (Fr.refl _ w).grown hgr fun k hk _ => hk
    refine ⟨v', w', fun ty => hr, ⟨fun k => K k ∨ (K2 k ∧ k < w.heap.size), xs ++ xs2, by rw [List.length_append]; exact how, fun j hj => ?_, fun k hk => ?_⟩, hfr, fun k hk => ?_⟩
    · rw [List.length_append] at hj
      have hx1 : xs.length = l.length * 2 := ho.1
      by_cases hjl : j < l.length
      · obtain ⟨cs, h1, h3, h4⟩ := hel j hjl
        refine ⟨cs, h1, fun i hi => ?_, ?_⟩
        · rw [List.getElem?_append_left (by omega)]; exact h3 i hi
        · rw [List.getElem_append_left hjl]
          exact fcG_elem.mono _ _ _ _ _ _ h4 fun k hk hlt => ⟨.inl hk, hfr.block k hlt (hKK k hk).2.2⟩
      · obtain ⟨cs, h1, h3, h4⟩ := hel2 (j - l.length) (by omega)
        refine ⟨cs, h1, fun i hi => ?_, ?_⟩
        · rw [List.getElem?_append_right (by omega), show j * 2 + i - xs.length = (j - l.length) * 2 + i by omega]; exact h3 i hi
        · rw [List.getElem_append_right (by omega)]
          exact fcG_elem.mono _ _ _ _ _ _ h4 fun k hk hlt => ⟨.inr ⟨hk, hlt⟩, hfr.block k hlt (hK k hk).2⟩
    · have hown : ∀ k, v'.ownBlock = some k → v.ownBlock = some k ∨ w.heap.size ≤ k := fun k hk => by
        rcases hat with e1 | e1
        · rw [e1] at hk; exact .inl hk
        · rw [e1] at hk; injection hk with hk; exact .inr (by omega)
      rcases hk with hk | ⟨hk, hlt⟩
      · obtain ⟨h1, h3, h4⟩ := hKK k hk
        refine ⟨h1, Nat.lt_of_lt_of_le h3 hfr.size, fun e => ?_⟩
        rcases hown k e with h | h
        · exact h4 h
        · omega
      · refine ⟨(hK k hk).1, Nat.lt_of_lt_of_le hlt hfr.size, fun e => ?_⟩
        rcases hown k e with h | h
        · exact (hK k hk).2 h
        · omega
    · rcases hat with e1 | e1
      · rw [e1] at hk; exact .inl hk
      · rw [e1] at hk; injection hk with hk; exact .inr (by omega)
  · obtain rfl : m = [] := List.eq_nil_of_length_eq_zero (by omega)
    rw [List.append_nil]
    obtain ⟨A, c, rfl, _, _, _⟩ := h2
    have h' := h
    obtain ⟨K, xs, ho, hel, hKK⟩ := h
    cases A with
    | none =>
      refine ⟨v, w, fun ty => ?_, h', Fr.refl _ _, fun k hk => .inl hk⟩
      rcases ho.2 with ⟨rfl, h1⟩ | ⟨g, cap, cur, rfl, _, _, hnc, _⟩
      · simp [Builtin.append_, run_underlying Tryz.underlying22, sizeOf, typeInfo, hi, Builtin.lenOf, Builtin.firstCells]
      · simp [Builtin.append_, run_underlying Tryz.underlying22, sizeOf, typeInfo, hi, Builtin.lenOf, Builtin.firstCells, hnc, storeCells]
    | some ad =>
      obtain ⟨v', w', hr, how, hgr, hnil, hat⟩ := run_append_own_at (P := Tryz.prog) w b 22 0 63 i0 _ 2 48 Tryz.underlying22 hi hz0 hz1 hz2 rfl (by decide) v l.length xs ho ad 0 c [] rfl (fun j u hu => by simp at hu) (fun u hu => by simp at hu) (by unfold maxLen; omega) (by omega) hb
      have hfr : Fr (fun k => v.ownBlock = some k) w w' := (Fr.refl _ w).grown hgr fun k hk _ => hk
      have hown : ∀ k, v'.ownBlock = some k → v.ownBlock = some k ∨ w.heap.size ≤ k := fun k hk => by
        rcases hat with e1 | e1
        · rw [e1] at hk; exact .inl hk
        · rw [e1] at hk; injection hk with hk; exact .inr (by omega)
      rw [List.append_nil] at how
      refine ⟨v', w', fun ty => hr, ⟨K, xs, how, fun j hj => ?_, fun k hk => ?_⟩, hfr, hown⟩
      · obtain ⟨cs, h1, h3, h4⟩ := hel j hj
        exact ⟨cs, h1, h3, fcG_elem.mono _ _ _ _ _ _ h4 fun k hk hlt => ⟨hk, hfr.block k hlt (hKK k hk).2.2⟩⟩
      · obtain ⟨h1, h3, h4⟩ := hKK k hk
        refine ⟨h1, Nat.lt_of_lt_of_le h3 hfr.size, fun e => ?_⟩
        rcases hown k e with h | h
        · exact h4 h
        · omega

/-- Is it a fact of three to six dimensions, and two measures? -/
def soundF (f : Fc) : Bool := decide (3 ≤ f.dims.length) && decide (f.dims.length ≤ 6) && decide (2 ≤ f.meas.length)
def soundP (fs : List Fc) (j : Nat) : List Fc := (fs.take j).filter soundF
def soundL (fs : List Fc) : List Fc := soundP fs 200
theorem soundP_step {fs : List Fc} {j : Nat} (h : j < fs.length) : soundP fs (j + 1) = soundP fs j ++ (if soundF fs[j] = true then [fs[j]] else []) := by
  unfold soundP
  rw [take_succ h, List.filter_append]
  congr 1
  by_cases h2 : soundF fs[j] = true
  · rw [if_pos h2]; simp [h2]
  · rw [if_neg h2]; simp [h2]
theorem soundP_len (fs : List Fc) (j : Nat) : (soundP fs j).length ≤ j := Nat.le_trans (List.length_filter_le _ _) (by rw [List.length_take]; omega)
theorem soundP_end {fs : List Fc} {j : Nat} (h : j = min fs.length 200) : soundP fs j = soundL fs := by
  unfold soundL soundP
  rcases Nat.le_total fs.length 200 with h2 | h2
  · rw [List.take_of_length_le h2, List.take_of_length_le (by omega)]
  · rw [show j = 200 by omega]
theorem soundL_mem {fs : List Fc} {f : Fc} (h : f ∈ soundL fs) : f ∈ fs ∧ 3 ≤ f.dims.length ∧ f.dims.length ≤ 6 ∧ 2 ≤ f.meas.length := by
  unfold soundL soundP at h
  obtain ⟨h1, h2⟩ := List.mem_filter.1 h
  refine ⟨List.mem_of_mem_take h1, ?_⟩
  unfold soundF at h2
  simp only [Bool.and_eq_true, decide_eq_true_eq] at h2
  exact ⟨h2.1.1, h2.1.2, h2.2⟩
set_option maxRecDepth 100000 in
set_option maxHeartbeats 1000000 in
theorem sound_any {fs : List Fc} {v : Value} (w : World) (h : FR (fun k => k < w.heap.size) w v fs) : Calls Tryz.prog 27 #[v] w (TellsF (soundL fs) w) := by
  obtain ⟨A0, nn, c0, rfl, hn⟩ := row_form h
  obtain ⟨B, hB⟩ : ∃ B, w.heap.size = B := ⟨_, rfl⟩
  rw [hB] at h
  obtain ⟨N, hN⟩ : ∃ N, min nn 200 = N := ⟨_, rfl⟩
  have hcm : nn ≤ 9223372036854775807 := by
    obtain ⟨A', c', e, h1, h2, -⟩ := h
    unfold maxLen at h2
    omega
  have HN := Lib.hid hn
  have HNN := Lib.hid hN
  have HB := Lib.hid hB
  have HF0 : Hid (∀ w', Fr No w w' → FR (fun k => k < B) w' (.slice A0 nn c0) fs) := Lib.hid fun w' f => h.no f
  have hN2 : N ≤ 200 := by omega
  clear h hn hB hN
  go_enter Tryz.func27, Tryz.ntmps27
  go_wp2_with fail
  go_loopg [3, 4] N (fun k r3 r4 wr => Hid (∃ (j a : Nat) (A : Option Addr) (c : Nat), r4 = .int .i64 (j : Nat) ∧ j + k = N ∧ r3 = .slice A a c ∧ a = (soundP fs j).length ∧ GrX (fun k => k < B) B 63 2 fcG wr (.slice A a c) (soundP fs j) ∧ Fr No w wr))
  case atStart => exact Lib.hid ⟨0, 0, _, _, rfl, by omega, rfl, rfl, GrX.nil_ _ _ _ _ _ _, Fr.refl _ _⟩
  case round =>
  obtain ⟨j, a, A, c, rfl, hjk, rfl, ha, hg, hf⟩ := hrel.out
  clear hrel
  have HA := Lib.hid ha
  have HG := Lib.hid hg
  have HF := Lib.hid hf
  clear ha hg hf
  by_cases hj : j < N
  · have hjn : j < nn := by have := HNN.out; omega
    have hji : (j : Int) < (nn : Int) := by omega
    have hj2 : (j : Int) < 200 := by omega
    have hjl : j < fs.length := by have := HN.out; omega
    obtain ⟨g, off, dv, mv, rfl, -, hgl, hc0, hc1, hd, hm⟩ := (HF0.out wr HF.out).at_ hjl
    have HS := Lib.hid (soundP_step hjl)
    have HX : Hid (fcG (fun k => k < B) wr fs[j] [dv, mv]) := Lib.hid ⟨dv, mv, rfl, hd, hm⟩
    obtain ⟨Ad, cd, rfl, -, -⟩ := hd.form
    obtain ⟨Am, cm, rfl, -, -⟩ := hm.form
    clear hd hm hgl
    generalize fs[j] = x at *
    obtain ⟨dl, hdl⟩ : ∃ n, x.dims.length = n := ⟨_, rfl⟩
    obtain ⟨ml, hml⟩ : ∃ n, x.meas.length = n := ⟨_, rfl⟩
    rw [hdl] at hc0 HX
    rw [hml] at hc1 HX
    have HSF : Hid (soundF x = (decide (3 ≤ dl) && decide (dl ≤ 6) && decide (2 ≤ ml))) := Lib.hid (by unfold soundF; rw [hdl, hml])
    clear hdl hml
    by_cases hgood : 3 ≤ dl ∧ dl ≤ 6 ∧ 2 ≤ ml
    · obtain ⟨g1, g2, g3⟩ := hgood
      have i1 : (3 : Int) ≤ (dl : Int) := by omega
      have i2 : (dl : Int) ≤ 6 := by omega
      have i3 : (2 : Int) ≤ (ml : Int) := by omega
      have HT : Hid (soundP fs (j + 1) = soundP fs j ++ [x]) := Lib.hid (by rw [HS.out, if_pos]; rw [HSF.out]; simp [g1, g2, g3])
      have hbw : B ≤ wr.heap.size := by have := HF.out.size; have := HB.out; omega
      have hal : (soundP fs j).length ≤ 200 := Nat.le_trans (soundP_len fs j) (by omega)
      obtain ⟨A2, c2, w2, hrun, hg2, hf2, -⟩ := HG.out.add (bytes := 48) fcG_elem hbw 22 Tryz.underlying22 _ info63 rfl (by decide) x _ rfl (fcG_one _ _ _ _ HX.out) HX.out (fun k hk _ => ⟨hk, fun e => by have := (HG.out.lt k e).1; omega⟩) (by omega) (by unfold maxLen; omega)
      rw [← HA.out] at hrun hg2
      have HRUN := Lib.hid hrun
      have HG2 := Lib.hid hg2
      have HF2 : Hid (Fr No w w2) := Lib.hid (HF.out.trans hf2 fun k hk e => by have := (HG.out.lt k e).1; have := HB.out; omega)
      clear hrun hg2 hf2 hal hbw g1 g2 g3
      go_wp2_with (at_builtin; refine wpList_add rfl _ _ _ _ rfl _ _ _ _ rfl rfl (HRUN.out _) ?_)
      obtain ⟨g1, rfl⟩ : ∃ g1, gk = g1 + 1 := ⟨gk - 1, by omega⟩
      go_roundg g1
      case rel => exact Lib.hid ⟨j + 1, a + 1, A2, c2, by go_num, by omega, rfl, by rw [HT.out, List.length_append, ← HA.out]; rfl, by rw [HT.out]; exact HG2.out, HF2.out⟩
      all_goals omega
    · have HT : Hid (soundP fs (j + 1) = soundP fs j) := Lib.hid (by
        rw [HS.out, if_neg, List.append_nil]
        rw [HSF.out]
        simp
        omega)
      have hcase : (dl < 3) ∨ (3 ≤ dl ∧ 6 < dl) ∨ (3 ≤ dl ∧ dl ≤ 6 ∧ ml < 2) := by omega
      clear hgood HX
      rcases hcase with h1 | ⟨h1, h2⟩ | ⟨h1, h2, h3⟩
      · have i1 : (dl : Int) < 3 := by omega
        go_wp2_with fail
        obtain ⟨g1, rfl⟩ : ∃ g1, gk = g1 + 1 := ⟨gk - 1, by omega⟩
        go_roundg g1
        case rel => exact Lib.hid ⟨j + 1, a, A, c, by go_num, by omega, rfl, by rw [HT.out]; exact HA.out, by rw [HT.out]; exact HG.out, HF.out⟩
        all_goals omega
      · have i1 : (3 : Int) ≤ (dl : Int) := by omega
        have i2 : 6 < (dl : Int) := by omega
        go_wp2_with fail
        obtain ⟨g1, rfl⟩ : ∃ g1, gk = g1 + 1 := ⟨gk - 1, by omega⟩
        go_roundg g1
        case rel => exact Lib.hid ⟨j + 1, a, A, c, by go_num, by omega, rfl, by rw [HT.out]; exact HA.out, by rw [HT.out]; exact HG.out, HF.out⟩
        all_goals omega
      · have i1 : (3 : Int) ≤ (dl : Int) := by omega
        have i2 : (dl : Int) ≤ 6 := by omega
        have i3 : (ml : Int) < 2 := by omega
        go_wp2_with fail
        obtain ⟨g1, rfl⟩ : ∃ g1, gk = g1 + 1 := ⟨gk - 1, by omega⟩
        go_roundg g1
        case rel => exact Lib.hid ⟨j + 1, a, A, c, by go_num, by omega, rfl, by rw [HT.out]; exact HA.out, by rw [HT.out]; exact HG.out, HF.out⟩
        all_goals omega
  · have HT : Hid (soundP fs j = soundL fs) := Lib.hid (soundP_end (by have := HNN.out; have := HN.out; omega))
    have HE : Hid (TellsF (soundL fs) w (.returned (.slice A a c)) wr) := Lib.hid (by
      have h1 := HG.out
      rw [HT.out] at h1
      refine ⟨A, a, c, rfl, by rw [← HT.out]; exact HA.out, ?_, HF.out⟩
      have hX : GrX (fun k => k < wr.heap.size) 0 63 2 fcG wr (.slice A a c) (soundL fs) := by
        obtain ⟨K, xs, ho, hel, hK⟩ := h1
        exact ⟨K, xs, own_base ho (Nat.zero_le _), hel, fun k hk => ⟨(hK k hk).2.1, (hK k hk).2⟩⟩
      exact FR.lt_ (K := fun k => 0 ≤ k) ((hX.grow fun k _ => Nat.zero_le k).row fcG_elem))
    rcases Nat.lt_or_ge j nn with h1 | h1
    · have hji : (j : Int) < (nn : Int) := by omega
      have hj2 : (200 : Int) ≤ (j : Int) := by have := HNN.out; omega
      go_wp2_with fail
      go_ret
      exact HE.out
    · have hji : (nn : Int) ≤ (j : Int) := by omega
      go_wp2_with fail
      go_ret
      exact HE.out
end Go.Proofs.YtlpglijikmnopaaGreatDoor
