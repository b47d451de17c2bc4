/- Texts picked, copied; a key asked for. -/
import Derived.Test.YtlpglijikmnopaaGreatDoorUGL
namespace Go.Proofs.YtlpglijikmnopaaGreatDoor
open Go.RowKit Go.Maps Go.Sort
set_option linter.unusedVariables false

def ownT (b : Nat) (w : World) (v : Value) (l : List Tx) : Prop := w.ownsRow b 9 1 v l.length (l.map sv)
theorem ownT.keep {b : Nat} {w w' : World} {v : Value} {l : List Tx} (h : ownT b w v l) (f : Fr No w w') : ownT b w' v l := own_of h fun k hk => f.block k (h.lt k hk).2 id
theorem ownT.row {b : Nat} {w : World} {v : Value} {l : List Tx} (h : ownT b w v l) (hl : ∀ x ∈ l, x.length ≤ maxLen) : RowE (fun k => b ≤ k) w 1 (strG (fun k => b ≤ k) w) v l := by
  rcases h.2 with ⟨e1, h0⟩ | ⟨g, cap, cur, e1, hg, hh, hn, hcm, hcs, htk⟩
  · exact ⟨none, 0, by rw [h0]; exact e1, by omega, by decide, fun h => by omega⟩
  · refine ⟨some ⟨g, 0, none⟩, cap, e1, hn, hcm, fun _ => ⟨g, 0, rfl, hg, ?_, fun j hj => ?_⟩⟩
    · rcases Nat.lt_or_ge g w.heap.size with h3 | h3
      · exact h3
      · rw [Array.getElem?_eq_none h3] at hh; cases hh
    · have hx := hl l[j] (List.getElem_mem _)
      refine ⟨[sv l[j]], rfl, fun i hi => ?_, ?_⟩
      · obtain rfl : i = 0 := by omega
        rw [cell_of_row w g _ cur 9 (0, 0) hh]
        have h1 : (cur.toList.take (l.length * 1))[j]? = (l.map sv)[j]? := by rw [htk]
        rw [List.getElem?_take, if_pos (by omega), Array.getElem?_toList] at h1
        have h2 : 0 + j * 1 + 0 = j := by omega
        rw [h2, h1, List.getElem?_map, List.getElem?_eq_getElem hj]
        rfl
      · exact ⟨rfl, hx⟩
theorem app_text {b : Nat} {w0 w : World} {v u : Value} {l m : List Tx} {K : Nat → Prop} (hf : Fr No w0 w) (hb : b = w0.heap.size) (ho : ownT b w v l) (hr : RowE K w 1 (strG K w) u m) (hl : l.length ≤ 4000000) (hm : m.length ≤ 4000000) :
    ∃ v' w', (∀ ty, (Builtin.append_ #[42, 42] ty #[v, u]).run Tryz.prog w = .ok v' w') ∧ ownT b w' v' (l ++ m) ∧ Fr No w0 w' := by
  obtain ⟨A, c, rfl, hmc, hcm, hrow⟩ := hr
  have hbw : b ≤ w.heap.size := by rw [hb]; exact hf.size
  by_cases h0 : 0 < m.length
  · obtain ⟨g, off, rfl, hK, hg, hel⟩ := hrow h0
    obtain ⟨i0, hi, hz0, hz1, hz2⟩ := info_parts (show (Tryz.prog.info? 9).map (fun i => (i.zero, i.size, i.bytes)) = some (some (.string ⟨#[]⟩), 1, 16) by kernel_rfl)
    have hnews : ∀ j u, (m.map sv)[j]? = some u → w.cell? ((⟨g, off, none⟩ : Addr).add j) = some u := by
      intro j u hu
      rw [Addr.add_lit]
      rw [List.getElem?_map] at hu
      have hj : j < m.length := by
        rcases Nat.lt_or_ge j m.length with h | h
        · exact h
        · rw [List.getElem?_eq_none h] at hu; cases hu
      obtain ⟨cs, _, hcs, hE⟩ := hel j hj
      have := hcs 0 (by decide)
      rw [hE.1] at this
      rw [List.getElem?_eq_getElem hj] at hu
      have h2 : off + j * 1 + 0 = off + j := by omega
      rw [h2] at this
      rw [this]
      exact hu
    obtain ⟨v', w', hr, how, hgr, hnil, hat⟩ := run_append_own_at (P := Tryz.prog) w b 42 0 9 i0 (.string ⟨#[]⟩) 1 16 Tryz.underlying42 hi hz0 hz1 hz2 rfl (by decide) v l.length (l.map sv) ho ⟨g, off, none⟩ m.length c (m.map sv) (by simp) hnews (fun u hu => by
      obtain ⟨x, _, rfl⟩ := List.mem_map.1 hu; rfl) (by unfold maxLen; omega) (by omega) hbw
    refine ⟨v', w', fun ty => hr, by unfold ownT; rw [List.length_append, List.map_append]; exact how, hf.grown hgr fun k hk e => ?_⟩
    have := (ho.lt k hk).1
    omega
  · obtain rfl : m = [] := List.eq_nil_of_length_eq_zero (by omega)
    rw [List.append_nil]
    cases A with
    | none =>
      refine ⟨v, w, fun ty => ?_, ho, hf⟩
      obtain ⟨i0, hi, hz0, hz1, hz2⟩ := info_parts (show (Tryz.prog.info? 9).map (fun i => (i.zero, i.size, i.bytes)) = some (some (.string ⟨#[]⟩), 1, 16) by kernel_rfl)
      rcases ho.2 with ⟨rfl, h1⟩ | ⟨g, cap, cur, rfl, _, _, hnc, _⟩
      · simp [Builtin.append_, run_underlying Tryz.underlying42, sizeOf, typeInfo, hi, Builtin.lenOf, Builtin.firstCells]
      · simp [Builtin.append_, run_underlying Tryz.underlying42, sizeOf, typeInfo, hi, Builtin.lenOf, Builtin.firstCells, hnc, storeCells]
    | some ad =>
      obtain ⟨i0, hi, hz0, hz1, hz2⟩ := info_parts (show (Tryz.prog.info? 9).map (fun i => (i.zero, i.size, i.bytes)) = some (some (.string ⟨#[]⟩), 1, 16) by kernel_rfl)
      obtain ⟨v', w', hr, how, hgr, hnil, hat⟩ := run_append_own_at (P := Tryz.prog) w b 42 0 9 i0 (.string ⟨#[]⟩) 1 16 Tryz.underlying42 hi hz0 hz1 hz2 rfl (by decide) v l.length (l.map sv) ho ad 0 c [] rfl (fun j u hu => by simp at hu) (fun u hu => by simp at hu) (by unfold maxLen; omega) (by omega) hbw
      refine ⟨v', w', fun ty => hr, by unfold ownT; rw [List.append_nil] at how; exact how, hf.grown hgr fun k hk e => ?_⟩
      have := (ho.lt k hk).1
      omega
theorem nil42 (c : Nat) (w : World) : (binOp .eql 42 (.slice none 0 c) (.slice none 0 0)).run Tryz.prog w = .ok (.bool true) w := by kernel_rfl
theorem some42 (a : Addr) (n c : Nat) (w : World) : (binOp .eql 42 (.slice (some a) n c) (.slice none 0 0)).run Tryz.prog w = .ok (.bool false) w := by kernel_rfl
theorem info9 : (Tryz.prog.info? 9).map (fun i => (i.zero, i.size, i.bytes)) = some (some (.string ⟨#[]⟩), 1, 16) := by kernel_rfl
def TellsRz (l : List Tx) (w : World) (e : Ending) (w' : World) : Prop := ∃ v, e = .returned v ∧ KRz (fun k => w.heap.size ≤ k) w' v l ∧ Fr No w w'
theorem TellsRz.r {l : List Tx} {w : World} {e : Ending} {w' : World} (h : TellsRz l w e w') : TellsR 1 strG l w e w' := by
  obtain ⟨v, e1, h1, h2⟩ := h
  exact ⟨v, e1, h1.1, h2⟩
/-- Texts at some places. -/
theorem textsZ_any {K K2 : Nat → Prop} {l : List Tx} {d : List Nat} {v dv : Value} (w : World) (h : KR K w v l) (hd : RowE K2 w 1 (natG K2 w) dv d) (hb : ∀ i ∈ d, i < l.length) (hdn : d.length ≤ 1000) : Calls Tryz.prog 51 #[v, dv] w (TellsRz (namesL l d) w) := by
  obtain ⟨A, c, rfl, hlc, hcm⟩ := h.form
  obtain ⟨A2, m, c2, rfl, hm⟩ := row_form hd
  obtain ⟨n, hn⟩ : ∃ n, l.length = n := ⟨_, rfl⟩
  rw [hn] at hlc h hb ⊢
  obtain ⟨B, hB⟩ : ∃ B, w.heap.size = B := ⟨_, rfl⟩
  have HB := Lib.hid hB
  have HN := Lib.hid hn
  have HM := Lib.hid hm
  have HBD := Lib.hid hb
  obtain ⟨w1, hw1⟩ : ∃ w1, w.alloc (.cells #[] 9) = w1 := ⟨_, rfl⟩
  have HF1 : Hid (Fr No w w1) := Lib.hid (by rw [← hw1]; exact (Fr.refl No w).alloc _)
  have HG1 : Hid (Grow B 9 1 strG w1 (.slice (some ⟨B, 0, none⟩) 0 0) (namesL l (d.take 0))) := Lib.hid (by rw [← hw1, ← hB]; exact Grow.empty _ 9 1 strG w (Nat.le_refl _) #[] rfl)
  have HW1 := Lib.hid hw1
  have HL : Hid (∀ w', Fr No w w' → KR K w' (.slice A n c) l) := Lib.hid fun w' f' => h.no f'
  have HD : Hid (∀ w', Fr No w w' → RowE K2 w' 1 (natG K2 w') (.slice A2 m c2) d) := Lib.hid fun w' f' => RowE.at_ natG_elem hd f'
  have hm1 : m ≤ 1000 := by omega
  unfold maxLen at hcm
  clear h hd hn hB hw1 hm hb hdn
  go_enter Tryz.func51, Tryz.ntmps51
  go_upto_region 2 with fail
  rw [HW1.out, HB.out]
  go_wp2_with fail
  go_loopg [5, 7, 11] m (fun g r5 r7 r11 wr => Hid (∃ (j a : Nat) (A3 : Option Addr) (c3 : Nat), r11 = .int .i64 (j : Nat) ∧ j + g = m ∧ r5 = .slice A3 a c3 ∧ a = (namesL l (d.take j)).length ∧ Grow B 9 1 strG wr (.slice A3 a c3) (namesL l (d.take j)) ∧ Fr No w wr))
  case atStart => exact Lib.hid ⟨0, 0, _, _, rfl, by omega, rfl, rfl, HG1.out, HF1.out⟩
  case round =>
  obtain ⟨j, a, A3, c3, rfl, hjm, rfl, ha, hg, hf⟩ := hrel.out
  clear hrel
  have HA := Lib.hid ha
  have HF := Lib.hid hf
  by_cases hj : j < m
  · have hji : (j : Int) < (m : Int) := by omega
    have hjl : j < d.length := by rw [← HM.out]; exact hj
    obtain ⟨A0, c0, e0, hmc, hcm2, hrow2⟩ := HD.out wr hf
    injection e0 with e1 e2 e3
    subst e1 e3
    obtain ⟨g2, o2, rfl, _, hgl, hel⟩ := hrow2 (by omega)
    obtain ⟨cs, hcl, hcs, hE⟩ := hel j hjl
    have hd2 : wr.cell? ⟨g2, o2 + j, none⟩ = some (.int .i64 (d[j] : Nat)) := by have := hcs 0 (by decide); rw [hE] at this; simpa using this
    rw [← HM.out] at hmc
    unfold maxLen at hcm2
    have hstep : namesL l (d.take (j + 1)) = namesL l (d.take j) ++ (match l[d[j]]? with | some t => [t] | none => []) := namesL_step hjl
    have ha6 : a ≤ 1000 := by rw [ha]; exact Nat.le_trans (namesL_len _ _) (by rw [List.length_take]; omega)
    have hdn : d[j] < n := HBD.out _ (List.getElem_mem _)
    generalize d[j] = x at *
    have HS := Lib.hid hstep
    clear hstep hcs hel hcl hE ha hf hrow2 e2
    have hdi : (x : Int) < (n : Int) := by omega
    have hdl : x < l.length := by rw [HN.out]; exact hdn
    obtain ⟨g4, o4, rfl, _, hgl4, hd4, hlen4⟩ := (HL.out wr HF.out).at_ hdl
    have HT : Hid (namesL l (d.take (j + 1)) = namesL l (d.take j) ++ [l[x]]) := Lib.hid (by rw [HS.out, List.getElem?_eq_getElem hdl])
    generalize l[x] = t at *
    obtain ⟨A', c', w6, hrun, hg6, hf6, -, -⟩ := Grow.push (bytes := 16) strG_elem hg HB.out.symm HF.out 42 Tryz.underlying42 (.string ⟨#[]⟩) info9 rfl t (sv t) rfl ⟨rfl, hlen4⟩ (by rw [← HA.out]; omega) (by rw [← HA.out]; unfold maxLen; omega)
    rw [← HA.out] at hrun hg6
    have HRUN := Lib.hid hrun
    have HG6 := Lib.hid hg6
    have HF6 := Lib.hid hf6
    clear hrun hg6 hf6 hg hlen4
    go_wp2_with (at_builtin; refine wpList_add rfl _ _ _ _ rfl _ _ _ _ rfl rfl (HRUN.out _) ?_)
    obtain ⟨g1, rfl⟩ : ∃ g1, gk = g1 + 1 := ⟨gk - 1, by omega⟩
    go_roundg g1
    case rel => exact Lib.hid ⟨j + 1, a + 1, A', c', by go_num, by omega, rfl, by rw [HT.out, List.length_append, ← HA.out]; rfl, by rw [HT.out]; exact HG6.out, HF6.out⟩
    all_goals omega
  · have hji : (m : Int) ≤ (j : Int) := by omega
    have HT : Hid (d.take j = d) := Lib.hid (List.take_of_length_le (by rw [← HM.out]; omega))
    have HG := Lib.hid hg
    clear hg hf ha
    go_wp2_with fail
    go_ret
    have h0 := HG.out
    rw [HT.out] at h0
    have h1 := h0.row strG_elem
    rw [← HB.out] at h1
    obtain ⟨K0, xs, ho, -⟩ := h0
    exact ⟨_, rfl, ⟨h1, own_uv ho⟩, HF.out⟩
theorem texts_any {K K2 : Nat → Prop} {l : List Tx} {d : List Nat} {v dv : Value} (w : World) (h : KR K w v l) (hd : RowE K2 w 1 (natG K2 w) dv d) (hb : ∀ i ∈ d, i < l.length) (hdn : d.length ≤ 1000) : Calls Tryz.prog 51 #[v, dv] w (TellsR 1 strG (namesL l d) w) := (textsZ_any w h hd hb hdn).mono fun _ _ h => h.r
/-- slices.Clone of texts. -/
theorem cloneZ_any {K : Nat → Prop} {l : List Tx} {v : Value} (w : World) (h : KR K w v l) (hl : l.length ≤ 4000000) : Calls Tryz.prog 57 #[v] w (TellsRz l w) := by
  have h' := h
  obtain ⟨A, c, rfl, h1, h2, hel⟩ := h
  cases A with
  | none =>
    have h0 : l.length = 0 := by
      rcases Nat.eq_zero_or_pos l.length with e | e
      · exact e
      · obtain ⟨g, off, e1, _⟩ := hel e; cases e1
    obtain rfl := List.eq_nil_of_length_eq_zero h0
    have hq := nil42 c
    clear hel h'
    go_enter Tryz.func57, Tryz.ntmps57
    go_wp2_with fail
    go_ret
    exact ⟨_, rfl, ⟨RowE.nil _ _ _ _, Uv.nil _ _ _⟩, Fr.refl _ _⟩
  | some a =>
    obtain ⟨B, hB⟩ : ∃ B, w.heap.size = B := ⟨_, rfl⟩
    obtain ⟨w1, hw1⟩ : ∃ w1, w.alloc (.cells #[] 9) = w1 := ⟨_, rfl⟩
    have f1 : Fr No w w1 := by rw [← hw1]; exact (Fr.refl No w).alloc _
    have ho : ownT B w1 (.slice (some ⟨B, 0, none⟩) 0 0) [] := by
      rw [← hw1, ← hB]
      exact ⟨by simp, .inr ⟨w.heap.size, 0, #[], rfl, Nat.le_refl _, heap_alloc_new w _, Nat.le_refl _, by decide, by simp, by simp⟩⟩
    obtain ⟨v', w', hrun, how, hf'⟩ := app_text f1 hB.symm ho (h'.no f1) (by simp) hl
    rw [List.nil_append] at how
    have hlen : ∀ x ∈ l, x.length ≤ maxLen := fun x hx => by
      obtain ⟨j, hj, rfl⟩ := List.getElem_of_mem hx
      obtain ⟨g, off, _, _, _, _, h5⟩ := h'.at_ hj
      exact h5
    obtain ⟨A', c', rfl⟩ : ∃ A c, v' = .slice A l.length c := by
      obtain ⟨A, c, e, _⟩ := how.row hlen
      exact ⟨A, c, e⟩
    have HO := Lib.hid (how.row hlen)
    have HZ := Lib.hid (own_uv how)
    have HR := Lib.hid hrun
    have HF := Lib.hid hf'
    have HW1 := Lib.hid hw1
    have HB := Lib.hid hB
    obtain ⟨n, hn⟩ : ∃ n, l.length = n := ⟨_, rfl⟩
    have HN := Lib.hid hn
    rw [hn] at h1 hl HR HO HZ ⊢
    unfold maxLen at h2
    clear h' hel hB hw1 f1 ho hrun how hf' hlen hn
    have hq := some42 a n c
    go_enter Tryz.func57, Tryz.ntmps57
    go_upto_region 3 with fail
    clear hq
    go_wp2_with (at_builtin; rw [HW1.out, HB.out]; refine wpList_add rfl _ _ _ _ rfl _ _ _ _ rfl rfl (HR.out _) ?_)
    go_ret
    exact ⟨_, rfl, ⟨by rw [HB.out]; exact HO.out, HZ.out⟩, HF.out⟩
theorem cloneS_any {K : Nat → Prop} {l : List Tx} {v : Value} (w : World) (h : KR K w v l) (hl : l.length ≤ 4000000) : Calls Tryz.prog 57 #[v] w (TellsR 1 strG l w) := (cloneZ_any w h hl).mono fun _ _ h => h.r
/-- Has a fact all dimensions of a list that rises? -/
def lastOk (d : List Nat) (n : Nat) : Bool := match d.getLast? with | none => true | some x => decide (x < n)
theorem lastOk_snoc {d : List Nat} {n : Nat} (h : 0 < d.length) : lastOk d n = decide (d[d.length - 1] < n) := by
  unfold lastOk
  rw [List.getLast?_eq_getElem?, List.getElem?_eq_getElem (by omega)]
set_option maxHeartbeats 1000000 in
theorem hasAll_any {K K2 : Nat → Prop} {l : List Tx} {d : List Nat} {v mv dv : Value} (w : World) (h : KR K w v l) (hd : RowE K2 w 1 (natG K2 w) dv d) (hdn : d.length ≤ 1000) : Calls Tryz.prog 71 #[.agg #[v, mv], dv] w (TellsB (lastOk d l.length) w) := by
  obtain ⟨A, c, rfl, hlc, hcm⟩ := h.form
  obtain ⟨A2, m, c2, rfl, hm⟩ := row_form hd
  obtain ⟨n, hn⟩ : ∃ n, l.length = n := ⟨_, rfl⟩
  rw [hn] at hlc h ⊢
  obtain ⟨B, hB⟩ : ∃ B, w.heap.size = B := ⟨_, rfl⟩
  obtain ⟨w1, hw1⟩ : ∃ w1, w.alloc (.cells #[.slice A n c, mv] 63) = w1 := ⟨_, rfl⟩
  have f1 : Fr No w w1 := by rw [← hw1]; exact (Fr.refl No w).alloc _
  have hb : Blk w1 B 63 #[.slice A n c, mv] := by rw [← hw1, ← hB]; exact Blk.new w 63 _
  have c0 := hb.cell 0
  have HF := Lib.hid f1
  have HW1 := Lib.hid hw1
  have HB := Lib.hid hB
  unfold maxLen at hcm
  by_cases h0 : 0 < m
  · have hml : 0 < d.length := by omega
    obtain ⟨A0, c0', e0, hmc, hcm2, hrow2⟩ := RowE.at_ natG_elem hd f1
    injection e0 with e1 e2 e3
    subst e1 e3
    obtain ⟨g2, o2, rfl, _, hgl, hel⟩ := hrow2 hml
    obtain ⟨cs, hcl, hcs, hE⟩ := hel (d.length - 1) (by omega)
    have hv : lastOk d n = decide (d[d.length - 1] < n) := lastOk_snoc hml
    obtain ⟨x, hx0⟩ : ∃ x, d[d.length - 1] = x := ⟨_, rfl⟩
    rw [hx0] at hv hE
    have hd2 : w1.cell? ⟨g2, o2 + (m - 1), none⟩ = some (.int .i64 (x : Nat)) := by
      have := hcs 0 (by decide)
      rw [hE] at this
      simp only [Nat.mul_one, Nat.add_zero] at this
      rw [hm]
      exact this
    clear hx0
    have HV : Hid (lastOk d n = decide ((x : Int) < (n : Int))) := Lib.hid (by rw [hv, Bool.eq_iff_iff]; simp)
    have hmm : ((m : Int) == 0) = false := by simp; omega
    have em : IntKind.i64.wrap ((m : Int) - 1) = ((m - 1 : Nat) : Int) := by rw [IntWalk.i64_in _ (by omega)]; omega
    have hm1 : m ≤ 1000 := by omega
    rw [← hm] at hmc
    unfold maxLen at hcm2
    obtain ⟨q, hq⟩ : ∃ q, m - 1 = q := ⟨_, rfl⟩
    rw [hq] at em hd2
    have hqm : q < m := by omega
    rw [HV.out]
    clear h hd hn hm hdn f1 hw1 hB hb hcs hel hE hrow2 e2 hv hq hcl
    go_enter Tryz.func71, Tryz.ntmps71
    go_upto_region 1 with fail
    rw [HW1.out, HB.out]
    by_cases hxn : x < n
    · have hx : (x : Int) < (n : Int) := by omega
      have hx2 : decide ((x : Int) < (n : Int)) = true := decide_eq_true hx
      go_quiet (fail)
      go_wp2
      go_ret
      exact ⟨by rw [decide_eq_true hx]; rfl, HF.out.drewN _⟩
    · have hx : (n : Int) ≤ (x : Int) := by omega
      have hx2 : decide ((x : Int) < (n : Int)) = false := decide_eq_false (by omega)
      go_quiet (fail)
      go_wp2
      go_ret
      exact ⟨by rw [decide_eq_false (by omega)]; rfl, HF.out.drewN _⟩
  · obtain rfl : m = 0 := by omega
    obtain rfl : d = [] := List.eq_nil_of_length_eq_zero hm.symm
    have hv : lastOk [] n = true := rfl
    rw [hv]
    clear h hd hn hm hdn f1 hw1 hB hb hv
    go_enter Tryz.func71, Tryz.ntmps71
    go_upto_region 1 with fail
    rw [HW1.out, HB.out]
    go_quiet (fail)
    go_wp2
    go_ret
    exact ⟨rfl, HF.out.drewN _⟩
end Go.Proofs.YtlpglijikmnopaaGreatDoor
