/- Names of both. -/
import Derived.Test.YthejnkpnpckmbaaA6
namespace Go.Proofs.Ythejnkpnpckmbaa
open Go.RowKit Go.Maps
set_option linter.unusedVariables false

def namesL (l : List Tx) (d : List Nat) : List Tx := d.filterMap fun i => l[i]?
theorem namesL_step {l : List Tx} {d : List Nat} {j : Nat} (h : j < d.length) : namesL l (d.take (j + 1)) = namesL l (d.take j) ++ (match l[d[j]]? with | some t => [t] | none => []) := by
  rw [take_succ h]
  unfold namesL
  rw [List.filterMap_append]
  congr 1
  cases hx : l[d[j]]? <;> simp [hx]
theorem namesL_len (l : List Tx) (d : List Nat) : (namesL l d).length ≤ d.length := List.length_filterMap_le _ _
theorem listB_len (s : Int) : (listB s).length ≤ 6 := by
  by_cases h : 0 ≤ s ∧ s < 64
  · obtain ⟨k, rfl⟩ := Int.eq_ofNat_of_zero_le h.1
    rw [listB_in (by omega)]
    exact listN_len k 6
  · rw [listB_out (by omega)]; simp

set_option maxRecDepth 100000 in
set_option maxHeartbeats 1000000 in
theorem names_any {K : Nat → Prop} {l : List Tx} {v : Value} (s : Int) (w : World) (h : RowE K w 1 (strG K w) v l) : Calls Try.prog 10 #[v, .int .i64 s] w (TellsR 1 strG (namesL l (listB s)) w) := by
  obtain ⟨A, c, rfl, hlc, hcm, hrow⟩ := h
  obtain ⟨n, hn⟩ : ∃ n, l.length = n := ⟨_, rfl⟩
  rw [hn] at hlc ⊢
  have HROW := Lib.hid hrow
  have HN := Lib.hid hn
  obtain ⟨B, hB⟩ : ∃ B, w.heap.size = B := ⟨_, rfl⟩
  have HB := Lib.hid hB
  unfold maxLen at hcm
  obtain ⟨w1, hw1⟩ : ∃ w1, w.alloc (.cells #[] 9) = w1 := ⟨_, rfl⟩
  have HF1 : Hid (Fr No w w1) := Lib.hid (by rw [← hw1]; exact (Fr.refl No w).alloc _)
  have HG1 : Hid (Grow B 9 1 strG w1 (.slice (some ⟨B, 0, none⟩) 0 0) (namesL l ((listB s).take 0))) := Lib.hid (by rw [← hw1, ← hB]; exact Grow.empty _ 9 1 strG w (Nat.le_refl _) #[] rfl)
  have HW1 := Lib.hid hw1
  obtain ⟨B1, hB1⟩ : ∃ B1, w1.heap.size = B1 := ⟨_, rfl⟩
  have HB1 := Lib.hid hB1
  have HLT : Hid (B < B1) := Lib.hid (by rw [← hB1, ← hw1, ← hB]; simp)
  have HC := Lib.hid (list_any s w1)
  clear hrow hn hB hw1 hB1
  go_enter Try.func10, Try.ntmps10
  go_upto_region 2 with fail
  rw [HW1.out, HB.out]
  go_wp2_with fail
  refine HC.out.mono ?_
  rintro e w2 ⟨v2, rfl, hr2, f2⟩
  obtain ⟨A2, m, c2, rfl, hm⟩ := row_form hr2
  obtain ⟨B2, hB2⟩ : ∃ B2, w2.heap.size = B2 := ⟨_, rfl⟩
  have HM := Lib.hid hm
  have HROW2 : Hid (RowE (fun k => B1 ≤ k ∧ k < B2) w2 1 (natG (fun _ => True) w2) (.slice A2 m c2) (listB s)) := Lib.hid (hr2.mono (fun k hk hkl => ⟨⟨by rw [← HB1.out]; exact hk, by rw [← hB2]; exact hkl⟩, rfl⟩) fun _ _ h => h)
  have HB2 := Lib.hid hB2
  have HF2 := Lib.hid (HF1.out.trans f2 fun _ _ h => h)
  have HG2 := Lib.hid (HG1.out.keep strG_elem f2 fun _ h => h.elim)
  have hm6 : m ≤ 6 := by rw [hm]; exact listB_len s
  have HO2 : Hid (∀ k, (Value.slice (some ⟨B, 0, none⟩) 0 0).ownBlock = some k → k < B1 ∨ B2 ≤ k) := Lib.hid (fun k hk => by simp [Value.ownBlock] at hk; have := HLT.out; omega)
  clear hm hr2 f2 hB2
  go_wp2_with fail
  go_loopg [5, 7, 12] m (fun g r5 r7 r12 wr => Hid (∃ (j a : Nat) (A : Option Addr) (c : Nat), r12 = .int .i64 (j : Nat) ∧ j + g = m ∧ r5 = .slice A a c ∧ a = (namesL l ((listB s).take j)).length ∧ Grow B 9 1 strG wr (.slice A a c) (namesL l ((listB s).take j)) ∧ Fr No w wr ∧ RowE (fun k => B1 ≤ k ∧ k < B2) wr 1 (natG (fun _ => True) wr) (.slice A2 m c2) (listB s) ∧ (∀ k, (Value.slice A a c).ownBlock = some k → k < B1 ∨ B2 ≤ k) ∧ B2 ≤ wr.heap.size))
  case atStart => exact Lib.hid ⟨0, 0, _, _, rfl, by omega, rfl, rfl, HG2.out, HF2.out, HROW2.out, HO2.out, by rw [HB2.out]; exact Nat.le_refl _⟩
  case round =>
  obtain ⟨j, a, A3, c3, rfl, hjm, rfl, ha, hg, hf, hr3, ho3, hws2⟩ := hrel.out
  clear hrel
  have HA := Lib.hid ha
  have HG := Lib.hid hg
  have HF := Lib.hid hf
  have HR3 := Lib.hid hr3
  have HO3 := Lib.hid ho3
  by_cases hj : j < m
  · have hji : (j : Int) < (m : Int) := by omega
    have hjl : j < (listB s).length := by rw [← HM.out]; exact hj
    obtain ⟨A0, c0, e0, hmc, hcm2, hrow2⟩ := hr3
    injection e0 with e1 e2 e3
    subst e1 e3
    obtain ⟨g2, o2, rfl, _, hgl, hel⟩ := hrow2 (by omega)
    obtain ⟨cs, hcl, hcs, hE⟩ := hel j hjl
    have hd2 : wr.cell? ⟨g2, o2 + j, none⟩ = some (.int .i64 ((listB s)[j] : Nat)) := by have := hcs 0 (by decide); rw [hE] at this; simpa using this
    rw [← HM.out] at hmc
    unfold maxLen at hcm2
    have hstep : namesL l ((listB s).take (j + 1)) = namesL l ((listB s).take j) ++ (match l[(listB s)[j]]? with | some t => [t] | none => []) := namesL_step hjl
    have ha6 : a ≤ j := by rw [ha]; exact Nat.le_trans (namesL_len _ _) (by rw [List.length_take]; omega)
    generalize (listB s)[j] = d at *
    have HS := Lib.hid hstep
    clear hstep hcs hel hcl hE ha hf hrow2 e2 ho3
    by_cases hdn : d < n
    · have hdi : (d : Int) < (n : Int) := by omega
      have hdl : d < l.length := by rw [HN.out]; exact hdn
      obtain ⟨g4, o4, rfl, _, hgl4, hel4⟩ := HROW.out (by omega)
      obtain ⟨cs4, _, hcs4, hE4⟩ := hel4 d hdl
      obtain ⟨hE4, hlen4⟩ := hE4
      have hd4 : wr.cell? ⟨g4, o4 + d, none⟩ = some (sv l[d]) := (cell_of_heap (HF.out.block g4 hgl4 id)).trans (by have := hcs4 0 (by decide); rw [hE4] at this; simpa using this)
      have HT : Hid (namesL l ((listB s).take (j + 1)) = namesL l ((listB s).take j) ++ [l[d]]) := Lib.hid (by rw [HS.out, List.getElem?_eq_getElem hdl])
      generalize l[d] = t at *
      obtain ⟨A', c', w6, hrun, hg6, hf6, hfg, ho6⟩ := Grow.push (bytes := 16) strG_elem hg HB.out.symm HF.out 23 Try.underlying23 (.string ⟨#[]⟩) (by kernel_rfl) rfl t (sv t) rfl ⟨rfl, hlen4⟩ (by rw [← HA.out]; omega) (by rw [← HA.out]; unfold maxLen; omega)
      rw [← HA.out] at hrun hg6
      have HRUN := Lib.hid hrun
      have HG6 := Lib.hid hg6
      have HF6 := Lib.hid hf6
      have HR6 : Hid (RowE (fun k => B1 ≤ k ∧ k < B2) w6 1 (natG (fun _ => True) w6) (.slice (some ⟨g2, o2, none⟩) m c2) (listB s)) := Lib.hid (HR3.out.mono (fun k hk hkl => ⟨hk, hfg.block k hkl fun e => by have := HO3.out k e; omega⟩) fun _ _ h => h)
      have hws6 : B2 ≤ w6.heap.size := Nat.le_trans hws2 hfg.size
      have HO6 : Hid (∀ k, (Value.slice A' (a + 1) c').ownBlock = some k → k < B1 ∨ B2 ≤ k) := Lib.hid fun k hk => by
        rw [HA.out] at hk
        rcases ho6 k hk with h | h
        · exact HO3.out k h
        · exact .inr (by omega)
      clear hrun hg6 hf6 hfg ho6 hcs4 hel4 hE4 hlen4 hg
      go_wp2_with (at_builtin; refine wpList_add rfl _ _ _ _ rfl _ _ _ _ rfl rfl (HRUN.out _) ?_)
      obtain ⟨g1, rfl⟩ : ∃ g1, gk = g1 + 1 := ⟨gk - 1, by omega⟩
      go_roundg g1
      case rel => exact Lib.hid ⟨j + 1, a + 1, A', c', by go_num, by omega, rfl, by rw [HT.out, List.length_append, ← HA.out]; rfl, by rw [HT.out]; exact HG6.out, HF6.out, HR6.out, HO6.out, hws6⟩
      all_goals omega
    · have hdi : (n : Int) ≤ (d : Int) := by omega
      have HT : Hid (namesL l ((listB s).take (j + 1)) = namesL l ((listB s).take j)) := Lib.hid (by rw [HS.out, List.getElem?_eq_none (by rw [HN.out]; omega)]; exact List.append_nil _)
      clear hg
      go_wp2_with fail
      obtain ⟨g1, rfl⟩ : ∃ g1, gk = g1 + 1 := ⟨gk - 1, by omega⟩
      go_roundg g1
      case rel => exact Lib.hid ⟨j + 1, a, A3, c3, by go_num, by omega, rfl, by rw [HT.out]; exact HA.out, by rw [HT.out]; exact HG.out, HF.out, HR3.out, HO3.out, hws2⟩
      all_goals omega
  · have hji : (m : Int) ≤ (j : Int) := by omega
    have HT : Hid ((listB s).take j = listB s) := Lib.hid (List.take_of_length_le (by rw [← HM.out]; omega))
    clear hg hf ha hr3 ho3
    go_wp2_with fail
    go_ret
    have := HG.out.tells strG_elem HB.out.symm HF.out
    rw [HT.out] at this
    exact this

set_option maxRecDepth 100000 in
set_option maxHeartbeats 1000000 in
theorem rnames_any {K : Nat → Prop} {l : List Tx} {v : Value} (s : Int) (w : World) (h : RowE K w 1 (strG K w) v l) : Calls Try.prog 11 #[v, .int .i64 s] w (TellsR 1 strG (namesL l (listB s)) w) := by
  obtain ⟨A, c, rfl, hlc, hcm, hrow⟩ := h
  obtain ⟨n, hn⟩ : ∃ n, l.length = n := ⟨_, rfl⟩
  rw [hn] at hlc ⊢
  have HROW := Lib.hid hrow
  have HN := Lib.hid hn
  obtain ⟨B, hB⟩ : ∃ B, w.heap.size = B := ⟨_, rfl⟩
  have HB := Lib.hid hB
  unfold maxLen at hcm
  obtain ⟨w1, hw1⟩ : ∃ w1, w = w1 := ⟨_, rfl⟩
  have HF1 : Hid (Fr No w w1) := Lib.hid (by rw [← hw1]; exact Fr.refl No w)
  have HG1 : Hid (Grow B 9 1 strG w1 (.slice none 0 0) (namesL l ((listB s).take 0))) := Lib.hid (Grow.nil_ _ 9 1 strG w1)
  have HW1 := Lib.hid hw1
  obtain ⟨B1, hB1⟩ : ∃ B1, w1.heap.size = B1 := ⟨_, rfl⟩
  have HB1 := Lib.hid hB1
  have HC := Lib.hid (rlist_any s w1)
  clear hrow hn hB hw1 hB1
  go_enter Try.func11, Try.ntmps11
  rw [HW1.out]
  go_wp2_with fail
  refine HC.out.mono ?_
  rintro e w2 ⟨v2, rfl, hr2, f2⟩
  obtain ⟨A2, m, c2, rfl, hm⟩ := row_form hr2
  obtain ⟨B2, hB2⟩ : ∃ B2, w2.heap.size = B2 := ⟨_, rfl⟩
  have HM := Lib.hid hm
  have HROW2 : Hid (RowE (fun k => B1 ≤ k ∧ k < B2) w2 1 (natG (fun _ => True) w2) (.slice A2 m c2) (listB s)) := Lib.hid (hr2.mono (fun k hk hkl => ⟨⟨by rw [← HB1.out]; exact hk, by rw [← hB2]; exact hkl⟩, rfl⟩) fun _ _ h => h)
  have HB2 := Lib.hid hB2
  have HF2 := Lib.hid (HF1.out.trans f2 fun _ _ h => h)
  have HG2 := Lib.hid (HG1.out.keep strG_elem f2 fun _ h => h.elim)
  have hm6 : m ≤ 6 := by rw [hm]; exact listB_len s
  have HO2 : Hid (∀ k, (Value.slice none 0 0).ownBlock = some k → k < B1 ∨ B2 ≤ k) := Lib.hid (fun k hk => by simp [Value.ownBlock] at hk)
  clear hm hr2 f2 hB2
  go_wp2_with fail
  go_loopg [5, 7] m (fun g r5 r7 wr => Hid (∃ (j a : Nat) (A : Option Addr) (c : Nat), r7 = .int .i64 (j : Nat) ∧ j + g = m ∧ r5 = .slice A a c ∧ a = (namesL l ((listB s).take j)).length ∧ Grow B 9 1 strG wr (.slice A a c) (namesL l ((listB s).take j)) ∧ Fr No w wr ∧ RowE (fun k => B1 ≤ k ∧ k < B2) wr 1 (natG (fun _ => True) wr) (.slice A2 m c2) (listB s) ∧ (∀ k, (Value.slice A a c).ownBlock = some k → k < B1 ∨ B2 ≤ k) ∧ B2 ≤ wr.heap.size))
  case atStart => exact Lib.hid ⟨0, 0, _, _, rfl, by omega, rfl, rfl, HG2.out, HF2.out, HROW2.out, HO2.out, by rw [HB2.out]; exact Nat.le_refl _⟩
  case round =>
  obtain ⟨j, a, A3, c3, rfl, hjm, rfl, ha, hg, hf, hr3, ho3, hws2⟩ := hrel.out
  clear hrel
  have HA := Lib.hid ha
  have HG := Lib.hid hg
  have HF := Lib.hid hf
  have HR3 := Lib.hid hr3
  have HO3 := Lib.hid ho3
  by_cases hj : j < m
  · have hji : (j : Int) < (m : Int) := by omega
    have hjl : j < (listB s).length := by rw [← HM.out]; exact hj
    obtain ⟨A0, c0, e0, hmc, hcm2, hrow2⟩ := hr3
    injection e0 with e1 e2 e3
    subst e1 e3
    obtain ⟨g2, o2, rfl, _, hgl, hel⟩ := hrow2 (by omega)
    obtain ⟨cs, hcl, hcs, hE⟩ := hel j hjl
    have hd2 : wr.cell? ⟨g2, o2 + j, none⟩ = some (.int .i64 ((listB s)[j] : Nat)) := by have := hcs 0 (by decide); rw [hE] at this; simpa using this
    rw [← HM.out] at hmc
    unfold maxLen at hcm2
    have hstep : namesL l ((listB s).take (j + 1)) = namesL l ((listB s).take j) ++ (match l[(listB s)[j]]? with | some t => [t] | none => []) := namesL_step hjl
    have ha6 : a ≤ j := by rw [ha]; exact Nat.le_trans (namesL_len _ _) (by rw [List.length_take]; omega)
    generalize (listB s)[j] = d at *
    have HS := Lib.hid hstep
    clear hstep hcs hel hcl hE ha hf hrow2 e2 ho3
    by_cases hdn : d < n
    · have hdi : (d : Int) < (n : Int) := by omega
      have hdl : d < l.length := by rw [HN.out]; exact hdn
      obtain ⟨g4, o4, rfl, _, hgl4, hel4⟩ := HROW.out (by omega)
      obtain ⟨cs4, _, hcs4, hE4⟩ := hel4 d hdl
      obtain ⟨hE4, hlen4⟩ := hE4
      have hd4 : wr.cell? ⟨g4, o4 + d, none⟩ = some (sv l[d]) := (cell_of_heap (HF.out.block g4 hgl4 id)).trans (by have := hcs4 0 (by decide); rw [hE4] at this; simpa using this)
      have HT : Hid (namesL l ((listB s).take (j + 1)) = namesL l ((listB s).take j) ++ [l[d]]) := Lib.hid (by rw [HS.out, List.getElem?_eq_getElem hdl])
      generalize l[d] = t at *
      obtain ⟨A', c', w6, hrun, hg6, hf6, hfg, ho6⟩ := Grow.push (bytes := 16) strG_elem hg HB.out.symm HF.out 23 Try.underlying23 (.string ⟨#[]⟩) (by kernel_rfl) rfl t (sv t) rfl ⟨rfl, hlen4⟩ (by rw [← HA.out]; omega) (by rw [← HA.out]; unfold maxLen; omega)
      rw [← HA.out] at hrun hg6
      have HRUN := Lib.hid hrun
      have HG6 := Lib.hid hg6
      have HF6 := Lib.hid hf6
      have HR6 : Hid (RowE (fun k => B1 ≤ k ∧ k < B2) w6 1 (natG (fun _ => True) w6) (.slice (some ⟨g2, o2, none⟩) m c2) (listB s)) := Lib.hid (HR3.out.mono (fun k hk hkl => ⟨hk, hfg.block k hkl fun e => by have := HO3.out k e; omega⟩) fun _ _ h => h)
      have hws6 : B2 ≤ w6.heap.size := Nat.le_trans hws2 hfg.size
      have HO6 : Hid (∀ k, (Value.slice A' (a + 1) c').ownBlock = some k → k < B1 ∨ B2 ≤ k) := Lib.hid fun k hk => by
        rw [HA.out] at hk
        rcases ho6 k hk with h | h
        · exact HO3.out k h
        · exact .inr (by omega)
      clear hrun hg6 hf6 hfg ho6 hcs4 hel4 hE4 hlen4 hg
      go_wp2_with (at_builtin; refine wpList_add rfl _ _ _ _ rfl _ _ _ _ rfl rfl (HRUN.out _) ?_)
      obtain ⟨g1, rfl⟩ : ∃ g1, gk = g1 + 1 := ⟨gk - 1, by omega⟩
      go_roundg g1
      case rel => exact Lib.hid ⟨j + 1, a + 1, A', c', by go_num, by omega, rfl, by rw [HT.out, List.length_append, ← HA.out]; rfl, by rw [HT.out]; exact HG6.out, HF6.out, HR6.out, HO6.out, hws6⟩
      all_goals omega
    · have hdi : (n : Int) ≤ (d : Int) := by omega
      have HT : Hid (namesL l ((listB s).take (j + 1)) = namesL l ((listB s).take j)) := Lib.hid (by rw [HS.out, List.getElem?_eq_none (by rw [HN.out]; omega)]; exact List.append_nil _)
      clear hg
      go_wp2_with fail
      obtain ⟨g1, rfl⟩ : ∃ g1, gk = g1 + 1 := ⟨gk - 1, by omega⟩
      go_roundg g1
      case rel => exact Lib.hid ⟨j + 1, a, A3, c3, by go_num, by omega, rfl, by rw [HT.out]; exact HA.out, by rw [HT.out]; exact HG.out, HF.out, HR3.out, HO3.out, hws2⟩
      all_goals omega
  · have hji : (m : Int) ≤ (j : Int) := by omega
    have HT : Hid ((listB s).take j = listB s) := Lib.hid (List.take_of_length_le (by rw [← HM.out]; omega))
    clear hg hf ha hr3 ho3
    go_wp2_with fail
    go_ret
    have := HG.out.tells strG_elem HB.out.symm HF.out
    rw [HT.out] at this
    rw [HW1.out] at this
    exact this
end Go.Proofs.Ythejnkpnpckmbaa
