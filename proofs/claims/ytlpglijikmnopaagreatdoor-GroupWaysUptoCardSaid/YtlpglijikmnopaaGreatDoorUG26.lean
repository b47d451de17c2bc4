/- The landed Regroup, where it is asked rightly. -/
import Derived.Test.YtlpglijikmnopaaGreatDoorUM4
import Derived.Deep.Light
namespace Go.Proofs.YtlpglijikmnopaaGreatDoor
open Go.RowKit Go.Maps Go.Sort Go.Proofs
set_option linter.unusedVariables false

/-- Where the dimensions of one list stand in another. -/
def plcL (d : List Nat) (t : List Nat) : List Nat := t.map fun x => (idxN d x).toNat
theorem idxN_in {d : List Nat} {x : Nat} (h : x ∈ d) : ∃ i, idxN d x = ((i : Nat) : Int) ∧ i < d.length := by
  unfold idxN
  cases hf : d.findIdx? (fun y => decide (y = x)) with
  | none =>
    rw [List.findIdx?_eq_none_iff] at hf
    have := hf x h
    simp at this
  | some i =>
    have := (List.findIdx?_eq_some_iff_getElem.1 hf).1
    exact ⟨i, rfl, this⟩
theorem plcL_step {d t : List Nat} {j : Nat} (h : j < t.length) : plcL d (t.take (j + 1)) = plcL d (t.take j) ++ [(idxN d t[j]).toNat] := by
  unfold plcL
  rw [take_succ h, List.map_append]
  rfl
def regL (d t : List Nat) (l : List Rw) : List (Ky × Ac) := l.map fun r => (namesL r.key (plcL d t), r.acc)
theorem plcL_lt {d t : List Nat} (h : ∀ x ∈ t, x ∈ d) : ∀ i ∈ plcL d t, i < d.length := by
  intro i hi
  unfold plcL at hi
  obtain ⟨x, hx, rfl⟩ := List.mem_map.1 hi
  obtain ⟨i, e, hlt⟩ := idxN_in (h x hx)
  rw [e, Int.toNat_natCast]
  exact hlt
theorem kok_names {k : Ky} (h : Kok k) {d : List Nat} (hd : d.length ≤ 1000) : Kok (namesL k d) := ⟨Nat.le_trans (namesL_len _ _) (by omega), fun t ht => h.2 t (namesL_mem ht)⟩
theorem any_false {α : Type} {p : α → Bool} {l : List α} (h : l.any p = false) {j : Nat} (hj : j < l.length) : p l[j] = false := by
  have := List.any_eq_false.1 h l[j] (List.getElem_mem hj)
  simpa using this
/-- What a round of a loop that merges leaves. -/
def MRel (B g m N0 : Nat) (es : List (Ky × Ac)) (w7 : World) (j : Nat) (wx : World) : Prop := ∃ (j' : Nat), Value.int .i64 ((j : Int) + 1) = .int .i64 (j' : Nat) ∧ j' = j + 1 ∧ (∃ rv, Gs B g m N0 zA rv (ordL mergeA zA (es.take j')) wx) ∧ Wf (ordL mergeA zA (es.take j')) ∧ Fr (fun k => k = g ∨ k = m ∨ N0 ≤ k) w7 wx
theorem merge_rel {B g m N0 n2 : Nat} {es : List (Ky × Ac)} {w7 wx : World} {j g1 : Nat} (hj : j + 1 + g1 = n2) (h : Hid (MRel B g m N0 es w7 j wx)) :
    Hid (∃ (j2 : Nat), Value.int .i64 ((j : Int) + 1) = .int .i64 (j2 : Nat) ∧ j2 + g1 = n2 ∧ (∃ rv, Gs B g m N0 zA rv (ordL mergeA zA (es.take j2)) wx) ∧ Wf (ordL mergeA zA (es.take j2)) ∧ Fr (fun k => k = g ∨ k = m ∨ N0 ≤ k) w7 wx) := by
  obtain ⟨j', e1, e2, e3, e4, e5⟩ := h.out
  exact Lib.hid ⟨j', e1, by omega, e3, e4, e5⟩
theorem pos_succ {j g n : Nat} (h : j + g = n) (hj : j < n) : ∃ g1, g = g1 + 1 := ⟨g - 1, by omega⟩
theorem assoc1 {j g1 n : Nat} (h : j + (g1 + 1) = n) : j + 1 + g1 = n := by omega
theorem merge_relW {B g m N0 n2 : Nat} {es : List (Ky × Ac)} {w7 wx : World} {j g1 : Nat} (hw : wrap64 ((j : Int) + 1) = (j : Int) + 1) (hj : j + 1 + g1 = n2) (h : Hid (MRel B g m N0 es w7 j wx)) :
    Hid (∃ (j2 : Nat), Value.int .i64 (wrap64 ((j : Int) + 1)) = .int .i64 (j2 : Nat) ∧ j2 + g1 = n2 ∧ (∃ rv, Gs B g m N0 zA rv (ordL mergeA zA (es.take j2)) wx) ∧ Wf (ordL mergeA zA (es.take j2)) ∧ Fr (fun k => k = g ∨ k = m ∨ N0 ≤ k) w7 wx) := by
  rw [hw]
  exact merge_rel hj h
def TellsRg (b : Nat) (l : List Rw) (w : World) (e : Ending) (w' : World) : Prop := ∃ A n c, e = .returned (.tuple #[.slice A n c, .int .i64 0]) ∧ n = l.length ∧ RRz (fun k => b ≤ k) w' (.slice A n c) l ∧ Fr No w w'
set_option maxRecDepth 100000 in
set_option maxHeartbeats 8000000 in
theorem regroup_any {B : Nat} {av : Value} {l : List Rw} {f t : Int} (w : World) (hBs : w.heap.size = B) (ha : RR (fun k => k < B) w av l) (hok : Rok l) (hl : l.length < 4000000) (hp : Pv w)
    (hf : isSetB f = true) (hz : bits BinOp.andNot IntKind.i64 t f = 0) (hsub : ∀ x ∈ listB t, x ∈ listB f) (hkl : l.any (badK (listB f).length) = false) :
    Calls Tryz.prog 18 #[av, .int .i64 f, .int .i64 t] w (TellsRg B (grpL mergeA zA (regL (listB f) (listB t) l)) w) := by
  obtain ⟨A1, k1, rfl, -⟩ := rr_form ha
  obtain ⟨nA, hnA⟩ : ∃ n, l.length = n := ⟨_, rfl⟩
  have HBS := Lib.hid hBs
  have HA := Lib.hid ha
  have HNA := Lib.hid hnA
  rw [hnA] at HA
  have HOK := Lib.hid hok
  have HL := Lib.hid hl
  have HP := Lib.hid hp
  have HSUB := Lib.hid hsub
  have HKL := Lib.hid hkl
  have HIS : Hid (Calls Tryz.prog 45 #[.int .i64 f] w (TellsB true w)) := Lib.hid (by have := isSet_any f w; rwa [hf] at this)
  have HLF := Lib.hid (fun w' => list_any f w')
  have HLT := Lib.hid (fun w' => list_any t w')
  rw [hnA]
  clear hBs ha hok hl hp hf hsub hkl hnA
  go_enter Tryz.func18, Tryz.ntmps18
  go_upto_region 3 with (go_at_call 45; refine HIS.out.mono ?_; rintro e w0 ⟨rfl, f0⟩; have HF0 := Lib.hid f0; clear f0)
  go_upto_region 4 with (go_at_call 46; refine (HLF.out _).mono ?_; rintro e w1 ⟨dv, rfl, hdr, f1⟩; obtain ⟨D, dn, dc, rfl, hdn⟩ := row_form hdr; have HDR := Lib.hid hdr; have HF1 := Lib.hid f1; have HDN := Lib.hid hdn; clear hdr f1 hdn)
  obtain ⟨y, hy⟩ : ∃ y, w1.heap.size = y := ⟨_, rfl⟩
  obtain ⟨w2, hw2⟩ : ∃ x, w1.alloc (.cells #[.slice D dn dc] 53) = x := ⟨_, rfl⟩
  rw [hy, hw2]
  have f12 : Fr No w1 w2 := by rw [← hw2]; exact (Fr.refl No w1).alloc _
  have hyb : Blk w2 y 53 #[.slice D dn dc] := by rw [← hw2, ← hy]; exact Blk.new w1 53 _
  have f02 : Fr No w w2 := HF0.out.trans (HF1.out.trans f12 fun _ _ h => h) fun _ _ h => h
  have HCF := Lib.hid (containsF_any w2 hyb.lt (hyb.cell 0) (HA.out.no f02))
  rw [HDN.out, HKL.out] at HCF
  have HYB := Lib.hid hyb
  have HF02 := Lib.hid f02
  have HF12 := Lib.hid f12
  clear hw2 hy hyb f12 f02
  go_upto_region 6 with (go_at_call 47; refine HCF.out.mono ?_; rintro e w3 ⟨rfl, f3⟩; have HF3 := Lib.hid f3; clear f3)
  obtain ⟨B4, hB4⟩ : ∃ y, w3.heap.size = y := ⟨_, rfl⟩
  obtain ⟨w4, hw4⟩ : ∃ x, w3.alloc (.cells #[] 3) = x := ⟨_, rfl⟩
  have HF4 : Hid (Fr No w3 w4) := Lib.hid (by rw [← hw4]; exact (Fr.refl No w3).alloc _)
  have HG4 : Hid (Grow B4 3 1 natG w4 (.slice (some ⟨B4, 0, none⟩) 0 0) (plcL (listB f) ((listB t).take 0))) := Lib.hid (by rw [← hw4, ← hB4]; exact Grow.empty _ 3 1 natG w3 (Nat.le_refl _) #[] rfl)
  have HW4 := Lib.hid hw4
  have HB4 := Lib.hid hB4
  clear hw4 hB4
  go_upto_region 7 with fail
  rw [HB4.out, HW4.out]
  go_wp2_with (go_at_call 46; refine (HLT.out _).mono ?_; rintro e w5 ⟨tv, rfl, htr, f5⟩; obtain ⟨T, tn, tc, rfl, htn⟩ := row_form htr; have HTR := Lib.hid htr; have HF5 := Lib.hid f5; have HTN := Lib.hid htn; clear htr f5 htn)
  obtain ⟨N5, hN5⟩ : ∃ y, w5.heap.size = y := ⟨_, rfl⟩
  have hsz : w.heap.size ≤ w0.heap.size ∧ w0.heap.size ≤ w1.heap.size ∧ w1.heap.size ≤ w2.heap.size ∧ w2.heap.size ≤ w3.heap.size ∧ w3.heap.size ≤ w4.heap.size ∧ w4.heap.size ≤ N5 := ⟨HF0.out.size, HF1.out.size, HF12.out.size, HF3.out.size, HF4.out.size, by rw [← hN5]; exact HF5.out.size⟩
  have HSZ := Lib.hid hsz
  have HB43 : Hid (B4 < w4.heap.size ∧ w3.heap.size = B4 ∧ y < w2.heap.size) := Lib.hid ⟨by have h1 := HG4.out.lt B4 rfl; omega, HB4.out, HYB.out.lt⟩
  have HRT : Hid (∀ wr, Fr (fun k => k = B4 ∨ N5 ≤ k) w5 wr → wr.cell? ⟨y, 0, none⟩ = some (.slice D dn dc) ∧ y < wr.heap.size ∧ RowE (fun k => k < w1.heap.size) wr 1 (natG (fun k => k < w1.heap.size) wr) (.slice D dn dc) (listB f) ∧ RowE (fun k => w4.heap.size ≤ k) wr 1 (natG (fun k => w4.heap.size ≤ k) wr) (.slice T tn tc) (listB t)) := Lib.hid fun wr fr => by
    have h1 := HSZ.out
    have h2 := HB43.out
    have f15 : Fr No w1 w5 := HF12.out.trans (HF3.out.trans (HF4.out.trans HF5.out fun _ _ h => h) fun _ _ h => h) fun _ _ h => h
    have hyb5 := HYB.out.no (HF3.out.trans (HF4.out.trans HF5.out fun _ _ h => h) fun _ _ h => h)
    have hybr := hyb5.of (fr.block y hyb5.lt (by omega))
    refine ⟨hybr.cell 0, hybr.lt, ?_, ?_⟩
    · have h3 := RowE.mono (K' := fun k => k < w1.heap.size) HDR.out (fun k hk hlt => ⟨hlt, rfl⟩) fun _ _ h => h
      exact (RowE.at_ natG_elem h3 f15).mono (fun k hk hlt => ⟨hk, fr.block k hlt (by omega)⟩) fun _ _ h => h
    · exact RowE.mono HTR.out (fun k hk hlt => ⟨hk, fr.block k hlt (by omega)⟩) fun _ _ h => h
  have HG5 : Hid (Grow B4 3 1 natG w5 (.slice (some ⟨B4, 0, none⟩) 0 0) (plcL (listB f) ((listB t).take 0))) := Lib.hid (Grow.keep natG_elem HG4.out HF5.out fun k hk => hk.elim)
  have HF35 : Hid (Fr No w3 w5) := Lib.hid (HF4.out.trans HF5.out fun _ _ h => h)
  have HN5 := Lib.hid hN5
  have htn6 : tn ≤ 6 := by rw [HTN.out]; exact listB_len t
  clear hN5 hsz
  go_loopg [9, 11, 33] tn (fun g r9 r11 r33 wr => Hid (∃ (j a : Nat) (A2 : Option Addr) (c2 : Nat), r33 = .int .i64 (j : Nat) ∧ j + g = tn ∧ r9 = .slice A2 a c2 ∧ a = (plcL (listB f) ((listB t).take j)).length ∧ Grow B4 3 1 natG wr (.slice A2 a c2) (plcL (listB f) ((listB t).take j)) ∧ (∀ k, (Value.slice A2 a c2).ownBlock = some k → k = B4 ∨ N5 ≤ k) ∧ Fr (fun k => k = B4 ∨ N5 ≤ k) w5 wr ∧ Fr No w3 wr))
  case atStart => exact Lib.hid ⟨0, 0, _, _, rfl, by omega, rfl, rfl, HG5.out, (fun k hk => .inl (by injection hk with hk; exact hk.symm)), Fr.refl _ _, HF35.out⟩
  case round =>
    obtain ⟨j, a, A2, c2, rfl, hjk, rfl, ha, hg, hown, hf5, hf3⟩ := hrel.out
    clear hrel
    have HAL := Lib.hid ha
    have HG := Lib.hid hg
    have HOW := Lib.hid hown
    have HFR5 := Lib.hid hf5
    have HFR3 := Lib.hid hf3
    clear ha hg hown hf3
    by_cases hj : j < tn
    · have hjl : j < (listB t).length := by have := HTN.out; omega
      have hji : (j : Int) < (tn : Int) := by omega
      obtain ⟨cy, hyl, hdr, htr⟩ := HRT.out wr hf5
      obtain ⟨A0, c0, e0, hmc, hcm2, hrow2⟩ := htr
      injection e0 with e1 e2 e3
      subst e1 e3
      obtain ⟨g2, o2, rfl, _, hgl, hel⟩ := hrow2 (by omega)
      obtain ⟨cs, hcl, hcs, hE⟩ := hel j hjl
      have hd2 : wr.cell? ⟨g2, o2 + j, none⟩ = some (.int .i64 ((listB t)[j] : Nat)) := by have := hcs 0 (by decide); rw [hE] at this; simpa using this
      obtain ⟨i, hi, hil⟩ := idxN_in (HSUB.out _ (List.getElem_mem hjl))
      have HSTEP : Hid (plcL (listB f) ((listB t).take (j + 1)) = plcL (listB f) ((listB t).take j) ++ [i]) := Lib.hid (by rw [plcL_step hjl, hi, Int.toNat_natCast])
      obtain ⟨x, hx⟩ : ∃ x, (listB t)[j] = x := ⟨_, rfl⟩
      rw [hx] at hd2 hi
      have HIX := Lib.hid (index_any (x := x) wr hdr)
      rw [hi] at HIX
      have hal6 : a ≤ 6 := by have h1 := HAL.out; unfold plcL at h1; rw [List.length_map] at h1; have h2 : ((listB t).take j).length ≤ j := List.length_take_le _ _; omega
      have HPU : Hid (∀ w6, Fr No wr w6 → ∃ A' c' w7, (∀ ty, (Builtin.append_ #[53, 53] ty #[.slice A2 a c2, .slice (some ⟨w6.heap.size, 0, none⟩) 1 1]).run Tryz.prog (w6.alloc (.cells #[.int .i64 i] 3)) = .ok (.slice A' (a + 1) c') w7) ∧ Grow B4 3 1 natG w7 (.slice A' (a + 1) c') (plcL (listB f) ((listB t).take (j + 1))) ∧ (∀ k, (Value.slice A' (a + 1) c').ownBlock = some k → k = B4 ∨ N5 ≤ k) ∧ Fr (fun k => k = B4 ∨ N5 ≤ k) w5 w7 ∧ Fr No w3 w7) := Lib.hid fun w6 f6 => by
        obtain ⟨A', c', w7, h1, h2, h3, h4, h5⟩ := Grow.push (bytes := 8) natG_elem (Grow.keep natG_elem HG.out f6 fun k hk => hk.elim) HB4.out.symm (HFR3.out.trans f6 fun _ _ h => h) 53 Tryz.underlying53 (.int .i64 0) (by kernel_rfl) rfl i (.int .i64 i) rfl rfl (by rw [← HAL.out]; omega) (by rw [← HAL.out]; unfold maxLen; omega)
        rw [← HAL.out] at h1 h2 h5
        have h6 := HFR5.out.trans f6 fun _ _ h => h.elim
        refine ⟨A', c', w7, h1, by rw [HSTEP.out]; exact h2, fun k hk => ?_, h6.trans h4 fun k _ h => HOW.out k h, h3⟩
        rcases h5 k hk with h | h
        · exact HOW.out k h
        · exact .inr (by have := h6.size; have := HN5.out; omega)
      clear hcs hel hE hrow2 e2 hmc hcm2 hx hi hdr hf5
      go_wp2_with (first
        | (go_at_call 49; refine HIX.out.mono ?_; rintro e w6 ⟨rfl, f6⟩; obtain ⟨A', c', w7, hrun, h7⟩ := HPU.out w6 f6; have HRUN := Lib.hid hrun; have H7 := Lib.hid h7; clear hrun h7 f6)
        | (at_builtin; refine wpList_add rfl _ _ _ _ rfl _ _ _ _ rfl rfl (HRUN.out _) ?_))
      obtain ⟨g1, rfl⟩ : ∃ g1, gk = g1 + 1 := ⟨gk - 1, by omega⟩
      go_roundg g1
      case rel =>
        obtain ⟨h2, h3, h4, h5⟩ := H7.out
        exact Lib.hid ⟨j + 1, a + 1, A', c', by go_num, by omega, rfl, by rw [HSTEP.out, List.length_append, ← HAL.out]; rfl, h2, h3, h4, h5⟩
      all_goals omega
    · have hji : (tn : Int) ≤ (j : Int) := by omega
      have HT : Hid ((listB t).take j = listB t) := Lib.hid (List.take_of_length_le (by rw [← HTN.out]; omega))
      have hpl := HG.out.row natG_elem
      rw [HT.out] at hpl
      have HPL0 := Lib.hid hpl
      have hal := HAL.out
      rw [HT.out] at hal
      have HAL2 := Lib.hid hal
      have HF3R : Hid (Fr No w wr) := Lib.hid (HF02.out.trans (HF3.out.trans HFR3.out fun _ _ h => h) fun _ _ h => h)
      have HNG := Lib.hid (newGroups_any (b := B) zA (.slice none 0 0) wr (by have := HF3R.out.size; have := HBS.out; omega) (PRz.nil _ _))
      have HWR : Hid (B ≤ B4 ∧ B4 ≤ wr.heap.size) := Lib.hid ⟨by have h1 := HSZ.out; have := HBS.out; have := HB43.out; omega, by have h1 := HFR5.out.size; have h2 := HN5.out; have h3 := HSZ.out; have := HB43.out; omega⟩
      clear hpl hal hf5
      go_upto_region 13 with (go_at_call 36; refine HNG.out.mono ?_; rintro e w7 ⟨g, m, n0, rfl, hgs, hg1, hm1, f7⟩; have HGS := Lib.hid hgs; have HF7 := Lib.hid f7; have HGM := Lib.hid (And.intro hg1 hm1); clear hgs f7 hg1 hm1)
      obtain ⟨N0, hN0⟩ : ∃ x, w7.heap.size = x := ⟨_, rfl⟩
      have hap := HGS.out.ap
      have hgm := HGM.out
      have hwr := HWR.out
      have hs7 := HF7.out.size
      have HG7 : Hid (Gs B g m N0 zA (.slice none 0 0) [] w7) := Lib.hid (HGS.out.raise (by omega) (by omega))
      have HZ0 : Hid (0 < g ∧ 0 < m ∧ 0 < N0 ∧ B ≤ g ∧ B ≤ m ∧ wr.heap.size ≤ g ∧ wr.heap.size ≤ m ∧ wr.heap.size ≤ N0 ∧ m < N0 ∧ g < N0 ∧ B ≤ wr.heap.size ∧ w7.heap.size = N0) := Lib.hid (by have := (HP.out.no HF3R.out).lt; refine ⟨?_, ?_, ?_, ?_, ?_, ?_, ?_, ?_, ?_, ?_, ?_, ?_⟩ <;> omega)
      have HP7 : Hid (Pv w7) := Lib.hid ((HP.out.no HF3R.out).no HF7.out)
      have HPL : Hid (∀ w', Fr (fun k => k = g ∨ k = m ∨ N0 ≤ k) w7 w' → RowE (fun k => B4 ≤ k ∧ k < wr.heap.size) w' 1 (natG (fun k => B4 ≤ k ∧ k < wr.heap.size) w') (.slice A2 a c2) (plcL (listB f) (listB t))) := Lib.hid fun w' f' => by
        have h1 := RowE.mono (K' := fun k => B4 ≤ k ∧ k < wr.heap.size) HPL0.out (fun k hk hlt => ⟨⟨hk, hlt⟩, rfl⟩) fun _ _ h => h
        exact (RowE.at_ natG_elem h1 HF7.out).mono (fun k hk hlt => ⟨hk, f'.block k hlt (by have := HZ0.out; omega)⟩) fun _ _ h => h
      have HRR : Hid (∀ w', Fr (fun k => k = g ∨ k = m ∨ N0 ≤ k) w7 w' → RR (fun k => k < B) w' (.slice A1 nA k1) l) := Lib.hid fun w' f' => RowE.mono ((HA.out.no HF3R.out).no HF7.out) (fun k hk hlt => ⟨hk, f'.block k hlt (by have := HZ0.out; omega)⟩) fun x cs hx => rwG_elem.mono _ _ _ _ _ _ hx fun k hk hlt => ⟨hk, f'.block k hlt (by have := HZ0.out; omega)⟩
      obtain ⟨es, hes⟩ : ∃ es, regL (listB f) (listB t) l = es := ⟨_, rfl⟩
      have HEL : Hid (es.length = nA) := Lib.hid (by rw [← hes]; unfold regL; rw [List.length_map, HNA.out])
      have HES := Lib.hid hes
      rw [hes]
      clear hes hN0 hap hgm hwr hs7
      go_wp2_with fail
      go_loopg [14, 48] nA (fun k r14 r48 wr => Hid (∃ (j : Nat), r48 = .int .i64 (j : Nat) ∧ j + k = nA ∧ (∃ rv, Gs B g m N0 zA rv (ordL mergeA zA (es.take j)) wr) ∧ Wf (ordL mergeA zA (es.take j)) ∧ Fr (fun k => k = g ∨ k = m ∨ N0 ≤ k) w7 wr))
      case atStart => exact Lib.hid ⟨0, rfl, by omega, ⟨_, HG7.out⟩, Wf.nil, Fr.refl _ _⟩
      case round =>
        obtain ⟨jj, rfl, hjk2, ⟨rv, hgs⟩, hwf, hf⟩ := hrel.out
        clear hrel
        by_cases hj2 : jj < nA
        · have hjl : jj < l.length := by have := HNA.out; omega
          have hje : jj < es.length := by have := HEL.out; omega
          have hji2 : (jj : Int) < (nA : Int) := by omega
          obtain ⟨gc, off, B1, n1, d1, B2, n2, d2, rfl, -, hgl, x0, x1, x2, hkr, hpr, -⟩ := rr_at (HRR.out _ hf) hjl
          have hrok := HOK.out _ (List.getElem_mem hjl)
          have hlenk : l[jj].key.length = (listB f).length := by
            have := any_false HKL.out hjl
            unfold badK at this
            simpa using this
          obtain ⟨k, hk⟩ : ∃ k, l[jj].key = k := ⟨_, rfl⟩
          obtain ⟨ac, hac⟩ : ∃ k, l[jj].acc = k := ⟨_, rfl⟩
          have hej : es[jj] = (namesL k (plcL (listB f) (listB t)), ac) := by
            have h1 : es[jj]? = some (namesL k (plcL (listB f) (listB t)), ac) := by rw [← HES.out]; unfold regL; rw [List.getElem?_map, List.getElem?_eq_getElem hjl, Option.map_some, hk, hac]
            rw [List.getElem?_eq_getElem hje] at h1
            exact Option.some.inj h1
          rw [hk] at hkr hrok hlenk
          rw [hac] at hpr hrok x1
          have HSTEP : Hid (ordL mergeA zA (es.take (jj + 1)) = updG mergeA zA (ordL mergeA zA (es.take jj)) (namesL k (plcL (listB f) (listB t))) ac) := Lib.hid (by rw [take_succ hje, ord_snoc, hej])
          obtain ⟨q, hq⟩ : ∃ q, wr.heap.size = q := ⟨_, rfl⟩
          obtain ⟨cnt, hcnt⟩ : ∃ c, ac.count = c := ⟨_, rfl⟩
          rw [hcnt] at x1
          obtain ⟨wa, hwa⟩ : ∃ x, wr.alloc (.cells #[.slice B1 n1 d1, .int .i64 cnt, .slice B2 n2 d2] 50) = x := ⟨_, rfl⟩
          have fa : Fr No wr wa := by rw [← hwa]; exact (Fr.refl No wr).alloc _
          have hqb : Blk wa q 50 #[.slice B1 n1 d1, .int .i64 cnt, .slice B2 n2 d2] := by rw [← hwa, ← hq]; exact Blk.new wr 50 _
          have hfa : Fr (fun k => k = g ∨ k = m ∨ N0 ≤ k) w7 wa := hf.trans fa fun _ _ h => h.elim
          have hpl6 : (plcL (listB f) (listB t)).length ≤ 6 := by unfold plcL; rw [List.length_map]; exact listB_len t
          have HTX : Hid (∀ w', Fr No wa w' → Calls Tryz.prog 51 #[.slice B1 n1 d1, .slice A2 a c2] w' (TellsR 1 strG (namesL k (plcL (listB f) (listB t))) w')) := Lib.hid fun w' f' =>
            texts_any w' ((hkr.no fa).no f') (RowE.at_ natG_elem (HPL.out wa hfa) f') (by rw [hlenk]; exact plcL_lt HSUB.out) (by omega)
          have HMG : Hid (∀ w' w9 kv, Fr No wa w' → Fr No w' w9 → KR (fun k => w'.heap.size ≤ k) w9 kv (namesL k (plcL (listB f) (listB t))) → Calls Tryz.prog 50 #[.pointer (some ⟨g, 0, none⟩), kv, .agg #[.int .i64 cnt, .slice B2 n2 d2]] w9 (fun e wx => e = .returned (.tuple #[]) ∧ Hid (MRel B g m N0 es w7 jj wx))) := Lib.hid fun w' w9 kv fw f9 hkv => by
            have fa9 : Fr No wa w9 := fw.trans f9 fun _ _ h => h
            have hM := gmerge_any (K := fun k => w'.heap.size ≤ k) (K2 := fun k => k < B) (cnt := cnt) w9 (hgs.no (fa.trans fa9 fun _ _ h => h)) hkv (by have := HZ0.out; have := fw.size; have := hfa.size; omega) (kok_names hrok.1 (by omega)) ((HP7.out.fr hfa (by have := HZ0.out; omega)).no fa9)
              (by have h1 := ord_len mergeA zA (es.take jj); have h2 : (es.take jj).length ≤ jj := List.length_take_le _ _; have := HL.out; have := HNA.out; omega) hwf zA_lok ((hpr.no fa).no fa9) (fun _ h => h) hrok.2
            refine hM.mono ?_
            rintro e wx ⟨rfl, rv', h1, h2⟩
            have hupd : updG mergeA zA (ordL mergeA zA (es.take jj)) (namesL k (plcL (listB f) (listB t))) ⟨cnt, ac.parts⟩ = ordL mergeA zA (es.take (jj + 1)) := by rw [HSTEP.out, ← hcnt]
            rw [hupd] at h1
            refine ⟨rfl, Lib.hid ⟨jj + 1, by go_num, rfl, ⟨rv', h1⟩, ?_, ?_⟩⟩
            · rw [HSTEP.out]; exact hwf.updM zA_lok hrok.2
            · exact (hfa.trans fa9 fun _ _ h => h.elim).trans h2 fun k _ h => ownNot hgs h
          have q0 := hqb.cell 0
          have q1 := hqb.cell 1
          have q2 := hqb.cell 2
          have hql := hqb.lt
          have HQB := Lib.hid hqb
          have HQ := Lib.hid hq
          have HWA := Lib.hid hwa
          obtain ⟨g1, rfl⟩ := pos_succ hjk2 hj2
          have HJG : Hid (jj + 1 + g1 = nA) := Lib.hid (assoc1 hjk2)
          have hnb : jj < 4000000 := by have := HL.out; have := HNA.out; omega
          have HWRJ : Hid (wrap64 ((jj : Int) + 1) = (jj : Int) + 1) := Lib.hid (by unfold wrap64; omega)
          clear hgs hwf hf hkr hpr hrok hlenk hk hac hej hq hcnt hwa fa hqb hfa
          go_upto_region 16 with fail
          rw [HQ.out, HWA.out]
          go_region_law (first
            | (go_simp; go_at_call 51; refine (HTX.out _ (by first | exact Fr.refl _ _ | exact (Fr.refl _ _).drew | exact (Fr.refl _ _).drew.drew)).mono ?_; rintro e w9 ⟨kv, rfl, hkv, f9⟩; obtain ⟨Kv, kc, rfl, -⟩ := KR.form hkv; have HM9 := Lib.hid (HMG.out _ w9 _ (by first | exact Fr.refl _ _ | exact (Fr.refl _ _).drew | exact (Fr.refl _ _).drew.drew) f9 hkv); have p1 := (HQB.out.no ((Fr.refl No wa).drew.trans f9 fun _ _ h => h)).cell 1; have p2 := (HQB.out.no ((Fr.refl No wa).drew.trans f9 fun _ _ h => h)).cell 2; have hpl9 := (HQB.out.no ((Fr.refl No wa).drew.trans f9 fun _ _ h => h)).lt; clear hkv f9)
            | (go_simp; go_at_call 50; refine HM9.out.mono ?_; rintro e wx ⟨rfl, HMR⟩))
          all_goals (go_simp; go_wp2_with fail)
          all_goals
            go_roundg g1
            case rel => first | exact merge_relW HWRJ.out HJG.out HMR | exact merge_rel HJG.out HMR
            all_goals first | exact Nat.lt_succ_self _ | (go_light; omega)
        · have hji2 : (nA : Int) ≤ (jj : Int) := by omega
          have HT2 : Hid (es.take jj = es) := Lib.hid (List.take_of_length_le (by rw [HEL.out]; omega))
          rw [HT2.out] at hgs
          have HO := Lib.hid (inOrder_any wr hgs (by have h1 := ord_len mergeA zA es; have := HEL.out; have := HL.out; have := HNA.out; omega))
          have HON : Hid (∀ i, rv.ownBlock = some i → N0 ≤ i) := Lib.hid fun i hi => hgs.own i hi
          have HF := Lib.hid hf
          clear hgs hwf hf
          go_wp2_with (go_at_call 41; refine HO.out.mono ?_; rintro e wb ⟨l', ⟨hpm, hso⟩, Ar, nr, cr, rfl, hnr, hrr, fr⟩; have HEND := Lib.hid (And.intro hpm (And.intro hso (And.intro hnr (And.intro hrr fr)))); clear hpm hso hnr hrr fr)
          go_ret2
          obtain ⟨hpm, hso, hnr, hrr, fr⟩ := HEND.out
          have hl' : l' = grpL mergeA zA es := ord_sorted mergeA zA hpm hso
          rw [HES.out, ← hl']
          refine ⟨Ar, nr, cr, rfl, hnr, hrr, ?_⟩
          have f1 : Fr (fun k => B ≤ k) w wb := (((HF3R.out.trans HF7.out fun _ _ h => h).any (G := fun k => B ≤ k)).trans HF.out fun k _ h => by have := HZ0.out; rcases h with h | h | h <;> omega).trans fr fun k _ h => by have := HON.out k h; have := HZ0.out; omega
          exact ⟨f1.os, f1.tape, f1.output, f1.size, fun k hk _ => f1.block k hk (by have := HBS.out; omega)⟩
end Go.Proofs.YtlpglijikmnopaaGreatDoor
