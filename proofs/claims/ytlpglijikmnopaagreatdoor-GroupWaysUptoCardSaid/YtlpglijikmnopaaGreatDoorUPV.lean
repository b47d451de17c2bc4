/- The document's put, walked. -/
import Derived.Test.YtlpglijikmnopaaGreatDoorUPU
namespace Go.Proofs.YtlpglijikmnopaaGreatDoor
open Go.RowKit Go.Maps Go.Sort Go.Proofs
set_option linter.unusedVariables false

theorem GrX.sm {X : Nat → Prop} {b : Nat} {w : World} {A : Option Addr} {n c : Nat} {l : List Rw} (h : GrX X b 50 3 rwG w (.slice A n c) l) (h0 : 0 < l.length) : ∃ g, A = some ⟨g, 0, none⟩ := by
  obtain ⟨K, xs, ho, -⟩ := h
  rcases ho.2 with ⟨e, e0⟩ | ⟨g, cap, cur, e, _⟩
  · omega
  · injection e with e1 e2 e3
    exact ⟨g, e1⟩
theorem merge_zero (cn : Int) (ps : List Pt) : (⟨w64 (cn + 0), mergeL ps []⟩ : Ac) = mergeA zA ⟨cn, ps⟩ := by
  unfold mergeA zA
  refine ac_eq ?_ ?_
  · show w64 (cn + 0) = w64 (0 + cn)
    rw [Int.add_zero, Int.zero_add]
  · rw [mergeL_nil]; cases ps <;> rfl
/-- A row's accumulator stored anew in place. -/
theorem put_old {X : Nat → Prop} {b : Nat} {w0 wr w3 : World} {g n c j : Nat} {l : List Rw} {k : Ky} {a : Ac} {pv : Value} (hL : GrX X b 50 3 rwG w0 (.slice (some ⟨g, 0, none⟩) n c) l) (hX : ∀ j, b ≤ j → X j) (hb : b ≤ w0.heap.size) (f : Fr No w0 wr) (f3 : Fr No wr w3) (hpo : PO wr.heap.size w3 pv (mergeA (l[j]?.map Rw.acc |>.getD zA) a).parts) (hj : j < l.length)
    (h1 : ∀ i (h : i < l.length), i < j → l[i].key < k) (h2 : l[j].key = k) :
    TellsPut X b (.slice (some ⟨g, 0, none⟩) n c) (insG mergeA zA l k a) w0 (.returned (.slice (some ⟨g, 0, none⟩) n c)) ((w3.setCell ⟨g, j * 3 + 1, none⟩ (.int .i64 (mergeA (l[j]?.map Rw.acc |>.getD zA) a).count)).setCell ⟨g, j * 3 + 2, none⟩ pv) := by
  have e : (l[j]?.map Rw.acc |>.getD zA) = l[j].acc := by rw [List.getElem?_eq_getElem hj]; rfl
  rw [e] at hpo ⊢
  have f03 := f.tr f3
  have h3 : GrX X b 50 3 rwG w3 (.slice (some ⟨g, 0, none⟩) n c) l := hL.keep rwG_elem f03 fun q hq _ => hq.elim
  have hg := hL.lt g rfl
  have s := f.size
  obtain ⟨-, -, hs⟩ := h3.setA hj (mergeA l[j].acc a) hpo.pr (K' := fun q => wr.heap.size ≤ q) fun q hq _ => ⟨hX q (by omega), by omega⟩
  have hn : n = l.length := by obtain ⟨A', c', e⟩ := hL.len; injection e
  refine ⟨_, _, _, rfl, ?_, ?_, ?_, fun q e => .inl e⟩
  · rw [insG_old mergeA zA l k a j hj h1 h2, setA_len]; exact hn
  · rw [insG_old mergeA zA l k a j hj h1 h2]; exact hs
  · exact ((f03.any (G := fun q => (Value.slice (some ⟨g, 0, none⟩) n c).ownBlock = some q)).setCell (p := ⟨g, j * 3 + 1, none⟩) (fun _ => rfl) _).setCell (p := ⟨g, j * 3 + 2, none⟩) (fun _ => rfl) _
set_option maxRecDepth 100000 in
set_option maxHeartbeats 2000000 in
theorem put_any {X K K2 : Nat → Prop} {b : Nat} {A : Option Addr} {n c : Nat} {kv pv : Value} {l : List Rw} {k : Ky} {cn : Int} {ps : List Pt} (w : World) (hL : GrX X b 50 3 rwG w (.slice A n c) l) (hb : b ≤ w.heap.size) (hX : ∀ j, b ≤ j → X j) (hk : KR K w kv k) (ha : PR K2 w pv ps) (hps : Lok ps) (hw : Wf l) (hkl : k.length ≤ 4000000) (hl : l.length < 4000000) :
    Calls Tryz.prog 33 #[.slice A n c, kv, .agg #[.int .i64 cn, pv]] w (TellsPut X b (.slice A n c) (insG mergeA zA l k ⟨cn, ps⟩) w) := by
  obtain ⟨w0, hw0⟩ : ∃ w0, w.alloc (.cells #[.int .i64 cn, pv] 48) = w0 := ⟨_, rfl⟩
  obtain ⟨y, hy⟩ : ∃ y, w.heap.size = y := ⟨_, rfl⟩
  have f0 : Fr No w w0 := by rw [← hw0]; exact (Fr.refl No w).alloc _
  have HBK : Hid (Blk w0 y 48 #[.int .i64 cn, pv]) := Lib.hid (by rw [← hw0, ← hy]; exact Blk.new w 48 _)
  have hn : n = l.length := by obtain ⟨A', c', e⟩ := hL.len; injection e
  have hL0 : GrX X b 50 3 rwG w0 (.slice A n c) l := hL.keep rwG_elem f0 fun q hq _ => hq.elim
  have hrr := hL0.rr hX
  have hnc : n ≤ c := by
    obtain ⟨A', c', e, h1, -⟩ := hrr
    injection e with e1 e2 e3
    omega
  have HL := Lib.hid hL0
  have HRR := Lib.hid (fun w' (f : Fr No w0 w') => hrr.no f)
  have HKV := Lib.hid (hk.no f0)
  have HPS := Lib.hid (ha.no f0)
  have HB : Hid (b ≤ w0.heap.size) := Lib.hid (Nat.le_trans hb f0.size)
  have HD := Lib.hid (fun (w' : World) (f : Fr No w0 w') (K' : Nat → Prop) (u : Value) (m : Ky) (hu : KR K' w' u m) => rcompare_any w' hu ((hk.no f0).no f))
  have EM := Lib.hid (merge_zero cn ps)
  have HEND : Hid (∀ e w', TellsPut X b (.slice A n c) (insG mergeA zA l k ⟨cn, ps⟩) w0 e w' → TellsPut X b (.slice A n c) (insG mergeA zA l k ⟨cn, ps⟩) w e w') := Lib.hid fun e w' h => by
    obtain ⟨A', n', c', e1, e2, h3, h4, h5⟩ := h
    exact ⟨A', n', c', e1, e2, h3, f0.any.trans h4 fun _ _ h => h, fun q hq => (h5 q hq).imp id fun h => Nat.le_trans f0.size h⟩
  obtain ⟨pA, pn, pc, rfl⟩ : ∃ A n c, pv = .slice A n c := by obtain ⟨A, c, e, _⟩ := ha.form; exact ⟨_, _, _, e⟩
  obtain ⟨kA0, kc0, rfl, -⟩ := hk.form
  obtain ⟨kn, hkn⟩ : ∃ kn, k.length = kn := ⟨_, rfl⟩
  rw [hkn] at HKV HD ⊢
  have HN := Lib.hid hn
  have HW0 := Lib.hid hw0
  have HY := Lib.hid hy
  have HKN := Lib.hid hkn
  have HWF := Lib.hid hw
  have hnb : n < 4000000 := by omega
  clear hL hb hk ha hw hw0 hy f0 hn hL0 hrr hkn
  go_enter Tryz.func33, Tryz.ntmps33
  go_upto_region 1 with fail
  rw [HW0.out, HY.out]
  go_upto_region 2 with fail
  go_loopg [7] n (fun gk r7 wr => Hid (∃ j : Nat, r7 = .int .i64 (j : Nat) ∧ j + gk = n ∧ (∀ i (h : i < l.length), i < j → l[i].key < k) ∧ Fr No w0 wr))
  case atStart => exact Lib.hid ⟨0, rfl, by omega, fun i _ h => absurd h (by omega), Fr.refl _ _⟩
  case round =>
  obtain ⟨j, rfl, hjk, hlt, hf⟩ := hrel.out
  have HLT := Lib.hid hlt
  have HF0 := Lib.hid hf
  clear hrel hlt
  by_cases hj : j < n
  · have hji : (j : Int) < (n : Int) := by omega
    have hjl : j < l.length := by have := HN.out; omega
    obtain ⟨g, off, ku, pu, rfl, -, hg, d0, d1, d2, hku, hpu⟩ := (HRR.out wr hf).at_ hjl
    obtain ⟨g', e'⟩ := HL.out.sm (by omega)
    obtain ⟨rfl, rfl⟩ : g = g' ∧ off = 0 := by
      injection e' with e'
      injection e' with e1 e2
      exact ⟨e1, e2⟩
    obtain ⟨uA, uc, rfl, -⟩ := hku.form
    have HKU := Lib.hid hku
    have HPU := Lib.hid hpu
    have HC1 := Lib.hid (fun (w' : World) (f : Fr No wr w') => HD.out w' (hf.tr f) _ _ _ (HKU.out.no f))
    have hz := cmpK_zero l[j].key k
    have hneg := cmpK_neg l[j].key k
    obtain ⟨q, hq⟩ : ∃ q, cmpK l[j].key k = q := ⟨_, rfl⟩
    rw [hq] at HC1 hz hneg
    obtain ⟨un, hun⟩ : ∃ un, l[j].key.length = un := ⟨_, rfl⟩
    rw [hun] at HC1 d0
    have HJL := Lib.hid hjl
    have HZ := Lib.hid hz
    have HNG := Lib.hid hneg
    simp only [Nat.zero_add] at d0 d1 d2
    have D0 := Lib.hid d0
    have D1 := Lib.hid d1
    have D2 := Lib.hid d2
    clear hq hun hku hpu hz hneg d0 d1 d2 e'
    rcases Int.lt_trichotomy q 0 with h0 | h0 | h0
    · have d0 := D0.out
      go_wp2_with (go_at_call 26; refine (HC1.out _ (Fr.refl _ _)).mono ?_; rintro e1 w5 ⟨rfl, f5⟩; have HF5 := Lib.hid (HF0.out.tr f5); clear f5)
      obtain ⟨g1, rfl⟩ : ∃ g1, gk = g1 + 1 := ⟨gk - 1, by omega⟩
      go_roundg g1
      case rel => exact Lib.hid ⟨j + 1, by go_num, by omega, fun i h hi => by
        rcases Nat.lt_or_ge i j with h9 | h9
        · exact HLT.out i h h9
        · obtain rfl : i = j := by omega
          exact HNG.out.1 h0, HF5.out⟩
      all_goals omega
    · subst h0
      have d0 := D0.out
      have HKE : Hid (l[j]'HJL.out |>.key |> fun x => x = k) := Lib.hid (HZ.out.1 rfl)
      have hacc : ∃ a1, (l[j]?.map Rw.acc |>.getD zA) = a1 ∧ a1 = (l[j]'HJL.out).acc := ⟨_, rfl, by rw [List.getElem?_eq_getElem HJL.out]; rfl⟩
      obtain ⟨a1, ha1, ha2⟩ := hacc
      have HOLD := Lib.hid (fun (wx w3 : World) (pv : Value) (f : Fr No w0 wx) (f3 : Fr No wx w3) (hpo : PO wx.heap.size w3 pv (mergeA a1 ⟨cn, ps⟩).parts) => put_old (a := ⟨cn, ps⟩) HL.out hX HB.out f f3 (by rw [ha1]; exact hpo) HJL.out HLT.out HKE.out)
      rw [ha1] at HOLD
      have HA1 := Lib.hid (show Lok a1.parts by rw [ha2]; exact HWF.out _ (List.getElem_mem _))
      rw [← ha2] at HPU D1
      have HFZ := Lib.hid ((HL.out.keep rwG_elem HF0.out fun q hq _ => hq.elim : GrX X b 50 3 rwG wr (.slice (some ⟨g, 0, none⟩) n c) l).setA HJL.out ⟨0, []⟩ (pv := .slice none 0 0) (K' := No) (.inl ⟨rfl, rfl⟩) fun j hj => hj.elim).2.1
      obtain ⟨qA, qc, rfl, -⟩ := HPU.out.form
      obtain ⟨qn, hqn⟩ : ∃ qn, a1.parts.length = qn := ⟨_, rfl⟩
      have HM := Lib.hid (fun (wx : World) (f : Fr No wr wx) => rmerge_any a1.count cn a1.parts ps _ _ wx (HPU.out.no f) HA1.out (HPS.out.no (HF0.out.tr f)) hps)
      rw [hqn] at HM D2
      have HAM : Hid ((⟨w64 (a1.count + cn), mergeL a1.parts ps⟩ : Ac) = mergeA a1 ⟨cn, ps⟩) := Lib.hid rfl
      rw [HAM.out] at HM
      obtain ⟨ac0, hac0⟩ : ∃ x, a1.count = x := ⟨_, rfl⟩
      rw [hac0] at HM D1
      obtain ⟨am, ham⟩ : ∃ x, mergeA a1 ⟨cn, ps⟩ = x := ⟨_, rfl⟩
      rw [ham] at HM HOLD
      have HU : Hid (∀ w', Fr No wr w' → w'.cell? ⟨g, j * 3, none⟩ = some (.slice uA un uc) ∧ w'.cell? ⟨g, j * 3 + 1, none⟩ = some (.int .i64 ac0) ∧ w'.cell? ⟨g, j * 3 + 2, none⟩ = some (.slice qA qn qc) ∧ w'.frozen? ⟨g, j * 3 + 1, none⟩ = false ∧ w'.frozen? ⟨g, j * 3 + 2, none⟩ = false ∧ w'.cell? ⟨y, 0, none⟩ = some (.int .i64 cn) ∧ w'.cell? ⟨y, 1, none⟩ = some (.slice pA pn pc)) := Lib.hid fun w' f' => by
        have e := f'.block g hg id
        have z1 := HFZ.out (j * 3 + 1)
        have z2 := HFZ.out (j * 3 + 2)
        refine ⟨(cell_of_heap e).trans D0.out, (cell_of_heap e).trans D1.out, (cell_of_heap e).trans D2.out, ?_, ?_, ((HBK.out.no HF0.out).no f').cell 0, ((HBK.out.no HF0.out).no f').cell 1⟩
        · simp only [World.frozen?] at z1 ⊢; rw [e]; exact z1
        · simp only [World.frozen?] at z2 ⊢; rw [e]; exact z2
      clear ha1 ha2 hqn hac0 ham hps
      go_upto_region 5 with (go_at_call 26; first
        | (refine (HC1.out _ HFA.out).mono ?_; rintro e1 w6 ⟨rfl, f6⟩; have HFB := Lib.hid (HFA.out.tr f6); clear f6)
        | (refine (HC1.out _ (Fr.refl _ _)).mono ?_; rintro e1 w5 ⟨rfl, f5⟩; have HFA := Lib.hid f5; have d0 := (HU.out w5 f5).1; clear f5))
      clear d0
      obtain ⟨wq, hwq⟩ : ∃ wq, w6 = wq := ⟨_, rfl⟩
      have HFQ : Hid (Fr No wr wq) := Lib.hid (by rw [← hwq]; exact HFB.out)
      rw [hwq]
      obtain ⟨d0, d1, d2, z1, z2, y0, y1⟩ := HU.out wq HFQ.out
      have HEN := Lib.hid (fun (w3 : World) (v3 : Value) (f3 : Fr No wq w3) (hpo : PO wq.heap.size w3 v3 am.parts) => HEND.out _ _ (HOLD.out wq w3 v3 (HF0.out.tr HFQ.out) f3 hpo))
      have HU2 := Lib.hid (fun (w' : World) (f : Fr No wq w') => HU.out w' (HFQ.out.tr f))
      have HM2 := Lib.hid (fun (w' : World) (f : Fr No wq w') => HM.out w' (HFQ.out.tr f))
      clear hwq HU HM HOLD z1 z2
      go_region_law (go_simp; go_at_call 68; refine (HM2.out _ (by first | exact Fr.refl _ _ | exact (Fr.refl _ _).drew)).mono ?_; rintro e1 w3 ⟨v3, rfl, hpo, f3⟩; have f13 : Fr No wq w3 := (Fr.refl No wq).drew.trans f3 fun _ _ h => h; obtain ⟨-, u1, u2, z1, z2, -, -⟩ := HU2.out w3 f13; have HE3 := Lib.hid (HEN.out w3 v3 f13 hpo); obtain ⟨V3, k3, rfl, -⟩ := hpo.pr.form; clear hpo f3 f13)
      all_goals (go_simp; go_wp2_with fail)
      all_goals go_ret
      all_goals exact HE3.out
    · have hqq : (q == 0) = false := by simpa using (by omega : ¬ q = 0)
      have hq0 : (0 : Int) ≤ q := by omega
      have d0 := D0.out
      go_upto_region 7 with (go_at_call 26; first
        | (refine (HC1.out _ HFA.out).mono ?_; rintro e1 w6 ⟨rfl, f6⟩; have HF := Lib.hid (HF0.out.tr (HFA.out.tr f6)); clear f6)
        | (refine (HC1.out _ (Fr.refl _ _)).mono ?_; rintro e1 w5 ⟨rfl, f5⟩; have HFA := Lib.hid f5; have d0 := (cell_of_heap (f5.block g hg id)).trans D0.out; clear f5))
      clear d0
      obtain ⟨kA, kc, w1, r1, g1, A2, c2, w2, r2, g2, HNEW0⟩ := put_new (a := ⟨cn, ps⟩) HL.out hX HB.out rfl HF.out HKV.out hkl hl (Nat.le_of_lt HJL.out) HLT.out (fun _ => ⟨fun h => by have := HNG.out.2 h; omega, fun h => by have := HZ.out.2 h; omega⟩)
      have HR1 := Lib.hid r1
      have HR2 := Lib.hid r2
      have HNEW := Lib.hid HNEW0
      have b0 := (HBK.out.no g2).cell 0
      have b1 := (HBK.out.no g2).cell 1
      have HM := Lib.hid (rmerge_any cn 0 ps [] _ (.slice none 0 0) w2 (HPS.out.no g2) hps (K2 := No) (.inl ⟨rfl, rfl⟩) zA_lok)
      rw [EM.out] at HM
      have HKL := Lib.hid hkl
      have hsl1 := fun w' : World => slice_lo (w := w') (A := some ⟨g, 0, none⟩) (n := n) (c := c) (j := j) (by omega) hnc
      have hsl2 := fun w' : World => slice_hi (w := w') (A := some ⟨g, 0, none⟩) (n := n) (c := c) (j := j) (by omega) hnc
      obtain ⟨A6, hA6⟩ : ∃ A6, (if c = j then (some ⟨g, 0, none⟩ : Option Addr) else (some ⟨g, 0, none⟩ : Option Addr).map (·.add (j * 3))) = A6 := ⟨_, rfl⟩
      rw [hA6] at HNEW
      simp only [hA6] at hsl2
      obtain ⟨n6, hn6⟩ : ∃ n6, n - j = n6 := ⟨_, rfl⟩
      rw [hn6] at HNEW
      simp only [hn6] at hsl2
      obtain ⟨c6, hc6⟩ : ∃ c6, c - j = c6 := ⟨_, rfl⟩
      rw [hc6] at HNEW
      simp only [hc6] at hsl2
      obtain ⟨kl, hkl2⟩ : ∃ kl, k.length = kl := ⟨_, rfl⟩
      rw [hkl2] at HR1 HNEW
      obtain ⟨am, ham⟩ : ∃ am, mergeA zA ⟨cn, ps⟩ = am := ⟨_, rfl⟩
      rw [ham] at HM HNEW
      clear r1 r2 g1 g2 HNEW0 hA6 hn6 hc6 hkl2 ham
      go_upto_region 9 with (at_builtin; refine wpList_add rfl _ _ _ _ rfl _ _ _ _ rfl rfl (HR1.out _) ?_)
      go_upto_region 11 with (at_builtin; refine wpList_add rfl _ _ _ _ rfl _ _ _ _ rfl rfl (HR2.out _) ?_)
      clear hsl1
      go_upto_region 12 with (first
        | (go_at_call 68; refine HM.out.mono ?_; rintro e1 w3 ⟨v3, rfl, hpo3, f3⟩; obtain ⟨A4, c4, w4, r4, A5, n5, c5, w5, r5, hT⟩ := HNEW.out w3 v3 f3 hpo3; have HR4 := Lib.hid r4; have HR5 := Lib.hid r5; have HT := Lib.hid hT; clear r4 r5 hT hpo3 f3)
        | (at_builtin; refine wpList_add rfl _ _ _ _ rfl _ _ _ _ rfl rfl (HR4.out _) ?_))
      go_wp2_with (at_builtin; refine wpList_add rfl _ _ _ _ rfl _ _ _ _ rfl rfl (HR5.out _) ?_)
      go_ret
      exact HEND.out _ _ HT.out
  · have hji : (n : Int) ≤ (j : Int) := by omega
    obtain rfl : j = n := by omega
    clear hjk hj hf
    have HF := HF0
    go_upto_region 7 with fail
    obtain ⟨kA, kc, w1, r1, g1, A2, c2, w2, r2, g2, HNEW0⟩ := put_new (a := ⟨cn, ps⟩) HL.out hX HB.out rfl HF.out HKV.out hkl hl (Nat.le_of_eq HN.out) HLT.out (fun h => absurd h (by have := HN.out; omega))
    have HR1 := Lib.hid r1
    have HR2 := Lib.hid r2
    have HNEW := Lib.hid HNEW0
    have b0 := (HBK.out.no g2).cell 0
    have b1 := (HBK.out.no g2).cell 1
    have HM := Lib.hid (rmerge_any cn 0 ps [] _ (.slice none 0 0) w2 (HPS.out.no g2) hps (K2 := No) (.inl ⟨rfl, rfl⟩) zA_lok)
    rw [EM.out] at HM
    have HKL := Lib.hid hkl
    have hsl1 := fun w' : World => slice_lo (w := w') (A := A) (n := j) (c := c) (j := j) (by omega) hnc
    have hsl2 := fun w' : World => slice_hi (w := w') (A := A) (n := j) (c := c) (j := j) (by omega) hnc
    obtain ⟨A6, hA6⟩ : ∃ A6, (if c = j then A else A.map (·.add (j * 3))) = A6 := ⟨_, rfl⟩
    rw [hA6] at HNEW
    simp only [hA6] at hsl2
    obtain ⟨n6, hn6⟩ : ∃ n6, j - j = n6 := ⟨_, rfl⟩
    rw [hn6] at HNEW
    simp only [hn6] at hsl2
    obtain ⟨c6, hc6⟩ : ∃ c6, c - j = c6 := ⟨_, rfl⟩
    rw [hc6] at HNEW
    simp only [hc6] at hsl2
    obtain ⟨kl, hkl2⟩ : ∃ kl, k.length = kl := ⟨_, rfl⟩
    rw [hkl2] at HR1 HNEW
    obtain ⟨am, ham⟩ : ∃ am, mergeA zA ⟨cn, ps⟩ = am := ⟨_, rfl⟩
    rw [ham] at HM HNEW
    clear r1 r2 g1 g2 HNEW0 hA6 hn6 hc6 hkl2 ham
    go_upto_region 9 with (at_builtin; refine wpList_add rfl _ _ _ _ rfl _ _ _ _ rfl rfl (HR1.out _) ?_)
    go_upto_region 11 with (at_builtin; refine wpList_add rfl _ _ _ _ rfl _ _ _ _ rfl rfl (HR2.out _) ?_)
    clear hsl1
    go_upto_region 12 with (first
      | (go_at_call 68; refine HM.out.mono ?_; rintro e1 w3 ⟨v3, rfl, hpo3, f3⟩; obtain ⟨A4, c4, w4, r4, A5, n5, c5, w5, r5, hT⟩ := HNEW.out w3 v3 f3 hpo3; have HR4 := Lib.hid r4; have HR5 := Lib.hid r5; have HT := Lib.hid hT; clear r4 r5 hT hpo3 f3)
      | (at_builtin; refine wpList_add rfl _ _ _ _ rfl _ _ _ _ rfl rfl (HR4.out _) ?_))
    go_wp2_with (at_builtin; refine wpList_add rfl _ _ _ _ rfl _ _ _ _ rfl rfl (HR5.out _) ?_)
    go_ret
    exact HEND.out _ _ HT.out
end Go.Proofs.YtlpglijikmnopaaGreatDoor
