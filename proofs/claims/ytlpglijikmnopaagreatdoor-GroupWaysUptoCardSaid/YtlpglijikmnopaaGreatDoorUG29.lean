/- The landed Filter. -/
import Derived.Test.YtlpglijikmnopaaGreatDoorUG18
import Derived.Test.YtlpglijikmnopaaGreatDoorUG27
import Derived.Test.YtlpglijikmnopaaGreatDoorUG26
namespace Go.Proofs.YtlpglijikmnopaaGreatDoor
open Go.RowKit Go.Maps Go.Sort Go.Proofs
set_option linter.unusedVariables false

/-- A row more, whose key and parts are new. -/
theorem RG.add2 {B n1 : Nat} {w wx : World} {v kv zv : Value} {l : List Rw} {k : Ky} {z : Ac} (h : RG B n1 w v l) (f : Fr No w wx) (hkr : KRz (fun j => w.heap.size ≤ j) wx kv k) (hz : PO w.heap.size wx zv z.parts) (h1 : B ≤ n1 ∧ n1 ≤ w.heap.size) (hl : l.length < 4000000) :
    ∃ A c w', (∀ ty, (Builtin.append_ #[28, 28] ty #[v, .slice (some ⟨wx.heap.size, 0, none⟩) 1 1]).run Tryz.prog (wx.alloc (.cells #[kv, .int .i64 z.count, zv] 50)) = .ok (.slice A (l.length + 1) c) w') ∧ RG B n1 w' (.slice A (l.length + 1) c) (l ++ [⟨k, z⟩]) ∧ Fr (fun j => v.ownBlock = some j) w w' := by
  obtain ⟨A, c, w', hr, hg, hf, ho⟩ := GrX.add (bytes := 56) rwU_elem (h.keep f) (by have := f.size; omega) 28 Tryz.underlying28 (.agg #[.slice none 0 0, .int .i64 0, .slice none 0 0]) (by kernel_rfl) rfl (by decide) (⟨k, z⟩ : Rw) [kv, .int .i64 z.count, zv] rfl
    (fun u hu => by
      simp only [List.mem_cons, List.not_mem_nil, or_false] at hu
      rcases hu with rfl | rfl | rfl
      · exact hkr.one
      · rfl
      · exact hz.pr.one) (K' := fun j => w.heap.size ≤ j)
    ⟨kv, zv, rfl, hkr, hz.prz⟩
    (fun j hj _ => ⟨by omega, fun e => by
      have := h.lt j e
      omega⟩) (by omega) (by unfold maxLen; omega)
  exact ⟨A, c, w', hr, hg, f.any.trans hf fun _ _ h => h⟩
def keepL (M : Fc → Bool) (d : List Nat) (l : List Rw) : List Rw := l.filter fun r => M ⟨factD r.key d, []⟩
theorem keepL_step {M : Fc → Bool} {d : List Nat} {l : List Rw} {j : Nat} (h : j < l.length) : keepL M d (l.take (j + 1)) = keepL M d (l.take j) ++ (if M ⟨factD l[j].key d, []⟩ = true then [l[j]] else []) := by
  unfold keepL
  rw [take_succ h, List.filter_append]
  congr 1
  cases hc : M ⟨factD l[j].key d, []⟩ with
  | true => simp [hc]
  | false => simp [hc]
theorem PO.fr {b : Nat} {w w' : World} {v : Value} {l : List Pt} {F : Nat → Prop} (h : PO b w v l) (f : Fr F w w') (hF : ∀ k, b ≤ k → ¬ F k) : PO b w' v l := by
  rcases h with h | ⟨g, c, cs, h1, h2, h3, h4, h5, h6⟩
  · exact .inl h
  · exact .inr ⟨g, c, cs, h1, h2, h3, h4, h5.of (f.block g h5.lt (hF g h4)), h6⟩
theorem boxA {w3 w6 : World} {pb b : Nat} {cnt : Int} {v : Value} {l : List Pt} (f : Fr No w3 w6) (h3 : w3.heap.size ≤ pb) (hb : Blk w6 pb 48 #[.int .i64 0, .slice none 0 0]) (hpo : PO b w6 v l) (hpb : pb < b) :
    Fr No w3 ((w6.setCell ⟨pb, 0, none⟩ (.int .i64 cnt)).setCell ⟨pb, 1, none⟩ v) ∧ Blk ((w6.setCell ⟨pb, 0, none⟩ (.int .i64 cnt)).setCell ⟨pb, 1, none⟩ v) pb 48 #[.int .i64 cnt, v] ∧ PO w3.heap.size ((w6.setCell ⟨pb, 0, none⟩ (.int .i64 cnt)).setCell ⟨pb, 1, none⟩ v) v l := by
  refine ⟨(f.setCell (p := ⟨pb, 0, none⟩) (fun h => absurd h (by show ¬ pb < _; omega)) _).setCell (p := ⟨pb, 1, none⟩) (fun h => absurd h (by show ¬ pb < _; omega)) _, (hb.set_ 0 _).set_ 1 _, ?_⟩
  have f2 : Fr (fun k => k = pb) w6 ((w6.setCell ⟨pb, 0, none⟩ (.int .i64 cnt)).setCell ⟨pb, 1, none⟩ v) := ((Fr.refl (fun k => k = pb) w6).setCell (p := ⟨pb, 0, none⟩) (fun _ => rfl) _).setCell (p := ⟨pb, 1, none⟩) (fun _ => rfl) _
  exact (hpo.fr f2 fun k hk e => by omega).low (by omega)
theorem boxB {w3 w6 : World} {b : Nat} {cnt : Int} {v : Value} {l : List Pt} (f : Fr No w3 w6) (hpo : PO b w6 v l) (hb : w3.heap.size ≤ b) :
    Fr No w3 (w6.alloc (.cells #[.int .i64 cnt, v] 48)) ∧ Blk (w6.alloc (.cells #[.int .i64 cnt, v] 48)) w6.heap.size 48 #[.int .i64 cnt, v] ∧ PO w3.heap.size (w6.alloc (.cells #[.int .i64 cnt, v] 48)) v l :=
  ⟨f.alloc _, Blk.new w6 48 _, (hpo.no ((Fr.refl No w6).alloc _)).low hb⟩
/-- What a round of Filter leaves. -/
def FRel (B N1 : Nat) (M : Fc → Bool) (d : List Nat) (l : List Rw) (w1 : World) (j : Nat) (A : Option Addr) (n c : Nat) (wx : World) : Prop := n = (keepL M d (l.take (j + 1))).length ∧ RG B N1 wx (.slice A n c) (keepL M d (l.take (j + 1))) ∧ Fr (fun k => N1 ≤ k) w1 wx
theorem filter_relW {B N1 n2 : Nat} {M : Fc → Bool} {d : List Nat} {l : List Rw} {w1 wx : World} {j g1 n c : Nat} {A : Option Addr} (hw : wrap64 ((j : Int) + 1) = (j : Int) + 1) (hj : j + 1 + g1 = n2) (h : Hid (FRel B N1 M d l w1 j A n c wx)) :
    Hid (∃ (j2 a : Nat) (A2 : Option Addr) (c2 : Nat), Value.int .i64 (wrap64 ((j : Int) + 1)) = .int .i64 (j2 : Nat) ∧ j2 + g1 = n2 ∧ Value.slice A n c = .slice A2 a c2 ∧ a = (keepL M d (l.take j2)).length ∧ RG B N1 wx (.slice A2 a c2) (keepL M d (l.take j2)) ∧ Fr (fun k => N1 ≤ k) w1 wx) := by
  obtain ⟨h1, h2, h3⟩ := h.out
  rw [hw]
  exact Lib.hid ⟨j + 1, n, A, c, by go_num, hj, rfl, h1, h2, h3⟩
theorem filter_rel {B N1 n2 : Nat} {M : Fc → Bool} {d : List Nat} {l : List Rw} {w1 wx : World} {j g1 n c : Nat} {A : Option Addr} (hj : j + 1 + g1 = n2) (h : Hid (FRel B N1 M d l w1 j A n c wx)) :
    Hid (∃ (j2 a : Nat) (A2 : Option Addr) (c2 : Nat), Value.int .i64 ((j : Int) + 1) = .int .i64 (j2 : Nat) ∧ j2 + g1 = n2 ∧ Value.slice A n c = .slice A2 a c2 ∧ a = (keepL M d (l.take j2)).length ∧ RG B N1 wx (.slice A2 a c2) (keepL M d (l.take j2)) ∧ Fr (fun k => N1 ≤ k) w1 wx) := by
  obtain ⟨h1, h2, h3⟩ := h.out
  exact Lib.hid ⟨j + 1, n, A, c, by go_num, hj, rfl, h1, h2, h3⟩
set_option maxRecDepth 100000 in
set_option maxHeartbeats 8000000 in
theorem filterR_any {B : Nat} {av wv : Value} {l : List Rw} {f : Int} {M : Fc → Bool} (w : World) (hBs : w.heap.size = B) (ha : RR (fun k => k < B) w av l) (hok : Rok l) (hl : l.length < 4000000) (hM : MeantC wv M B w) (hwv : ∃ p, wv = .pointer p) :
    Calls Tryz.prog 22 #[av, .int .i64 f, wv] w (TellsH B (keepL M (listB f) l) w) := by
  obtain ⟨p, rfl⟩ := hwv
  obtain ⟨A1, k1, rfl, -⟩ := rr_form ha
  obtain ⟨nA, hnA⟩ : ∃ n, l.length = n := ⟨_, rfl⟩
  have HBS := Lib.hid hBs
  have HA := Lib.hid ha
  have HNA := Lib.hid hnA
  rw [hnA] at HA
  have HOK := Lib.hid hok
  have HL := Lib.hid hl
  have HM := Lib.hid hM
  have HLF := Lib.hid (fun w' => list_any f w')
  rw [hnA]
  clear hBs ha hok hl hM hnA
  go_enter Tryz.func22, Tryz.ntmps22
  go_upto_region 2 with (go_at_call 46; refine (HLF.out _).mono ?_; rintro e w1 ⟨dv, rfl, hdr, f1⟩; obtain ⟨D, dn, dc, rfl, hdn⟩ := row_form hdr; have HDR := Lib.hid hdr; have HF1 := Lib.hid f1; have HDN := Lib.hid hdn; clear hdr f1 hdn)
  obtain ⟨N1, hN1⟩ : ∃ y, w1.heap.size = y := ⟨_, rfl⟩
  obtain ⟨w2, hw2⟩ : ∃ x, w1.alloc (.cells #[] 50) = x := ⟨_, rfl⟩
  have HF2 : Hid (Fr No w1 w2) := Lib.hid (by rw [← hw2]; exact (Fr.refl No w1).alloc _)
  have HG2 : Hid (RG B N1 w2 (.slice (some ⟨N1, 0, none⟩) 0 0) []) := Lib.hid (by
    refine ⟨fun _ => False, [], ⟨by simp, .inr ⟨N1, 0, #[], rfl, Nat.le_refl _, ?_, Nat.le_refl _, by decide, by simp, by simp⟩⟩, fun j hj => absurd hj (by simp), fun k hk => hk.elim⟩
    rw [← hw2, ← hN1]
    exact heap_alloc_new w1 _)
  have HW2 := Lib.hid hw2
  have HN1 := Lib.hid hN1
  have HBN : Hid (B ≤ N1) := Lib.hid (by have := HF1.out.size; have := HBS.out; omega)
  clear hw2 hN1
  go_upto_region 3 with fail
  rw [HN1.out, HW2.out]
  go_wp2_with fail
  go_loopg [8, 10, 11, 17] nA (fun g r8 r10 r11 r17 wr => Hid (∃ (j a : Nat) (A2 : Option Addr) (c2 : Nat), r17 = .int .i64 (j : Nat) ∧ j + g = nA ∧ r8 = .slice A2 a c2 ∧ a = (keepL M (listB f) (l.take j)).length ∧ RG B N1 wr (.slice A2 a c2) (keepL M (listB f) (l.take j)) ∧ Fr (fun k => N1 ≤ k) w1 wr))
  case atStart => exact Lib.hid ⟨0, 0, _, _, rfl, by omega, rfl, rfl, HG2.out, HF2.out.any⟩
  case round =>
    obtain ⟨j, a, A2, c2, rfl, hjk, rfl, ha, hrg, hf⟩ := hrel.out
    clear hrel
    have HAL := Lib.hid ha
    have HRG := Lib.hid hrg
    have HFR := Lib.hid hf
    clear ha hrg
    by_cases hj : j < nA
    · have hjl : j < l.length := by rw [HNA.out]; exact hj
      have hji : (j : Int) < (nA : Int) := by omega
      have fwr : Fr (fun k => N1 ≤ k) w wr := (HF1.out.any (G := fun k => N1 ≤ k)).trans hf fun _ _ h => h
      have hrr : RR (fun k => k < B) wr (.slice A1 nA k1) l := RowE.mono HA.out (fun k hk hlt => ⟨hk, fwr.block k hlt (by have := HBN.out; omega)⟩) fun x cs hx => rwG_elem.mono _ _ _ _ _ _ hx fun k hk hlt => ⟨hk, fwr.block k hlt (by have := HBN.out; omega)⟩
      have hdr : RowE (fun k => w.heap.size ≤ k) wr 1 (natG (fun k => w.heap.size ≤ k) wr) (.slice D dn dc) (listB f) := RowE.mono HDR.out (fun k hk hlt => ⟨hk, hf.block k hlt (by have := HN1.out; omega)⟩) fun _ _ h => h
      obtain ⟨gc, off, B1, n1, d1, B2, n2, d2, rfl, -, hgl, x0, x1, x2, hkr, hpr, -⟩ := rr_at hrr hjl
      have hrok := HOK.out _ (List.getElem_mem hjl)
      have HSTEP := Lib.hid (keepL_step (M := M) (d := listB f) hjl)
      obtain ⟨r, hr⟩ : ∃ r, l[j] = r := ⟨_, rfl⟩
      rw [hr] at x1 hkr hpr hrok HSTEP
      obtain ⟨q, hq⟩ : ∃ q, wr.heap.size = q := ⟨_, rfl⟩
      obtain ⟨cnt, hcnt⟩ : ∃ c, r.acc.count = c := ⟨_, rfl⟩
      rw [hcnt] at x1
      obtain ⟨w3, hw3⟩ : ∃ x, wr.alloc (.cells #[.slice B1 n1 d1, .int .i64 cnt, .slice B2 n2 d2] 50) = x := ⟨_, rfl⟩
      have f3 : Fr No wr w3 := by rw [← hw3]; exact (Fr.refl No wr).alloc _
      have hqb : Blk w3 q 50 #[.slice B1 n1 d1, .int .i64 cnt, .slice B2 n2 d2] := by rw [← hw3, ← hq]; exact Blk.new wr 50 _
      have HFC := Lib.hid (factOf_any w3 (hkr.no f3) (RowE.at_ natG_elem hdr f3) (fun x hx => by
        unfold listB at hx
        split at hx
        · have := (List.mem_filter.1 hx).1; simpa using this
        · cases hx))
      have HMT : Hid (∀ w4 A c, Fr No w3 w4 → KR (fun k => w3.heap.size ≤ k) w4 (.slice A 6 c) (factD r.key (listB f)) → Calls Tryz.prog 54 #[.pointer p, .agg #[.slice A 6 c, .slice none 0 0]] w4 (TellsB (M ⟨factD r.key (listB f), []⟩) w4)) := Lib.hid fun w4 A c f4 hk => by
        have hfw : Fr (fun k => N1 ≤ k) w w4 := fwr.trans (f3.trans f4 fun _ _ h => h) fun _ _ h => h.elim
        exact HM.out _ w4 _ _ ⟨factD r.key (listB f), []⟩ (hfw.below_of (by rw [HBS.out]; exact Nat.le_refl _) fun k hk => by have := HBN.out; omega) hk (RowE.nil _ _ _ _)
      obtain ⟨b, hb⟩ : ∃ b, M ⟨factD r.key (listB f), []⟩ = b := ⟨_, rfl⟩
      rw [hb] at HMT HSTEP
      have HQB := Lib.hid hqb
      have HKR := Lib.hid (hkr.no f3)
      have HPR := Lib.hid (hpr.no f3)
      have HROK := Lib.hid hrok
      have HF3 := Lib.hid f3
      have HQ := Lib.hid hq
      have HW3 := Lib.hid hw3
      have q0 := hqb.cell 0
      have hql := hqb.lt
      obtain ⟨g1, rfl⟩ := pos_succ hjk hj
      have HJG : Hid (j + 1 + g1 = nA) := Lib.hid (assoc1 hjk)
      have hnb : j < 4000000 := by have := HL.out; have := HNA.out; omega
      have HWRJ : Hid (wrap64 ((j : Int) + 1) = (j : Int) + 1) := Lib.hid (by unfold wrap64; omega)
      have HAC : Hid (r = ⟨r.key, ⟨cnt, r.acc.parts⟩⟩) := Lib.hid (by rw [← hcnt])
      clear hf fwr hrr hdr hkr hpr hrok hr hq hcnt hw3 f3 hqb hb
      go_upto_region 6 with fail
      rw [HQ.out, HW3.out]
      cases b with
      | false =>
        have HEND : Hid (∀ wx, Fr No w3 wx → FRel B N1 M (listB f) l w1 j A2 a c2 wx) := Lib.hid fun wx fx => by
          have hk : keepL M (listB f) (l.take (j + 1)) = keepL M (listB f) (l.take j) := by rw [HSTEP.out]; simp
          exact ⟨by rw [hk]; exact HAL.out, by rw [hk]; exact HRG.out.keep (HF3.out.trans fx fun _ _ h => h), HFR.out.trans (HF3.out.trans fx fun _ _ h => h) fun _ _ h => h.elim⟩
        go_wp2_with (first
          | (go_at_call 55; refine HFC.out.mono ?_; rintro e w4 ⟨A4, c4, rfl, hk4, f4⟩; have HM4 := Lib.hid (HMT.out w4 A4 c4 f4 hk4); have HF4 := Lib.hid f4; clear hk4 f4)
          | (go_at_call 54; refine HM4.out.mono ?_; rintro e w5 ⟨rfl, f5⟩; have HE5 := Lib.hid (HEND.out w5 (HF4.out.trans f5 fun _ _ h => h)); clear f5))
        go_roundg g1
        case rel => first | exact filter_relW HWRJ.out HJG.out HE5 | exact filter_rel HJG.out HE5
        all_goals first | exact Nat.lt_succ_self _ | (go_light; omega)
      | true =>
        go_upto_region 7 with (first
          | (go_at_call 55; refine HFC.out.mono ?_; rintro e w4 ⟨A4, c4, rfl, hk4, f4⟩; have HM4 := Lib.hid (HMT.out w4 A4 c4 f4 hk4); have HF4 := Lib.hid f4; clear hk4 f4)
          | (go_at_call 54; refine HM4.out.mono ?_; rintro e w5 ⟨rfl, f5⟩; have HF5 := Lib.hid (HF4.out.trans f5 fun _ _ h => h); clear f5))
        have q15 := (HQB.out.no HF5.out).cell 1
        have q25 := (HQB.out.no HF5.out).cell 2
        have hq5 := (HQB.out.no HF5.out).lt
        have HCL : Hid (∀ w', Fr No w5 w' → Calls Tryz.prog 56 #[.slice B2 n2 d2] w' (TellsL r.acc.parts w')) := Lib.hid fun w' f' => clone_any w' (HPR.out.no (HF5.out.trans f' fun _ _ h => h)) HROK.out.2
        clear q0 hql
        go_cut [11] (fun r11 wx => ∃ pb Z zn zc, r11 = .pointer (some ⟨pb, 0, none⟩) ∧ Hid (Fr No w3 wx ∧ Blk wx pb 48 #[.int .i64 cnt, .slice Z zn zc] ∧ PO w3.heap.size wx (.slice Z zn zc) r.acc.parts))
        case first =>
          go_region_law (first
            | (go_simp; go_at_call 56; refine (HCL.out _ (((Fr.refl No w5).alloc (.cells #[.int .i64 0, .slice none 0 0] 48)).drew)).mono ?_; rintro e w6 ⟨pv, rfl, hpo, f6⟩; have f56 : Fr No w5 w6 := ((Fr.refl No w5).alloc (.cells #[.int .i64 0, .slice none 0 0] 48)).drew.trans f6 fun _ _ h => h; have q16 := (HQB.out.no (HF5.out.trans f56 fun _ _ h => h)).cell 1; have hq6 := (HQB.out.no (HF5.out.trans f56 fun _ _ h => h)).lt; have HF6 := Lib.hid (HF5.out.trans f56 fun _ _ h => h); have HPO6 := Lib.hid (hpo.low (b' := w3.heap.size) (by have := HF5.out.size; have h9 := (((Fr.refl No w5).alloc (.cells #[.int .i64 0, .slice none 0 0] 48)).drew).size; omega)); have hb0 : Blk w6 w5.heap.size 48 #[.int .i64 0, .slice none 0 0] := (Blk.no (Blk.new w5 48 _) ((Fr.refl No _).drew)).no f6; have pc0 := hb0.cell 0; have pc1 := hb0.cell 1; have pz0 := hb0.frozen 0; have pz1 := hb0.frozen 1; have HAB := Lib.hid (boxA (cnt := cnt) HF6.out (by have := HF5.out.size; exact this) hb0 hpo (by show w5.heap.size < ((w5.alloc _).drew).heap.size; show w5.heap.size < (w5.alloc _).heap.size; simp)); have hpl := hb0.lt; obtain ⟨Z, zc, rfl, -⟩ := PR.form hpo.pr; clear hpo f6 f56 hb0)
            | (go_simp; go_at_call 56; refine (HCL.out _ (by first | exact Fr.refl _ _ | exact (Fr.refl _ _).drew | exact (Fr.refl _ _).drew.drew)).mono ?_; rintro e w6 ⟨pv, rfl, hpo, f6⟩; have f56 : Fr No w5 w6 := (Fr.refl No w5).drew.trans f6 fun _ _ h => h; have q16 := (HQB.out.no (HF5.out.trans f56 fun _ _ h => h)).cell 1; have hq6 := (HQB.out.no (HF5.out.trans f56 fun _ _ h => h)).lt; have HF6 := Lib.hid (HF5.out.trans f56 fun _ _ h => h); have HPO6 := Lib.hid (hpo.low (b' := w3.heap.size) (by have := HF5.out.size; show _ ≤ w5.drew.heap.size; exact this)); have HAB := Lib.hid (boxB (cnt := cnt) HF6.out hpo (by have := HF5.out.size; exact this)); obtain ⟨Z, zc, rfl, -⟩ := PR.form hpo.pr; clear hpo f6 f56))
          all_goals (go_simp; go_wp2_with fail)
          all_goals go_meet
          all_goals exact ⟨_, _, _, _, rfl, HAB⟩
        case rest =>
          obtain ⟨pb, Z, zn, zc, rfl, HX⟩ := hcut
          obtain ⟨fx, hpb, hpo⟩ := HX.out
          have q0c := (HQB.out.no fx).cell 0
          have hqc := (HQB.out.no fx).lt
          have p0 := hpb.cell 0
          have p1 := hpb.cell 1
          have hpl := hpb.lt
          have HPB := Lib.hid hpb
          have HCS : Hid (∀ w', Fr No wc w' → Calls Tryz.prog 57 #[.slice B1 n1 d1] w' (TellsRz r.key w')) := Lib.hid fun w' f' => cloneZ_any w' (HKR.out.no (fx.trans f' fun _ _ h => h)) (by have := HROK.out.1.1; omega)
          have HADD : Hid (∀ w8 kv, Fr No wc w8 → KRz (fun k => wc.heap.size ≤ k) w8 kv r.key → ∃ A c w', (∀ ty, (Builtin.append_ #[28, 28] ty #[.slice A2 a c2, .slice (some ⟨w8.heap.size, 0, none⟩) 1 1]).run Tryz.prog (w8.alloc (.cells #[kv, .int .i64 cnt, .slice Z zn zc] 50)) = .ok (.slice A (a + 1) c) w') ∧ Hid (FRel B N1 M (listB f) l w1 j A (a + 1) c w')) := Lib.hid fun w8 kv f8 hkv => by
            have hs3 := HF3.out.size
            have hs4 := fx.size
            have hrs := HFR.out.size
            have hal := HAL.out
            obtain ⟨A, c, w', h1, h2, h3⟩ := RG.add2 (z := ⟨cnt, r.acc.parts⟩) HRG.out (HF3.out.trans (fx.trans f8 fun _ _ h => h) fun _ _ h => h) (KRz.mono hkv (fun k hk _ => ⟨by omega, rfl⟩) fun _ _ h => h) ((hpo.no f8).low hs3) ⟨HBN.out, by have := HN1.out; omega⟩ (by
              have h5 : (keepL M (listB f) (l.take j)).length ≤ (l.take j).length := List.length_filter_le _ _
              have h6 : (l.take j).length ≤ j := List.length_take_le _ _
              omega)
            rw [← hal] at h1 h2
            have hk : keepL M (listB f) (l.take (j + 1)) = keepL M (listB f) (l.take j) ++ [r] := by rw [HSTEP.out]; simp
            refine ⟨A, c, w', h1, Lib.hid ⟨by rw [hk, List.length_append, ← hal]; rfl, ?_, HFR.out.trans h3 fun k _ h => (HRG.out.lt k h).1⟩⟩
            rw [hk]
            have e := HAC.out
            rw [← e] at h2
            exact h2
          clear fx hpb hpo
          go_upto_region 8 with fail
          go_region_law (first
            | (obtain ⟨A9, c9, w9, hrun, HE9⟩ := HEA; refine step_add (by rfl) _ _ _ _ (by rfl) _ _ _ _ (by rfl) (by rfl) (hrun _) ?_)
            | (obtain ⟨A9, c9, w9, hrun, HE9⟩ := HEB; refine step_add (by rfl) _ _ _ _ (by rfl) _ _ _ _ (by rfl) (by rfl) (hrun _) ?_)
            | (go_simp; go_at_call 57; refine (HCS.out _ (by first | exact Fr.refl _ _ | exact (Fr.refl _ _).drew | exact (Fr.refl _ _).drew.drew)).mono ?_; rintro e w8 ⟨kv, rfl, hkv, f8⟩; obtain ⟨Kv, kc, rfl, -⟩ := KRz.form hkv; have f58 : Fr No wc w8 := (Fr.refl No wc).drew.trans f8 fun _ _ h => h; have HEA := HADD.out w8 _ f58 hkv; have HEB := HADD.out w8.drew _ f58.drew (KRz.no hkv (Fr.refl _ _).drew); have p08 := (HPB.out.no f58).cell 0; have p18 := (HPB.out.no f58).cell 1; have hpl8 := (HPB.out.no f58).lt; clear hkv f8 f58))
          all_goals (go_simp; go_wp2_with fail)
          all_goals
            go_roundg g1
            case rel => first | exact filter_relW HWRJ.out HJG.out HE9 | exact filter_rel HJG.out HE9
            all_goals first | exact Nat.lt_succ_self _ | (go_light; omega)
    · have hji : (nA : Int) ≤ (j : Int) := by omega
      have HT : Hid (l.take j = l) := Lib.hid (List.take_of_length_le (by rw [HNA.out]; omega))
      go_wp2_with fail
      go_ret
      have hrg := HRG.out
      have hal := HAL.out
      rw [HT.out] at hrg hal
      have f1 : Fr (fun k => B ≤ k) w wr := (HF1.out.any (G := fun k => B ≤ k)).trans hf fun k _ h => by have := HBN.out; omega
      exact ⟨A2, a, c2, rfl, hal, hrg.rr HBN.out, ⟨f1.os, f1.tape, f1.output, f1.size, fun k hk _ => f1.block k hk (by have := HBS.out; omega)⟩⟩
end Go.Proofs.YtlpglijikmnopaaGreatDoor
