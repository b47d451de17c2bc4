/- CodecBack, walked. -/
import Derived.Test.YtcncnponhhcjhaaJ1
import Derived.Test.YtcncnponhhcjhaaH3
namespace Go.Proofs.Ytcncnponhhcjhaa
open Go.RowKit Go.Maps
set_option linter.unusedVariables false

/-! ### a stopped writer has nothing -/
def WS.Bare (S : WS) : Prop := S.fault ≠ 0 → S.data = []
def Keeps (f : WS → WS) : Prop := ∀ S : WS, S.Bare → (f S).Bare
theorem keeps_lay (m : List UInt8) : Keeps fun S => S.lay m := fun S h => by
  simp only [WS.lay]
  split
  · split
    · exact fun _ => rfl
    · exact fun h => absurd rfl h
  · exact h
theorem keeps_fail (e : Int) : Keeps fun S => S.fail e := fun S h => by
  simp only [WS.fail]
  split
  · exact fun _ => rfl
  · exact h
theorem keeps_count (n : Int) : Keeps fun S => S.count n := fun S h => by
  simp only [WS.count]
  split
  · exact keeps_fail 1 S h
  · exact keeps_lay _ S h
theorem keeps_text (s : List UInt8) : Keeps fun S => S.text s := fun S h => keeps_lay _ _ (keeps_count _ S h)
theorem keeps_fold {α : Type} {f : WS → α → WS} (hf : ∀ x, Keeps fun S => f S x) : ∀ l : List α, Keeps fun S => l.foldl f S
  | [] => fun S h => h
  | x :: l => fun S h => keeps_fold hf l _ (hf x S h)
theorem keeps_row {α : Type} {f : WS → α → WS} (hf : ∀ x, Keeps fun S => f S x) (l : List α) : Keeps fun S => S.row f l := fun S h => keeps_fold hf l _ (keeps_count _ S h)
theorem keeps_cell (c : CellP) : Keeps fun S => S.cell c := fun S h => by
  simp only [WS.cell]
  split
  · split
    · exact keeps_lay _ _ (keeps_lay _ S h)
    · split
      · exact keeps_text _ _ (keeps_lay _ S h)
      · exact keeps_lay _ S h
  · exact keeps_fail 1 S h
theorem keeps_fact (f : FactP) : Keeps fun S => S.fact f := fun S h => keeps_row (fun n => keeps_lay _) _ _ (keeps_row keeps_text _ S h)
theorem keeps_thing (t : ThingP) : Keeps fun S => S.thing t := by
  unfold WS.thing
  split
  · exact keeps_lay _
  split
  · exact keeps_lay _
  split
  · exact keeps_count _
  split
  · exact keeps_text _
  split
  · exact keeps_row keeps_text _
  split
  · exact keeps_cell _
  split
  · exact keeps_row keeps_cell _
  split
  · exact keeps_fact _
  split
  · exact keeps_row keeps_fact _
  · exact fun S h => keeps_row keeps_text _ _ (keeps_row keeps_text _ S h)
theorem bare_things (ts : List ThingP) : (ts.foldl WS.thing WS.zero).Bare := keeps_fold keeps_thing ts _ fun _ => rfl

/-! ### the bytes of a thing's facts -/
theorem normal_facts (t : ThingP) : ∀ f ∈ (normal t).facts, (bFact f).length ≤ (bThing t).length := by
  intro f hf
  unfold normal at hf
  unfold bThing
  by_cases h0 : t.kind = 0
  · rw [if_pos h0] at hf; simp at hf
  rw [if_neg h0] at hf ⊢
  by_cases h1 : t.kind = 1
  · rw [if_pos h1] at hf; simp at hf
  rw [if_neg h1] at hf ⊢
  by_cases h2 : t.kind = 2
  · rw [if_pos h2] at hf; simp at hf
  rw [if_neg h2] at hf ⊢
  by_cases h3 : t.kind = 3
  · rw [if_pos h3] at hf; simp at hf
  rw [if_neg h3] at hf ⊢
  by_cases h4 : t.kind = 4
  · rw [if_pos h4] at hf; simp at hf
  rw [if_neg h4] at hf ⊢
  by_cases h5 : t.kind = 5
  · rw [if_pos h5] at hf; simp at hf
  rw [if_neg h5] at hf ⊢
  by_cases h6 : t.kind = 6
  · rw [if_pos h6] at hf; simp at hf
  rw [if_neg h6] at hf ⊢
  by_cases h7 : t.kind = 7
  · rw [if_pos h7] at hf ⊢
    obtain rfl : f = any t.facts := by simpa using hf
    exact Nat.le_refl _
  rw [if_neg h7] at hf ⊢
  by_cases h8 : t.kind = 8
  · rw [if_pos h8] at hf ⊢
    obtain ⟨j, hj, rfl⟩ := List.mem_iff_getElem.1 hf
    exact Nat.le_trans (flat_one bFact t.facts j hj) (row_bound bFact t.facts)
  rw [if_neg h8] at hf ⊢
  simp at hf
theorem ThingAt.bound {K : Nat → Prop} {w : World} {t : ThingP} {lv cv fv mv : Value} (h : ThingAt K w t lv cv fv mv) : ThingAt (fun k => K k ∧ k < w.heap.size) w t lv cv fv mv :=
  ⟨h.kb, h.nb, h.sb, h.l.bound (by omega), h.c.bound (by omega), (h.f.bound (by omega)).of (fun _ _ => rfl) fun x cs hx => by
    obtain ⟨dv, mv, e, h1, h2⟩ := hx
    exact ⟨dv, mv, e, h1.bound (by omega), h2.bound (by omega)⟩, h.m.bound (by omega)⟩
theorem tcells_arr (k n : Int) (s : List UInt8) (l : List (List UInt8)) (cl : List CellP) (fl : List FactP) (ml : List (List UInt8)) (lv cv fv mv : Value) : (tcells ⟨k, n, s, l, cl, fl, ml⟩ lv cv fv mv).toArray = #[.int .i64 k, .int .i64 n, sv s, lv, cv, fv, mv] := rfl
theorem drop_flat (ts : List ThingP) (q : Nat) (h : q < ts.length) : (ts.drop q).flatMap bThing = bThing ts[q] ++ (ts.drop (q + 1)).flatMap bThing := by
  rw [List.drop_eq_getElem_cons h, List.flatMap_cons]
set_option maxRecDepth 100000 in
set_option maxHeartbeats 4000000 in
theorem codecback_any (A : Option Addr) (n c : Nat) (ts : List ThingP) (w : World) (hn : ts.length = n) (hm : n ≤ maxLen) (h : RowE (fun k => k < w.heap.size) w 7 (thingE (fun k => k < w.heap.size) w) (.slice A n c) ts) :
    Calls Try.prog 7 #[.slice A n c] w fun e w' => e = .returned (.bool true) ∧ Below w.heap.size w w' := by
  unfold maxLen at hm
  have HN := Lib.hid hn
  have HT := Lib.hid h
  have HNU := Lib.hid (things_nums h)
  have HPL := Lib.hid (laid ts)
  have HBA := Lib.hid (bare_things ts)
  clear hn h
  go_enter Try.func7, Try.ntmps7
  go_wp2_with fail
  refine (awake_any w).mono ?_
  rintro e w1 ⟨rfl, hb1⟩
  have B1 := Lib.hid hb1
  obtain ⟨g, hg⟩ : ∃ g, w1.heap.size = g := ⟨_, rfl⟩
  obtain ⟨w2, hw2⟩ : ∃ w2, w1.alloc (.cells #[.slice none 0 0, .int .i64 0] 52) = w2 := ⟨_, rfl⟩
  have hw := WAt.new w1
  have hb2 : Below w.heap.size w (w1.alloc (.cells #[.slice none 0 0, .int .i64 0] 52)) := hb1.alloc hb1.size _
  rw [hw2] at hw hb2
  rw [hg] at hw
  have HA2 := Lib.hid hw
  have B2 := Lib.hid hb2
  have HGB : Hid (w.heap.size ≤ g) := Lib.hid (hg ▸ hb1.size)
  clear hb1 hw hb2
  go_wp2
  clear hg hw2
  go_loopw [5] (fun i wr => ∃ j : Nat, ∃ v, j ≤ n ∧ i = .int .i64 j ∧ WAt wr (some g) v ((ts.take j).foldl WS.thing WS.zero) ∧ (∀ k, v.ownBlock = some k → w.heap.size ≤ k) ∧ Below w.heap.size w wr) (fun i _ => n - (intOf i).toNat)
  case atStart => exact ⟨0, _, by omega, rfl, HA2.out, by simp [Value.ownBlock], B2.out⟩
  case round =>
    obtain ⟨j, v, hj, rfl, hat, hv, hb⟩ := hrel
    have HB := Lib.hid hb
    have HAT := Lib.hid hat
    have HV := Lib.hid hv
    clear hb hat hv
    by_cases hlt : j < n
    · have hjl : j < ts.length := by rw [HN.out]; exact hlt
      obtain ⟨gt, off, lv, cv, fv, mv, rfl, hg, hall⟩ := thing_row HN.out HT.out j hjl
      obtain ⟨ht, c0, c1, c2, c3, c4, c5, c6⟩ := hall wr fun k hk => HB.out.block k hk
      have HTA := Lib.hid ht
      clear hall ht
      go_wp2_with fail
      refine (lay_any (some g) v _ (fun k => k < w.heap.size) ts[j] lv cv fv mv wr HAT.out HTA.out (Off.of HB.out.size HGB.out HV.out)).mono ?_
      rintro e w3 ⟨rfl, v3, h3, l3⟩
      have H3 := Lib.hid h3
      have V3 := Lib.hid (own_ge l3 HB.out.size HV.out)
      have B3 := Lib.hid (HB.out.trans (wl_below l3 HB.out.size HGB.out HV.out))
      clear h3 l3 c0 c1 c2 c3 c4 c5 c6
      go_wp2
      go_roundw
      case rel => exact ⟨j + 1, v3, by omega, by go_num, by rw [wfold_snoc ts j hjl]; exact H3.out, V3.out, B3.out⟩
      case measure => simp [intOf]; omega
    · obtain rfl : j = n := by omega
      have HS : Hid (WAt wr (some g) v (ts.foldl WS.thing WS.zero)) := Lib.hid (by have := HAT.out; rwa [← HN.out, List.take_length] at this)
      clear HAT
      go_wp2_with fail
      refine (wdone_any (some g) v _ wr HS.out).mono ?_
      rintro e w4 ⟨rfl, f4⟩
      have B4 := Lib.hid (HB.out.trans (f4.below.mono HB.out.size))
      have HLen := Lib.hid HS.out.len
      clear f4
      obtain ⟨S0, hS0⟩ : ∃ S0, ts.foldl WS.thing WS.zero = S0 := ⟨_, rfl⟩
      have HP2 := Lib.hid (HPL.out S0 hS0)
      rw [hS0] at HLen HS HBA ⊢
      clear hS0 HPL
      obtain ⟨D, F⟩ := S0
      by_cases hF : F = 0
      · subst hF
        obtain ⟨hok, hD0⟩ := HP2.out rfl
        have hD : D = ts.flatMap bThing := hD0
        clear hD0 HP2
        have hdl : D.length ≤ 65536 := HLen.out
        have HOK := Lib.hid hok
        have HDD := Lib.hid hD
        have HDL := Lib.hid hdl
        clear hD hok hdl
        go_wp2_with fail
        refine (read_any D w4).mono ?_
        rintro e w5 ⟨rfl, hw5⟩
        have R5 := Lib.hid (RAt.new w4 D (by have := HDL.out; omega))
        have B5 : Hid (Below w.heap.size w (w4.alloc (.cells #[sv D, .int .i64 0] 78))) := Lib.hid (B4.out.alloc B4.out.size _)
        have C5 := Lib.hid B4.out.size
        rw [hw5] at R5 B5
        obtain ⟨r, hr⟩ : ∃ r, w4.heap.size = r := ⟨_, rfl⟩
        rw [hr] at R5 C5 ⊢
        clear hw5 hr
        go_wp2
        go_loopw [9] (fun i wr => ∃ q : Nat, q ≤ j ∧ i = .int .i64 q ∧ RAt wr (some r) ⟨(ts.drop q).flatMap bThing, 0⟩ ∧ Below w.heap.size w wr) (fun i _ => j - (intOf i).toNat)
        case atStart => exact ⟨0, by omega, rfl, by have := R5.out; rwa [HDD.out] at this, B5.out⟩
        case round =>
          obtain ⟨q, hq, rfl, hra, hbq⟩ := hrel
          have HR := Lib.hid hra
          have HBQ := Lib.hid hbq
          clear hra hbq
          by_cases hlq : q < j
          · have hql : q < ts.length := by rw [HN.out]; exact hlq
            obtain ⟨gt, off, lv, cv, fv, mv, rfl, hg, hall⟩ := thing_row HN.out HT.out q hql
            obtain ⟨ht, c0, c1, c2, c3, c4, c5, c6⟩ := hall _ fun k hk => HBQ.out.block k hk
            have HTA := Lib.hid ht
            have HALL := Lib.hid hall
            have hdec := (dec_thing ts[q] (HOK.out _ (List.getElem_mem hql)) (HNU.out _ (List.getElem_mem hql))).all ((ts.drop (q + 1)).flatMap bThing)
            have hfl := flat_one bThing ts q hql
            have hnf : ∀ f ∈ (normal ts[q]).facts, (bFact f).length ≤ 1152921504606846976 := fun f hf => by
              have h1 := normal_facts ts[q] f hf
              have h2 := HDL.out
              rw [HDD.out] at h2
              omega
            have hra : RAt wr (some r) ⟨bThing ts[q] ++ (ts.drop (q + 1)).flatMap bThing, 0⟩ := by rw [← drop_flat ts q hql]; exact HR.out
            have HR1 := Lib.hid hra
            have HDEC := Lib.hid hdec
            have HNF := Lib.hid hnf
            clear hall ht hdec hfl hnf hra HR
            go_wp2_with fail
            refine (norm_any w.heap.size ts[q] lv cv fv mv wr HBQ.out.size HTA.out).mono ?_
            rintro e w6 ⟨lv6, cv6, fv6, mv6, rfl, ht6, b6⟩
            obtain ⟨P1, m1, d1, rfl⟩ := ht6.l.slice
            obtain ⟨P2, m2, d2, rfl⟩ := ht6.c.slice
            obtain ⟨P3, m3, d3, rfl⟩ := ht6.f.slice
            obtain ⟨P4, m4, d4, rfl⟩ := ht6.m.slice
            obtain ⟨t0, ht0⟩ : ∃ t0, normal ts[q] = t0 := ⟨_, rfl⟩
            rw [ht0] at ht6 HNF HDEC ⊢
            clear ht0
            obtain ⟨tk, tn, tx, tl, tc, tf, tm⟩ := t0
            rw [tcells_arr]
            obtain ⟨w7, hw7⟩ : ∃ w7, w6.alloc (.cells #[.int .i64 tk, .int .i64 tn, sv tx, .slice P1 m1 d1, .slice P2 m2 d2, .slice P3 m3 d3, .slice P4 m4 d4] 58) = w7 := ⟨_, rfl⟩
            obtain ⟨gn, hgn⟩ : ∃ gn, w6.heap.size = gn := ⟨_, rfl⟩
            have f67 : Fr No w6 w7 := by rw [← hw7]; exact (Fr.refl _ w6).alloc _
            have k7 : Blk w7 gn 58 #[.int .i64 tk, .int .i64 tn, sv tx, .slice P1 m1 d1, .slice P2 m2 d2, .slice P3 m3 d3, .slice P4 m4 d4] := by rw [← hw7, ← hgn]; exact Blk.new w6 58 _
            have f17 : Fr No wr w7 := (Fr.of_below b6).then f67
            have hb7 : Below w.heap.size w w7 := HBQ.out.trans (f17.below.mono HBQ.out.size)
            obtain ⟨ht7, x0, x1, x2, x3, x4, x5, x6⟩ := HALL.out w7 fun k hk => hb7.block k hk
            have HRL : Hid (w.heap.size ≤ r ∧ r < wr.heap.size ∧ wr.heap.size ≤ gn ∧ gn < w7.heap.size) := Lib.hid ⟨C5.out, HR1.out.lt r rfl, by rw [← hgn]; exact b6.size, k7.lt⟩
            have HT6 := Lib.hid (ht6.of fun k hk => f67.block k hk.2 id)
            have HS6 : Hid (w6.heap.size = gn) := Lib.hid hgn
            have HR7 := Lib.hid (HR1.out.keep f17)
            have HTA7 := Lib.hid ht7
            have K7 := Lib.hid k7
            have B7 := Lib.hid hb7
            have HW7 := Lib.hid hw7
            clear ht6 b6 hw7 hgn f67 k7 f17 hb7 ht7 c0 c1 c2 c3 c4 c5 c6 HALL HTA HR1
            go_upto_region 17 with fail
            rw [HW7.out, HS6.out]
            clear HW7
            go_wp2_with fail
            have HK := take_any (some r) _ (fun k => k < w.heap.size) ts[q] lv cv fv mv w7 HR7.out HTA7.out
            rw [HDEC.out] at HK
            refine HK.mono ?_
            clear HK
            rintro e w8 ⟨lv8, cv8, fv8, mv8, rfl, ht8, h8, f8⟩
            obtain ⟨Q1, i1, e1, rfl⟩ := ht8.l.slice
            obtain ⟨Q2, i2, e2, rfl⟩ := ht8.c.slice
            obtain ⟨Q3, i3, e3, rfl⟩ := ht8.f.slice
            obtain ⟨Q4, i4, e4, rfl⟩ := ht8.m.slice
            simp only [tcells_arr]
            obtain ⟨w9, hw9⟩ : ∃ w9, w8.alloc (.cells #[.int .i64 tk, .int .i64 tn, sv tx, .slice Q1 i1 e1, .slice Q2 i2 e2, .slice Q3 i3 e3, .slice Q4 i4 e4] 58) = w9 := ⟨_, rfl⟩
            obtain ⟨gx, hgx⟩ : ∃ gx, w8.heap.size = gx := ⟨_, rfl⟩
            have f89 : Fr No w8 w9 := by rw [← hw9]; exact (Fr.refl _ w8).alloc _
            have k9 : Blk w9 gx 58 #[.int .i64 tk, .int .i64 tn, sv tx, .slice Q1 i1 e1, .slice Q2 i2 e2, .slice Q3 i3 e3, .slice Q4 i4 e4] := by rw [← hw9, ← hgx]; exact Blk.new w8 58 _
            have f79 : Fr (RFt (some r)) w7 w9 := f8.then f89.any
            have kn9 : Blk w9 gn 58 #[.int .i64 tk, .int .i64 tn, sv tx, .slice P1 m1 d1, .slice P2 m2 d2, .slice P3 m3 d3, .slice P4 m4 d4] := K7.out.of (f79.block gn HRL.out.2.2.2 fun e => by have := Option.some.inj e; have := HRL.out; omega)
            have hb9 : Below w.heap.size w w9 := B7.out.trans (f79.below_of B7.out.size fun k hk => by rw [← Option.some.inj hk]; exact C5.out)
            have hx9 : ThingAt (fun k => k < w9.heap.size) w9 ⟨tk, tn, tx, tl, tc, tf, tm⟩ (.slice Q1 i1 e1) (.slice Q2 i2 e2) (.slice Q3 i3 e3) (.slice Q4 i4 e4) := (ht8.bound.of fun k hk => f89.block k hk.2 id).mono fun k hk => Nat.lt_of_lt_of_le hk.2 f89.size
            have hn9 : ThingAt (fun k => k < w9.heap.size) w9 ⟨tk, tn, tx, tl, tc, tf, tm⟩ (.slice P1 m1 d1) (.slice P2 m2 d2) (.slice P3 m3 d3) (.slice P4 m4 d4) := (HT6.out.of fun k hk => f79.block k (by have := HRL.out; have := HS6.out; have := hk.2; omega) fun e => by
              have h1 := Option.some.inj e
              have h2 := HRL.out
              rcases hk.1 with h3 | h3 <;> omega).mono fun k hk => Nat.lt_of_lt_of_le hk.2 (by have := f79.size; have := HRL.out; have := HS6.out; omega)
            have HX9 := Lib.hid hx9
            have HN9 := Lib.hid hn9
            have HR9 := Lib.hid (h8.keep f89)
            have B9 := Lib.hid hb9
            have HW9 := Lib.hid hw9
            have HS8 : Hid (w8.heap.size = gx) := Lib.hid hgx
            have p0 : w9.cell? ⟨gx, 0, none⟩ = some (.int .i64 tk) := k9.cell 0
            have p1 : w9.cell? ⟨gx, 1, none⟩ = some (.int .i64 tn) := k9.cell 1
            have p2 : w9.cell? ⟨gx, 2, none⟩ = some (sv tx) := k9.cell 2
            have p3 : w9.cell? ⟨gx, 3, none⟩ = some (.slice Q1 i1 e1) := k9.cell 3
            have p4 : w9.cell? ⟨gx, 4, none⟩ = some (.slice Q2 i2 e2) := k9.cell 4
            have p5 : w9.cell? ⟨gx, 5, none⟩ = some (.slice Q3 i3 e3) := k9.cell 5
            have p6 : w9.cell? ⟨gx, 6, none⟩ = some (.slice Q4 i4 e4) := k9.cell 6
            have q0 : w9.cell? ⟨gn, 0, none⟩ = some (.int .i64 tk) := kn9.cell 0
            have q1 : w9.cell? ⟨gn, 1, none⟩ = some (.int .i64 tn) := kn9.cell 1
            have q2 : w9.cell? ⟨gn, 2, none⟩ = some (sv tx) := kn9.cell 2
            have q3 : w9.cell? ⟨gn, 3, none⟩ = some (.slice P1 m1 d1) := kn9.cell 3
            have q4 : w9.cell? ⟨gn, 4, none⟩ = some (.slice P2 m2 d2) := kn9.cell 4
            have q5 : w9.cell? ⟨gn, 5, none⟩ = some (.slice P3 m3 d3) := kn9.cell 5
            have q6 : w9.cell? ⟨gn, 6, none⟩ = some (.slice P4 m4 d4) := kn9.cell 6
            clear ht8 h8 f8 hw9 hgx f89 k9 f79 kn9 hb9 hx9 hn9 x0 x1 x2 x3 x4 x5 x6
            go_upto_region 18 with fail
            rw [HW9.out, HS8.out]
            clear HW9
            go_wp2_with fail
            refine (dsame_any ⟨tk, tn, tx, tl, tc, tf, tm⟩ _ _ _ _ _ _ _ _ w9 HX9.out HN9.out HNF.out).mono ?_
            rintro e w10 ⟨rfl, b10⟩
            have HR10 := Lib.hid (HR9.out.keep (Fr.of_below b10))
            have B10 := Lib.hid (B9.out.trans (b10.mono B9.out.size))
            clear b10 p0 p1 p2 p3 p4 p5 p6 q0 q1 q2 q3 q4 q5 q6
            go_wp2
            go_roundw
            case rel => exact ⟨q + 1, by omega, by go_num, HR10.out, B10.out⟩
            case measure => simp [intOf]; omega
          · obtain rfl : q = j := by omega
            have HR2 := Lib.hid HR.out
            have hfin : (ts.drop q).flatMap bThing = [] := by rw [← HN.out, List.drop_length]; rfl
            rw [hfin] at HR2
            clear hfin HR
            go_wp2_with fail
            refine (rleft_any (some r) ⟨[], 0⟩ _ HR2.out).mono ?_
            rw [show (RS.mk [] 0).rest.length = 0 from rfl]
            rintro e w7 ⟨rfl, rfl⟩
            go_wp2_with fail
            refine (rdone_any (some r) ⟨[], 0⟩ _ HR2.out).mono ?_
            rw [show (RS.mk [] 0).done = 0 from rfl]
            rintro e w7 ⟨rfl, rfl⟩
            go_wp2
            go_ret
            exact ⟨rfl, HBQ.out⟩
      · have hFb : (F != 0) = true := by simpa using hF
        obtain rfl : D = [] := HBA.out hF
        clear hF
        go_wp2
        go_ret
        exact ⟨rfl, B4.out⟩
end Go.Proofs.Ytcncnponhhcjhaa
