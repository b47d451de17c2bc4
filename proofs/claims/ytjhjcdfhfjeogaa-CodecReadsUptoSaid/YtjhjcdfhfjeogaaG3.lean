/- CodecCuts, walked. -/
import Derived.Test.YtjhjcdfhfjeogaaG2
import Derived.Test.YtjhjcdfhfjeogaaE5
namespace Go.Proofs.Ytjhjcdfhfjeogaa
open Go.RowKit Go.Maps
set_option linter.unusedVariables false

theorem RowE.all {α : Type} {K : Nat → Prop} {w : World} {size : Nat} {E : α → List Value → Prop} {v : Value} {l : List α} (h : RowE K w size E v l) : ∀ x ∈ l, ∃ cs, E x cs := by
  intro x hx
  obtain ⟨A, c, e, hm, h⟩ := h
  obtain ⟨j, hj, rfl⟩ := List.mem_iff_getElem.1 hx
  obtain ⟨g, off, _, _, h⟩ := h (by omega)
  obtain ⟨cs, _, _, h3⟩ := h j hj
  exact ⟨cs, h3⟩
theorem fact_nums {K : Nat → Prop} {w : World} {f : FactP} {cs : List Value} (h : factE K w f cs) : ∀ n ∈ f.meas, i64 n := by
  obtain ⟨dv, mv, _, _, hm⟩ := h
  intro n hn
  obtain ⟨cs', h'⟩ := hm.all n hn
  exact h'.2
theorem thing_nums {K : Nat → Prop} {w : World} {t : ThingP} {lv cv fv mv : Value} (h : ThingAt K w t lv cv fv mv) : Nums t := by
  have hc : ∀ c ∈ t.cells, i64 c.int := fun c hc => by
    obtain ⟨cs, h1⟩ := h.c.all c hc
    exact h1.2.2.1
  have hf : ∀ f ∈ t.facts, ∀ n ∈ f.meas, i64 n := fun f hf => by
    obtain ⟨cs, h1⟩ := h.f.all f hf
    exact fact_nums h1
  refine ⟨h.nb, hc, (one_ok h.c).2.1, hf, ?_⟩
  unfold any
  cases e : t.facts with
  | nil => intro n hn; simp [FactP.zero] at hn
  | cons x l => exact hf x (by rw [e]; simp)
theorem things_nums {K : Nat → Prop} {w : World} {v : Value} {ts : List ThingP} (h : RowE K w 7 (thingE K w) v ts) : ∀ t ∈ ts, Nums t := fun t ht => by
  obtain ⟨cs, lv, cv, fv, mv, _, h1⟩ := h.all t ht
  exact thing_nums h1

/-- what a reader has behind some things -/
def rfold (ts : List ThingP) (S : RS) : RS := ts.foldl (fun S t => (S.thing t).2) S
theorem rfold_snoc (ts : List ThingP) (S : RS) (j : Nat) (h : j < ts.length) : rfold (ts.take (j + 1)) S = ((rfold (ts.take j) S).thing ts[j]).2 := by
  unfold rfold
  rw [List.take_succ_eq_append_getElem h, List.foldl_append]; rfl
theorem rfold_stop (S : RS) (h : S.fault ≠ 0) : ∀ ts, rfold ts S = S
  | [] => rfl
  | t :: ts => by
    show rfold ts (S.thing t).2 = S
    rw [(thing_stop h t).2]; exact rfold_stop S h ts
theorem rfold_all : ∀ (ts : List ThingP) (R : List UInt8), (∀ t ∈ ts, okThing t) → (∀ t ∈ ts, Nums t) → rfold ts ⟨ts.flatMap bThing ++ R, 0⟩ = ⟨R, 0⟩
  | [], R, _, _ => by simp [rfold]
  | t :: ts, R, h, hn => by
    have e := (dec_thing t (h t (by simp)) (hn t (by simp))).all (ts.flatMap bThing ++ R)
    show rfold ts (RS.thing ⟨(t :: ts).flatMap bThing ++ R, 0⟩ t).2 = _
    rw [List.flatMap_cons, List.append_assoc, e]
    exact rfold_all ts R (fun x hx => h x (by simp [hx])) fun x hx => hn x (by simp [hx])
theorem rfold_cut : ∀ (ts : List ThingP) (m : Nat), (∀ t ∈ ts, okThing t) → (∀ t ∈ ts, Nums t) → m < (ts.flatMap bThing).length → rfold ts ⟨(ts.flatMap bThing).take m, 0⟩ = ⟨[], 20⟩
  | [], m, _, _, hm => by simp at hm
  | t :: ts, m, h, hn, hm => by
    have d := dec_thing t (h t (by simp)) (hn t (by simp))
    show rfold ts (RS.thing ⟨((t :: ts).flatMap bThing).take m, 0⟩ t).2 = _
    rw [List.flatMap_cons] at hm ⊢
    rw [List.length_append] at hm
    by_cases hm1 : m < (bThing t).length
    · have e : (bThing t ++ ts.flatMap bThing).take m = (bThing t).take m := List.take_append_of_le_length (by omega)
      have hc := d.cut m hm1
      rw [e, hc]
      exact rfold_stop _ (by decide) ts
    · have e : (bThing t ++ ts.flatMap bThing).take m = bThing t ++ (ts.flatMap bThing).take (m - (bThing t).length) := by rw [List.take_append, List.take_of_length_le (by omega)]
      rw [e, d.all]
      exact rfold_cut ts _ (fun x hx => h x (by simp [hx])) (fun x hx => hn x (by simp [hx])) (by omega)
theorem wfold_snoc (ts : List ThingP) (j : Nat) (h : j < ts.length) : (ts.take (j + 1)).foldl WS.thing WS.zero = ((ts.take j).foldl WS.thing WS.zero).thing ts[j] := by
  rw [List.take_succ_eq_append_getElem h, List.foldl_append]; rfl
theorem Off.of {g : Nat} {v : Value} {w : World} {B : Nat} (hB : B ≤ w.heap.size) (hg : B ≤ g) (hv : ∀ k, v.ownBlock = some k → B ≤ k) : Off (some g) v w (fun k => k < B) := fun k hk => ⟨Nat.lt_of_lt_of_le hk hB, fun e => by
  rcases e with e | e
  · have := Option.some.inj e; omega
  · have := hv k e; omega⟩
theorem own_ge {p : Option Nat} {v v' : Value} {w w' : World} {B : Nat} (l : WL p v w v' w') (hB : B ≤ w.heap.size) (hv : ∀ k, v.ownBlock = some k → B ≤ k) : ∀ k, v'.ownBlock = some k → B ≤ k := fun k hk => by
  rcases l.own k hk with e | e
  · exact hv k e
  · omega
theorem wl_below {g : Nat} {v v' : Value} {w w' : World} {B : Nat} (l : WL (some g) v w v' w') (hB : B ≤ w.heap.size) (hg : B ≤ g) (hv : ∀ k, v.ownBlock = some k → B ≤ k) : Below B w w' := l.fr.below_of hB fun k hk => by
  rcases hk with e | e
  · have := Option.some.inj e; omega
  · exact hv k e
theorem laid (ts : List ThingP) (S : WS) (hS : ts.foldl WS.thing WS.zero = S) (h : S.fault = 0) : (∀ t ∈ ts, okThing t) ∧ S.data = ts.flatMap bThing := by
  subst hS
  obtain ⟨_, h2, h3⟩ := lays_things ts WS.zero h
  exact ⟨h2, by simpa [WS.zero] using h3⟩
set_option maxRecDepth 100000 in
set_option maxHeartbeats 4000000 in
theorem codeccuts_neg (A : Option Addr) (n c : Nat) (ts : List ThingP) (at_ : Int) (k : Nat) (hneg : at_ < 0) (hav : -(at_ + 1) = (k : Int)) (hk : (k : Int) ≤ 9223372036854775807) (w : World) (hn : ts.length = n) (hm : n ≤ maxLen) (h : RowE (fun k => k < w.heap.size) w 7 (thingE (fun k => k < w.heap.size) w) (.slice A n c) ts) :
    Calls Try.prog 9 #[.slice A n c, .int .i64 at_] w fun e w' => e = .returned (.bool true) ∧ Below w.heap.size w w' := by
  unfold maxLen at hm
  have HN := Lib.hid hn
  have HT := Lib.hid h
  have HNU := Lib.hid (things_nums h)
  have HPL := Lib.hid (laid ts)
  clear hn h
  go_enter Try.func9, Try.ntmps9
  go_wp2_with fail
  refine (awake_any w).mono ?_
  rintro e w1 ⟨rfl, hb1⟩
  have B1 := Lib.hid hb1
  obtain ⟨g, hg⟩ : ∃ g, w1.heap.size = g := ⟨_, rfl⟩
  obtain ⟨w2, hw2⟩ : ∃ w2, w1.alloc (.cells #[.slice none 0 0, .int .i64 0] 52) = w2 := ⟨_, rfl⟩
  have hw := WAt.new w1
  have hb2 : Below w.heap.size w (w1.alloc (.cells #[.slice none 0 0, .int .i64 0] 52)) := hb1.alloc hb1.size _
  rw [hw2] at hw hb2
  rw [hg] at hw
  have HA2 := Lib.hid hw
  have B2 := Lib.hid hb2
  have HGB : Hid (w.heap.size ≤ g) := Lib.hid (hg ▸ hb1.size)
  clear hb1 hw hb2
  go_wp2
  clear hg hw2
  go_loopw [7] (fun i wr => ∃ j : Nat, ∃ v, j ≤ n ∧ i = .int .i64 j ∧ WAt wr (some g) v ((ts.take j).foldl WS.thing WS.zero) ∧ (∀ k, v.ownBlock = some k → w.heap.size ≤ k) ∧ Below w.heap.size w wr) (fun i _ => n - (intOf i).toNat)
  case atStart => exact ⟨0, _, by omega, rfl, HA2.out, by simp [Value.ownBlock], B2.out⟩
  case round =>
    obtain ⟨j, v, hj, rfl, hat, hv, hb⟩ := hrel
    have HB := Lib.hid hb
    have HAT := Lib.hid hat
    have HV := Lib.hid hv
    clear hb hat hv
    by_cases hlt : j < n
    · have hjl : j < ts.length := by rw [HN.out]; exact hlt
      obtain ⟨gt, off, lv, cv, fv, mv, rfl, hg, hall⟩ := thing_row HN.out HT.out j hjl
      obtain ⟨ht, c0, c1, c2, c3, c4, c5, c6⟩ := hall wr fun k hk => HB.out.block k hk
      have HTA := Lib.hid ht
      clear hall ht
      go_wp2_with fail
      refine (lay_any (some g) v _ (fun k => k < w.heap.size) ts[j] lv cv fv mv wr HAT.out HTA.out (Off.of HB.out.size HGB.out HV.out)).mono ?_
      rintro e w3 ⟨rfl, v3, h3, l3⟩
      have H3 := Lib.hid h3
      have V3 := Lib.hid (own_ge l3 HB.out.size HV.out)
      have B3 := Lib.hid (HB.out.trans (wl_below l3 HB.out.size HGB.out HV.out))
      clear h3 l3 c0 c1 c2 c3 c4 c5 c6
      go_wp2
      go_roundw
      case rel => exact ⟨j + 1, v3, by omega, by go_num, by rw [wfold_snoc ts j hjl]; exact H3.out, V3.out, B3.out⟩
      case measure => simp [intOf]; omega
    · obtain rfl : j = n := by omega
      have HS : Hid (WAt wr (some g) v (ts.foldl WS.thing WS.zero)) := Lib.hid (by have := HAT.out; rwa [← HN.out, List.take_length] at this)
      clear HAT
      go_wp2_with fail
      refine (wdone_any (some g) v _ wr HS.out).mono ?_
      rintro e w4 ⟨rfl, f4⟩
      have B4 := Lib.hid (HB.out.trans (f4.below.mono HB.out.size))
      have HLen := Lib.hid HS.out.len
      clear f4
      obtain ⟨S0, hS0⟩ : ∃ S0, ts.foldl WS.thing WS.zero = S0 := ⟨_, rfl⟩
      have HP2 := Lib.hid (HPL.out S0 hS0)
      rw [hS0] at HLen HS ⊢
      clear hS0 HPL
      obtain ⟨D, F⟩ := S0
      by_cases hF : F = 0
      · subst hF
        obtain ⟨hok, hD0⟩ := HP2.out rfl
        have hD : D = ts.flatMap bThing := hD0
        clear hD0 HP2
        cases hde : D.isEmpty with
        | true =>
          clear hD hok
          go_wp2
          go_ret
          exact ⟨rfl, B4.out⟩
        | false =>
          have hdl : D.length ≤ 65536 := HLen.out
          have hd0 : 0 < D.length := by
            cases D with
            | nil => simp at hde
            | cons => simp
          have hx : (ByteArray.mk D.toArray).extract 0 (k % D.length) = ⟨(D.take (k % D.length)).toArray⟩ := by rw [ext_list, List.drop_zero]
          have hm1 : (0 : Int) ≤ (k : Int) % (D.length : Int) := by omega
          have hm2 : (k : Int) % (D.length : Int) ≤ (D.length : Int) := by
            have := Int.emod_lt_of_pos (k : Int) (show (0 : Int) < (D.length : Int) by omega)
            omega
          have hml : k % D.length < D.length := Nat.mod_lt _ hd0
          have HRF : Hid (rfold ts ⟨D.take (k % D.length), 0⟩ = ⟨[], 20⟩) := Lib.hid (by
            have := rfold_cut ts (k % D.length) hok HNU.out (by rw [← hD]; exact hml)
            rwa [← hD] at this)
          have hxl : (D.take (k % D.length)).length ≤ 1073741824 := by rw [List.length_take]; omega
          have HXL := Lib.hid hxl
          have hDne : ((D : List UInt8) == []) = false := by
            cases D with
            | nil => simp at hde
            | cons => rfl
          clear hD hok hml hxl
          generalize D.take (k % D.length) = X at *
          go_wp2_with fail
          refine (read_any X w4).mono ?_
          rintro e w5 ⟨rfl, hw5⟩
          have R5 := Lib.hid (RAt.new w4 X HXL.out)
          have B5 : Hid (Below w.heap.size w (w4.alloc (.cells #[sv X, .int .i64 0] 78))) := Lib.hid (B4.out.alloc B4.out.size _)
          have C5 := Lib.hid B4.out.size
          rw [hw5] at R5 B5
          obtain ⟨r, hr⟩ : ∃ r, w4.heap.size = r := ⟨_, rfl⟩
          rw [hr] at R5 C5 ⊢
          clear hw5 hr hx hm1 hm2
          go_wp2
          go_loopw [12] (fun i wr => ∃ q : Nat, q ≤ j ∧ i = .int .i64 q ∧ RAt wr (some r) (rfold (ts.take q) ⟨X, 0⟩) ∧ Below w.heap.size w wr) (fun i _ => j - (intOf i).toNat)
          case atStart => exact ⟨0, by omega, rfl, R5.out, B5.out⟩
          case round =>
            obtain ⟨q, hq, rfl, hra, hbq⟩ := hrel
            have HR := Lib.hid hra
            have HBQ := Lib.hid hbq
            clear hra hbq
            by_cases hlq : q < j
            · have hql : q < ts.length := by rw [HN.out]; exact hlq
              obtain ⟨gt, off, lv, cv, fv, mv, rfl, hg, hall⟩ := thing_row HN.out HT.out q hql
              obtain ⟨ht, c0, c1, c2, c3, c4, c5, c6⟩ := hall _ fun k hk => HBQ.out.block k hk
              have HTA := Lib.hid ht
              clear hall ht
              go_wp2_with fail
              refine (take_any (some r) _ (fun k => k < w.heap.size) ts[q] lv cv fv mv _ HR.out HTA.out).mono ?_
              rintro e w6 ⟨lv', cv', fv', mv', rfl, htt, h6, f6⟩
              have H6 := Lib.hid h6
              have B6 := Lib.hid (HBQ.out.trans (f6.below_of HBQ.out.size fun k hk => by rw [← Option.some.inj hk]; exact C5.out))
              clear htt h6 f6 c0 c1 c2 c3 c4 c5 c6
              go_wp2
              go_roundw
              case rel => exact ⟨q + 1, by omega, by go_num, by rw [rfold_snoc ts _ q hql]; exact H6.out, B6.out⟩
              case measure => simp [intOf]; omega
            · obtain rfl : q = j := by omega
              have HR2 := Lib.hid HR.out
              have hfin : rfold (ts.take q) ⟨X, 0⟩ = ⟨[], 20⟩ := by rw [← HN.out, List.take_length]; exact HRF.out
              rw [hfin] at HR2
              clear hfin HR
              go_wp2_with fail
              refine (rdone_any (some r) ⟨[], 20⟩ _ HR2.out).mono ?_
              rw [show (RS.mk [] 20).done = 20 from rfl]
              rintro e w7 ⟨rfl, rfl⟩
              go_wp2_with fail
              refine (rleft_any (some r) ⟨[], 20⟩ _ HR2.out).mono ?_
              rw [show (RS.mk [] 20).rest.length = 0 from rfl]
              rintro e w7 ⟨rfl, rfl⟩
              go_wp2
              go_ret
              exact ⟨rfl, HBQ.out⟩
      · have hFb : (F != 0) = true := by simpa using hF
        clear hF
        go_wp2
        go_ret
        exact ⟨rfl, B4.out⟩
set_option maxRecDepth 100000 in
set_option maxHeartbeats 4000000 in
theorem codeccuts_pos (A : Option Addr) (n c : Nat) (ts : List ThingP) (at_ : Int) (k : Nat) (hpos : 0 ≤ at_) (hav : at_ = (k : Int)) (hk : (k : Int) ≤ 9223372036854775807) (w : World) (hn : ts.length = n) (hm : n ≤ maxLen) (h : RowE (fun k => k < w.heap.size) w 7 (thingE (fun k => k < w.heap.size) w) (.slice A n c) ts) :
    Calls Try.prog 9 #[.slice A n c, .int .i64 at_] w fun e w' => e = .returned (.bool true) ∧ Below w.heap.size w w' := by
  unfold maxLen at hm
  have HN := Lib.hid hn
  have HT := Lib.hid h
  have HNU := Lib.hid (things_nums h)
  have HPL := Lib.hid (laid ts)
  clear hn h
  subst hav
  go_enter Try.func9, Try.ntmps9
  go_wp2_with fail
  refine (awake_any w).mono ?_
  rintro e w1 ⟨rfl, hb1⟩
  have B1 := Lib.hid hb1
  obtain ⟨g, hg⟩ : ∃ g, w1.heap.size = g := ⟨_, rfl⟩
  obtain ⟨w2, hw2⟩ : ∃ w2, w1.alloc (.cells #[.slice none 0 0, .int .i64 0] 52) = w2 := ⟨_, rfl⟩
  have hw := WAt.new w1
  have hb2 : Below w.heap.size w (w1.alloc (.cells #[.slice none 0 0, .int .i64 0] 52)) := hb1.alloc hb1.size _
  rw [hw2] at hw hb2
  rw [hg] at hw
  have HA2 := Lib.hid hw
  have B2 := Lib.hid hb2
  have HGB : Hid (w.heap.size ≤ g) := Lib.hid (hg ▸ hb1.size)
  clear hb1 hw hb2
  go_wp2
  clear hg hw2
  go_loopw [7] (fun i wr => ∃ j : Nat, ∃ v, j ≤ n ∧ i = .int .i64 j ∧ WAt wr (some g) v ((ts.take j).foldl WS.thing WS.zero) ∧ (∀ k, v.ownBlock = some k → w.heap.size ≤ k) ∧ Below w.heap.size w wr) (fun i _ => n - (intOf i).toNat)
  case atStart => exact ⟨0, _, by omega, rfl, HA2.out, by simp [Value.ownBlock], B2.out⟩
  case round =>
    obtain ⟨j, v, hj, rfl, hat, hv, hb⟩ := hrel
    have HB := Lib.hid hb
    have HAT := Lib.hid hat
    have HV := Lib.hid hv
    clear hb hat hv
    by_cases hlt : j < n
    · have hjl : j < ts.length := by rw [HN.out]; exact hlt
      obtain ⟨gt, off, lv, cv, fv, mv, rfl, hg, hall⟩ := thing_row HN.out HT.out j hjl
      obtain ⟨ht, c0, c1, c2, c3, c4, c5, c6⟩ := hall wr fun k hk => HB.out.block k hk
      have HTA := Lib.hid ht
      clear hall ht
      go_wp2_with fail
      refine (lay_any (some g) v _ (fun k => k < w.heap.size) ts[j] lv cv fv mv wr HAT.out HTA.out (Off.of HB.out.size HGB.out HV.out)).mono ?_
      rintro e w3 ⟨rfl, v3, h3, l3⟩
      have H3 := Lib.hid h3
      have V3 := Lib.hid (own_ge l3 HB.out.size HV.out)
      have B3 := Lib.hid (HB.out.trans (wl_below l3 HB.out.size HGB.out HV.out))
      clear h3 l3 c0 c1 c2 c3 c4 c5 c6
      go_wp2
      go_roundw
      case rel => exact ⟨j + 1, v3, by omega, by go_num, by rw [wfold_snoc ts j hjl]; exact H3.out, V3.out, B3.out⟩
      case measure => simp [intOf]; omega
    · obtain rfl : j = n := by omega
      have HS : Hid (WAt wr (some g) v (ts.foldl WS.thing WS.zero)) := Lib.hid (by have := HAT.out; rwa [← HN.out, List.take_length] at this)
      clear HAT
      go_wp2_with fail
      refine (wdone_any (some g) v _ wr HS.out).mono ?_
      rintro e w4 ⟨rfl, f4⟩
      have B4 := Lib.hid (HB.out.trans (f4.below.mono HB.out.size))
      have HLen := Lib.hid HS.out.len
      clear f4
      obtain ⟨S0, hS0⟩ : ∃ S0, ts.foldl WS.thing WS.zero = S0 := ⟨_, rfl⟩
      have HP2 := Lib.hid (HPL.out S0 hS0)
      rw [hS0] at HLen HS ⊢
      clear hS0 HPL
      obtain ⟨D, F⟩ := S0
      by_cases hF : F = 0
      · subst hF
        obtain ⟨hok, hD0⟩ := HP2.out rfl
        have hD : D = ts.flatMap bThing := hD0
        clear hD0 HP2
        cases hde : D.isEmpty with
        | true =>
          clear hD hok
          go_wp2
          go_ret
          exact ⟨rfl, B4.out⟩
        | false =>
          have hdl : D.length ≤ 65536 := HLen.out
          have hd0 : 0 < D.length := by
            cases D with
            | nil => simp at hde
            | cons => simp
          have hx : (ByteArray.mk D.toArray).extract 0 (k % D.length) = ⟨(D.take (k % D.length)).toArray⟩ := by rw [ext_list, List.drop_zero]
          have hm1 : (0 : Int) ≤ (k : Int) % (D.length : Int) := by omega
          have hm2 : (k : Int) % (D.length : Int) ≤ (D.length : Int) := by
            have := Int.emod_lt_of_pos (k : Int) (show (0 : Int) < (D.length : Int) by omega)
            omega
          have hml : k % D.length < D.length := Nat.mod_lt _ hd0
          have HRF : Hid (rfold ts ⟨D.take (k % D.length), 0⟩ = ⟨[], 20⟩) := Lib.hid (by
            have := rfold_cut ts (k % D.length) hok HNU.out (by rw [← hD]; exact hml)
            rwa [← hD] at this)
          have hxl : (D.take (k % D.length)).length ≤ 1073741824 := by rw [List.length_take]; omega
          have HXL := Lib.hid hxl
          have hDne : ((D : List UInt8) == []) = false := by
            cases D with
            | nil => simp at hde
            | cons => rfl
          clear hD hok hml hxl
          generalize D.take (k % D.length) = X at *
          go_wp2_with fail
          refine (read_any X w4).mono ?_
          rintro e w5 ⟨rfl, hw5⟩
          have R5 := Lib.hid (RAt.new w4 X HXL.out)
          have B5 : Hid (Below w.heap.size w (w4.alloc (.cells #[sv X, .int .i64 0] 78))) := Lib.hid (B4.out.alloc B4.out.size _)
          have C5 := Lib.hid B4.out.size
          rw [hw5] at R5 B5
          obtain ⟨r, hr⟩ : ∃ r, w4.heap.size = r := ⟨_, rfl⟩
          rw [hr] at R5 C5 ⊢
          clear hw5 hr hx hm1 hm2
          go_wp2
          go_loopw [12] (fun i wr => ∃ q : Nat, q ≤ j ∧ i = .int .i64 q ∧ RAt wr (some r) (rfold (ts.take q) ⟨X, 0⟩) ∧ Below w.heap.size w wr) (fun i _ => j - (intOf i).toNat)
          case atStart => exact ⟨0, by omega, rfl, R5.out, B5.out⟩
          case round =>
            obtain ⟨q, hq, rfl, hra, hbq⟩ := hrel
            have HR := Lib.hid hra
            have HBQ := Lib.hid hbq
            clear hra hbq
            by_cases hlq : q < j
            · have hql : q < ts.length := by rw [HN.out]; exact hlq
              obtain ⟨gt, off, lv, cv, fv, mv, rfl, hg, hall⟩ := thing_row HN.out HT.out q hql
              obtain ⟨ht, c0, c1, c2, c3, c4, c5, c6⟩ := hall _ fun k hk => HBQ.out.block k hk
              have HTA := Lib.hid ht
              clear hall ht
              go_wp2_with fail
              refine (take_any (some r) _ (fun k => k < w.heap.size) ts[q] lv cv fv mv _ HR.out HTA.out).mono ?_
              rintro e w6 ⟨lv', cv', fv', mv', rfl, htt, h6, f6⟩
              have H6 := Lib.hid h6
              have B6 := Lib.hid (HBQ.out.trans (f6.below_of HBQ.out.size fun k hk => by rw [← Option.some.inj hk]; exact C5.out))
              clear htt h6 f6 c0 c1 c2 c3 c4 c5 c6
              go_wp2
              go_roundw
              case rel => exact ⟨q + 1, by omega, by go_num, by rw [rfold_snoc ts _ q hql]; exact H6.out, B6.out⟩
              case measure => simp [intOf]; omega
            · obtain rfl : q = j := by omega
              have HR2 := Lib.hid HR.out
              have hfin : rfold (ts.take q) ⟨X, 0⟩ = ⟨[], 20⟩ := by rw [← HN.out, List.take_length]; exact HRF.out
              rw [hfin] at HR2
              clear hfin HR
              go_wp2_with fail
              refine (rdone_any (some r) ⟨[], 20⟩ _ HR2.out).mono ?_
              rw [show (RS.mk [] 20).done = 20 from rfl]
              rintro e w7 ⟨rfl, rfl⟩
              go_wp2_with fail
              refine (rleft_any (some r) ⟨[], 20⟩ _ HR2.out).mono ?_
              rw [show (RS.mk [] 20).rest.length = 0 from rfl]
              rintro e w7 ⟨rfl, rfl⟩
              go_wp2
              go_ret
              exact ⟨rfl, HBQ.out⟩
      · have hFb : (F != 0) = true := by simpa using hF
        clear hF
        go_wp2
        go_ret
        exact ⟨rfl, B4.out⟩
theorem codeccuts_any (A : Option Addr) (n c : Nat) (ts : List ThingP) (at_ : Int) (ha : i64 at_) (w : World) (hn : ts.length = n) (hm : n ≤ maxLen) (h : RowE (fun k => k < w.heap.size) w 7 (thingE (fun k => k < w.heap.size) w) (.slice A n c) ts) :
    Calls Try.prog 9 #[.slice A n c, .int .i64 at_] w fun e w' => e = .returned (.bool true) ∧ Below w.heap.size w w' := by
  obtain ⟨k, hk, hat⟩ := at_abs at_ ha
  rcases hat with ⟨h1, h2⟩ | ⟨h1, h2⟩
  · exact codeccuts_neg A n c ts at_ k h1 h2 hk w hn hm h
  · exact codeccuts_pos A n c ts at_ k h1 h2 hk w hn hm h
end Go.Proofs.Ytjhjcdfhfjeogaa
