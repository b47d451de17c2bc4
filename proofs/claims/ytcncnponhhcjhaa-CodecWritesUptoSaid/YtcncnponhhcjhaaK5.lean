/- CodecWrites, walked. -/
import Derived.Test.YtcncnponhhcjhaaK4
namespace Go.Proofs.Ytcncnponhhcjhaa
open Go.RowKit Go.Maps Go.Sort
set_option linter.unusedVariables false

/-- A thing that is not too great. -/
def thingE2 (K : Nat → Prop) (w : World) (t : ThingP) (cs : List Value) : Prop := thingE K w t cs ∧ Fits t ∧ (bThing t).length ≤ 1152921504606846976 ∧ ∀ A n c, cs[4]? = some (.slice A n c) → n ≤ c
theorem thing_row2 {K : Nat → Prop} {w : World} {A : Option Addr} {c n : Nat} {ts : List ThingP} (hn : ts.length = n) (h : RowE K w 7 (thingE2 K w) (.slice A n c) ts) (j : Nat) (hj : j < ts.length) :
    ∃ g off lv cv fv mv, A = some ⟨g, off, none⟩ ∧ K g ∧ (Fits ts[j] ∧ (bThing ts[j]).length ≤ 1152921504606846976 ∧ ∀ A n c, cv = .slice A n c → n ≤ c) ∧ ∀ w' : World, (∀ k, K k → w'.heap[k]? = w.heap[k]?) → ThingAt K w' ts[j] lv cv fv mv ∧
      w'.cell? ⟨g, off + j * 7, none⟩ = some (.int .i64 ts[j].kind) ∧ w'.cell? ⟨g, off + j * 7 + 1, none⟩ = some (.int .i64 ts[j].n) ∧ w'.cell? ⟨g, off + j * 7 + 2, none⟩ = some (sv ts[j].s) ∧
      w'.cell? ⟨g, off + j * 7 + 3, none⟩ = some lv ∧ w'.cell? ⟨g, off + j * 7 + 4, none⟩ = some cv ∧ w'.cell? ⟨g, off + j * 7 + 5, none⟩ = some fv ∧ w'.cell? ⟨g, off + j * 7 + 6, none⟩ = some mv := by
  obtain ⟨A', c', e, hm, hel⟩ := h
  injection e with e1 e2 e3
  subst e1
  obtain ⟨g, off, rfl, hg, hcell⟩ := hel (by omega)
  obtain ⟨cs, hl, hc, ⟨lv, cv, fv, mv, rfl, ht⟩, hf, hb, hcap⟩ := hcell j hj
  refine ⟨g, off, lv, cv, fv, mv, rfl, hg, ⟨hf, hb, fun A n c e => hcap A n c (by rw [e]; rfl)⟩, fun w' hw => ⟨ht.of hw, ?_⟩⟩
  have hcw : ∀ i, i < 7 → w'.cell? ⟨g, off + j * 7 + i, none⟩ = (tcells ts[j] lv cv fv mv)[i]? := fun i hi => (cell_of_heap (hw g hg)).trans (hc i hi)
  exact ⟨by simpa [tcells] using hcw 0 (by omega), by simpa [tcells] using hcw 1 (by omega), by simpa [tcells] using hcw 2 (by omega), by simpa [tcells] using hcw 3 (by omega), by simpa [tcells] using hcw 4 (by omega), by simpa [tcells] using hcw 5 (by omega), by simpa [tcells] using hcw 6 (by omega)⟩
theorem wl_keep {g : Nat} {v : Value} {S : WS} {w w' : World} (h : WAt w (some g) v S) (hb : Below w.heap.size w w') : WAt w' (some g) v S := h.below hb

set_option maxRecDepth 100000 in
set_option maxHeartbeats 8000000 in
theorem codecwrites_any (A : Option Addr) (n c : Nat) (ts : List ThingP) (w : World) (hn : ts.length = n) (hm : n ≤ maxLen) (h : RowE (fun k => k < w.heap.size) w 7 (thingE2 (fun k => k < w.heap.size) w) (.slice A n c) ts) :
    Calls Try.prog 6 #[.slice A n c] w fun e w' => e = .returned (.bool true) ∧ Below w.heap.size w w' := by
  unfold maxLen at hm
  have HN := Lib.hid hn
  have HT := Lib.hid h
  clear hn h
  go_enter Try.func6, Try.ntmps6
  go_wp2_with fail
  refine (awake_any w).mono ?_
  rintro e w1 ⟨rfl, hb1⟩
  have B1 := Lib.hid hb1
  obtain ⟨g, hg⟩ : ∃ g, w1.heap.size = g := ⟨_, rfl⟩
  obtain ⟨w2, hw2⟩ : ∃ w2, w1.alloc (.cells #[.slice none 0 0, .int .i64 0] 52) = w2 := ⟨_, rfl⟩
  have hw := WAt.new w1
  have hb2 : Below w.heap.size w (w1.alloc (.cells #[.slice none 0 0, .int .i64 0] 52)) := hb1.alloc hb1.size _
  rw [hw2] at hw hb2
  rw [hg] at hw
  have HA2 := Lib.hid hw
  have B2 := Lib.hid hb2
  have HGB : Hid (w.heap.size ≤ g) := Lib.hid (hg ▸ hb1.size)
  clear hb1 hw hb2
  go_wp2
  clear hg hw2
  go_loopw [5, 6, 7] (fun x e i wr => ∃ j : Nat, ∃ v X E, j ≤ n ∧ x = sv X ∧ e = .int .i64 E ∧ i = .int .i64 j ∧ WAt wr (some g) v ((ts.take j).foldl WS.thing WS.zero) ∧ (∀ k, v.ownBlock = some k → w.heap.size ≤ k) ∧ Below w.heap.size w wr ∧ Sim ((ts.take j).foldl WS.thing WS.zero) X E) (fun _ _ i _ => n - (intOf i).toNat)
  case atStart => exact ⟨0, _, [], 0, by omega, rfl, rfl, rfl, HA2.out, by simp [Value.ownBlock], B2.out, .inl ⟨rfl, rfl, by simp⟩⟩
  case round =>
    obtain ⟨j, v, X, E, hj, rfl, rfl, rfl, hat, hv, hb, hsim⟩ := hrel
    have HB := Lib.hid hb
    have HAT := Lib.hid hat
    have HV := Lib.hid hv
    have HS := Lib.hid hsim
    clear hb hat hv hsim
    by_cases hlt : j < n
    · have hjl : j < ts.length := by rw [HN.out]; exact hlt
      obtain ⟨gt, off, lv, cv, fv, mv, rfl, hg, ⟨hfit, hbt, hcap⟩, hall⟩ := thing_row2 HN.out HT.out j hjl
      obtain ⟨ht, c0, c1, c2, c3, c4, c5, c6⟩ := hall wr fun k hk => HB.out.block k hk
      have HTA := Lib.hid ht
      have HALL := Lib.hid hall
      have HFIT := Lib.hid hfit
      have HBT := Lib.hid hbt
      have HCAP := Lib.hid hcap
      have hi0 : (0 : Int) ≤ (j : Int) := by omega
      have hi1 : (j : Int) < (n : Int) := by omega
      clear hall ht hfit hbt hcap
      go_wp2_with fail
      refine (lay_any (some g) v _ (fun k => k < w.heap.size) ts[j] lv cv fv mv wr HAT.out HTA.out (Off.of HB.out.size HGB.out HV.out)).mono ?_
      rintro e w3 ⟨rfl, v3, h3, l3⟩
      have H3 := Lib.hid h3
      have V3 := Lib.hid (own_ge l3 HB.out.size HV.out)
      have hb3 := HB.out.trans (wl_below l3 HB.out.size HGB.out HV.out)
      have B3 := Lib.hid hb3
      obtain ⟨ht3, d0, d1, d2, d3, d4, d5, d6⟩ := HALL.out w3 fun k hk => hb3.block k hk
      have HBY := dbytes_any ts[j] lv cv fv mv w3 (ht3.mono fun k hk => Nat.lt_of_lt_of_le hk hb3.size) HBT.out
      unfold Told2 at HBY
      rw [← wfold_snoc ts j hjl] at H3
      clear h3 l3 c0 c1 c2 c3 c4 c5 c6 HAT HTA hb3 ht3
      have HSN : Hid ((ts.take (j + 1)).foldl WS.thing WS.zero = ((ts.take j).foldl WS.thing WS.zero).thing ts[j]) := Lib.hid (wfold_snoc ts j hjl)
      by_cases hE : E = 0
      · subst hE
        have hxl := HS.out.len
        cases hok : okB ts[j] with
        | false =>
          rw [hok] at HBY
          have HS2 : Hid (Sim ((ts.take (j + 1)).foldl WS.thing WS.zero) X (spoilt X.length ts[j])) := Lib.hid (by rw [HSN.out]; exact HS.out.spoil HFIT.out hok)
          have hne : (spoilt X.length ts[j] == 0) = false := by rw [beq_eq_false_iff_ne]; exact spoilt_ne _ _
          have HBY := Lib.hid HBY
          clear hok
          generalize ok2 false (bThing ts[j]) = Z at *
          go_wp2_with fail
          refine HBY.out.mono ?_
          rintro e w5 ⟨rfl, hb5⟩
          have hb5w := B3.out.trans (hb5.mono B3.out.size)
          have B5 := Lib.hid hb5w
          have H5 := Lib.hid (H3.out.below hb5)
          obtain ⟨ht5, c0, c1, c2, c3, c4, c5, c6⟩ := HALL.out w5 fun k hk => hb5w.block k hk
          have HSP := Lib.hid (spoilt_any ts[j] lv cv fv mv X.length w5 (ht5.mono fun k hk => Nat.lt_of_lt_of_le hk hb5w.size) HCAP.out HBT.out hxl)
          clear hb5 hb5w ht5 d0 d1 d2 d3 d4 d5 d6 HBY H3
          generalize spoilt X.length ts[j] = E2 at *
          go_wp2_with fail
          refine HSP.out.mono ?_
          rintro e w6 ⟨rfl, hb6⟩
          have B6 := Lib.hid (B5.out.trans (hb6.mono B5.out.size))
          have H6 := Lib.hid (H5.out.below hb6)
          clear hb6 c0 c1 c2 c3 c4 c5 c6 HSP
          go_wp2
          go_roundw
          case rel => exact ⟨j + 1, v3, X, E2, by omega, rfl, rfl, by go_num, H6.out, V3.out, B6.out, HS2.out⟩
          case measure => simp [intOf]; omega
        | true =>
          rw [hok] at HBY
          simp only [ok2, if_true] at HBY
          have HBY := Lib.hid HBY
          have hzl := HBT.out
          have hcat : ∀ w0, (Op.stringOp .add ⟨X.toArray⟩ ⟨(bThing ts[j]).toArray⟩).run Try.prog w0 = .ok (.string ⟨(X ++ bThing ts[j]).toArray⟩) w0 := fun w0 => run_cat _ _ (by omega) w0
          by_cases hbig : (X ++ bThing ts[j]).length > 65536
          · have HS2 : Hid (Sim ((ts.take (j + 1)).foldl WS.thing WS.zero) (X ++ bThing ts[j]) 23) := Lib.hid (by rw [HSN.out]; exact HS.out.big HFIT.out hok hbig)
            have hyl : (X ++ bThing ts[j]).length ≤ 1152921504606912512 := by rw [List.length_append]; omega
            clear hok hzl
            generalize bThing ts[j] = Z at *
            generalize X ++ Z = Y at *
            go_wp2_with fail
            refine HBY.out.mono ?_
            rintro e w5 ⟨rfl, hb5⟩
            have B5 := Lib.hid (B3.out.trans (hb5.mono B3.out.size))
            have H5 := Lib.hid (H3.out.below hb5)
            clear hb5 d0 d1 d2 d3 d4 d5 d6 HBY H3
            go_wp2
            go_roundw
            case rel => exact ⟨j + 1, v3, Y, 23, by omega, rfl, rfl, by go_num, H5.out, V3.out, B5.out, HS2.out⟩
            case measure => simp [intOf]; omega
          · have HS2 : Hid (Sim ((ts.take (j + 1)).foldl WS.thing WS.zero) (X ++ bThing ts[j]) 0) := Lib.hid (by rw [HSN.out]; exact HS.out.fine HFIT.out hok hbig)
            have hyl : (X ++ bThing ts[j]).length ≤ 65536 := by omega
            clear hok hzl hbig
            generalize bThing ts[j] = Z at *
            generalize X ++ Z = Y at *
            go_wp2_with fail
            refine HBY.out.mono ?_
            rintro e w5 ⟨rfl, hb5⟩
            have B5 := Lib.hid (B3.out.trans (hb5.mono B3.out.size))
            have H5 := Lib.hid (H3.out.below hb5)
            clear hb5 d0 d1 d2 d3 d4 d5 d6 HBY H3
            go_wp2
            go_roundw
            case rel => exact ⟨j + 1, v3, Y, 0, by omega, rfl, rfl, by go_num, H5.out, V3.out, B5.out, HS2.out⟩
            case measure => simp [intOf]; omega
      · have hEb : (E == 0) = false := by simpa using hE
        have HS2 : Hid (Sim ((ts.take (j + 1)).foldl WS.thing WS.zero) X E) := Lib.hid (by rw [HSN.out]; exact HS.out.stop hE ts[j])
        have HBY := Lib.hid HBY
        clear hE
        generalize ok2 (okB ts[j]) (bThing ts[j]) = Z at *
        generalize okB ts[j] = bb at *
        go_wp2_with fail
        refine HBY.out.mono ?_
        rintro e w5 ⟨rfl, hb5⟩
        have B5 := Lib.hid (B3.out.trans (hb5.mono B3.out.size))
        have H5 := Lib.hid (H3.out.below hb5)
        clear hb5 d0 d1 d2 d3 d4 d5 d6 HBY H3
        go_wp2
        go_roundw
        case rel => exact ⟨j + 1, v3, X, E, by omega, rfl, rfl, by go_num, H5.out, V3.out, B5.out, HS2.out⟩
        case measure => simp [intOf]; omega
    · obtain rfl : j = n := by omega
      have HW : Hid (WAt wr (some g) v (ts.foldl WS.thing WS.zero)) := Lib.hid (by have := HAT.out; rwa [← HN.out, List.take_length] at this)
      have hs2 : Sim (ts.foldl WS.thing WS.zero) X E := by have := HS.out; rwa [← HN.out, List.take_length] at this
      clear HAT HS
      generalize ts.foldl WS.thing WS.zero = S0 at *
      rcases hs2 with ⟨rfl, rfl, hxl⟩ | ⟨hE, rfl⟩
      · go_wp2_with fail
        refine (wdone_any (some g) v _ wr HW.out).mono ?_
        rintro e w4 ⟨rfl, f4⟩
        have B4 := Lib.hid (HB.out.trans (f4.below.mono HB.out.size))
        have W4 := Lib.hid (HW.out.keep f4)
        clear f4
        go_wp2_with fail
        refine (wdone_any (some g) v _ w4 W4.out).mono ?_
        rintro e w5 ⟨rfl, f5⟩
        have B5 := Lib.hid (B4.out.trans (f5.below.mono B4.out.size))
        clear f5
        go_wp2
        go_ret
        exact ⟨rfl, B5.out⟩
      · have hEb : (E != 0) = true := by simpa using hE
        have hEc : (E == 0) = false := by simpa using hE
        clear hE
        go_wp2_with fail
        refine (wdone_any (some g) v _ wr HW.out).mono ?_
        rintro e w4 ⟨rfl, f4⟩
        have B4 := Lib.hid (HB.out.trans (f4.below.mono HB.out.size))
        have W4 := Lib.hid (HW.out.keep f4)
        clear f4
        go_wp2_with fail
        refine (wdone_any (some g) v _ w4 W4.out).mono ?_
        rintro e w5 ⟨rfl, f5⟩
        have B5 := Lib.hid (B4.out.trans (f5.below.mono B4.out.size))
        clear f5
        go_wp2
        go_ret
        exact ⟨rfl, B5.out⟩
end Go.Proofs.Ytcncnponhhcjhaa
