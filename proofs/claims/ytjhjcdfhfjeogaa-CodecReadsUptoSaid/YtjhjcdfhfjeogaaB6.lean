/- The rows by their calls; facts; a schema. -/
import Derived.Test.YtjhjcdfhfjeogaaB5
namespace Go.Proofs.Ytjhjcdfhfjeogaa
open Go.RowKit Go.Maps
set_option linter.unusedVariables false

def WS.texts (S : WS) (l : List (List UInt8)) : WS := S.row WS.text l
def WS.ints (S : WS) (l : List Int) : WS := S.row WS.int l
def WS.cells (S : WS) (l : List CellP) : WS := S.row WS.cell l
theorem WS.texts_stop {S : WS} (h : S.fault ≠ 0) (l : List (List UInt8)) : S.texts l = S := row_stop _ (fun _ _ h => WS.text_stop h _) h l
theorem WS.ints_stop {S : WS} (h : S.fault ≠ 0) (l : List Int) : S.ints l = S := row_stop _ (fun _ _ h => WS.int_stop h _) h l
theorem WS.cells_stop {S : WS} (h : S.fault ≠ 0) (l : List CellP) : S.cells l = S := row_stop _ (fun _ _ h => WS.cell_stop h _) h l
theorem mkf (fn : Fn) (first cap : Array Value) (w : World) : (Instr.makeFunc fn first cap).run Try.prog w = .ok (.func fn first cap) w := rfl

set_option maxHeartbeats 400000 in
theorem wtexts_any (p : Option Nat) (v : Value) (S : WS) (K : Nat → Prop) (vl : Value) (l : List (List UInt8)) (w : World) (h : WAt w p v S) (hr : RowE K w 1 strE vl l) (hk : Off p v w K) :
    Calls Try.prog 45 #[wpt p, vl] w (WP p v w (S.texts l)) := by
  have HR := Lib.hid (wtexts_row p v S K vl l w h hr hk)
  have hmf := mkf
  clear h hr hk
  generalize hP : wpt p = P at *
  clear hP
  go_enter Try.func45, Try.ntmps45
  go_wp2_with fail
  refine HR.out.mono ?_
  rintro e w1 ⟨rfl, v1, h1, l1⟩
  go_wp2
  go_end0
  exact ⟨rfl, v1, h1, l1⟩
set_option maxHeartbeats 400000 in
theorem wcells_any (p : Option Nat) (v : Value) (S : WS) (K : Nat → Prop) (vl : Value) (l : List CellP) (w : World) (h : WAt w p v S) (hr : RowE K w 3 cellE vl l) (hk : Off p v w K) :
    Calls Try.prog 48 #[wpt p, vl] w (WP p v w (S.cells l)) := by
  have HR := Lib.hid (wcells_row p v S K vl l w h hr hk)
  have hmf := mkf
  clear h hr hk
  generalize hP : wpt p = P at *
  clear hP
  go_enter Try.func48, Try.ntmps48
  go_wp2_with fail
  refine HR.out.mono ?_
  rintro e w1 ⟨rfl, v1, h1, l1⟩
  go_wp2
  go_end0
  exact ⟨rfl, v1, h1, l1⟩

/-! ### facts -/
structure FactP where
  dims : List (List UInt8)
  meas : List Int
def factE (K : Nat → Prop) (w : World) (f : FactP) (cs : List Value) : Prop := ∃ dv mv, cs = [dv, mv] ∧ RowE K w 1 strE dv f.dims ∧ RowE K w 1 intE mv f.meas
theorem factE.of {K : Nat → Prop} {w w' : World} {f : FactP} {cs : List Value} (h : factE K w f cs) (hk : ∀ k, K k → w'.heap[k]? = w.heap[k]?) : factE K w' f cs := by
  obtain ⟨dv, mv, e, h1, h2⟩ := h
  exact ⟨dv, mv, e, h1.of hk fun _ _ h => h, h2.of hk fun _ _ h => h⟩
def WS.fact (S : WS) (f : FactP) : WS := (S.texts f.dims).ints f.meas
theorem WS.fact_stop {S : WS} (h : S.fault ≠ 0) (f : FactP) : S.fact f = S := by unfold WS.fact; rw [WS.texts_stop h, WS.ints_stop h]
def WS.facts (S : WS) (l : List FactP) : WS := S.row WS.fact l
theorem WS.facts_stop {S : WS} (h : S.fault ≠ 0) (l : List FactP) : S.facts l = S := row_stop _ (fun _ _ h => WS.fact_stop h _) h l
def WS.schema (S : WS) (d m : List (List UInt8)) : WS := (S.texts d).texts m

theorem RowE.slice {α : Type} {K : Nat → Prop} {w : World} {size : Nat} {E : α → List Value → Prop} {v : Value} {l : List α} (h : RowE K w size E v l) : ∃ A n c, v = .slice A n c := by
  obtain ⟨A, c, e, _⟩ := h; exact ⟨_, _, _, e⟩

set_option maxHeartbeats 1000000 in
theorem wfact_any (p : Option Nat) (v : Value) (S : WS) (K : Nat → Prop) (dv mv : Value) (f : FactP) (w : World) (h : WAt w p v S) (hd : RowE K w 1 strE dv f.dims) (hm : RowE K w 1 intE mv f.meas) (hk : Off p v w K) :
    Calls Try.prog 49 #[wpt p, .agg #[dv, mv]] w (WP p v w (S.fact f)) := by
  obtain ⟨wa, hwa⟩ : ∃ wa, w.alloc (.cells #[dv, mv] 99) = wa := ⟨_, rfl⟩
  obtain ⟨gb, hgb⟩ : ∃ gb, w.heap.size = gb := ⟨_, rfl⟩
  have hbx : Blk wa gb 99 #[dv, mv] := by rw [← hwa, ← hgb]; exact Blk.new w 99 _
  have hat : WAt wa p v S := by rw [← hwa]; exact h.alloc _
  have hwl : WL p v w v wa := by rw [← hwa]; exact WL.alloc0 p v w _
  have hng : ¬ WFt p v gb := fun e => by have := h.lt gb e; omega
  have H1 := Lib.hid (wtexts_any p v S K dv f.dims wa hat (hd.of (hk.same hwl) fun _ _ h => h) (hk.wl hwl))
  have c0 : wa.cell? ⟨gb, 0, none⟩ = some dv := hbx.cell 0
  have HX := Lib.hid hbx
  have HW := Lib.hid hwl
  have HN := Lib.hid hng
  have HK := Lib.hid hk
  have HM := Lib.hid hm
  obtain ⟨A1, n1, k1, rfl⟩ := hd.slice
  obtain ⟨A2, n2, k2, rfl⟩ := hm.slice
  have hmf := mkf
  clear hbx hat hwl hng hk hd hm h
  generalize hP : wpt p = P at *
  have HP := Lib.hid hP
  clear hP
  go_enter Try.func49, Try.ntmps49
  go_wp2_with fail
  refine H1.out.mono ?_
  rintro e w1 ⟨rfl, v1, h1, l1⟩
  have hx1 := HX.out.of (l1.fr.block gb HX.out.lt HN.out)
  have d1 : w1.cell? ⟨gb, 1, none⟩ = some (.slice A2 n2 k2) := hx1.cell 1
  have L1 := Lib.hid (HW.out.trans l1)
  have H2 := Lib.hid (wints_row p v1 _ K _ f.meas w1 h1 (HM.out.of (HK.out.same L1.out) fun _ _ h => h) (HK.out.wl L1.out))
  rw [HP.out] at H2
  clear hx1 h1 l1 c0 hwa hgb
  go_wp2_with fail
  refine H2.out.mono ?_
  rintro e w2 ⟨rfl, v2, h2, l2⟩
  go_wp2
  go_end0
  exact ⟨rfl, v2, h2, L1.out.trans l2⟩
set_option maxHeartbeats 1000000 in
theorem wschema_any (p : Option Nat) (v : Value) (S : WS) (K : Nat → Prop) (dv mv : Value) (d m : List (List UInt8)) (w : World) (h : WAt w p v S) (hd : RowE K w 1 strE dv d) (hm : RowE K w 1 strE mv m) (hk : Off p v w K) :
    Calls Try.prog 52 #[wpt p, .agg #[dv, mv]] w (WP p v w (S.schema d m)) := by
  obtain ⟨wa, hwa⟩ : ∃ wa, w.alloc (.cells #[dv, mv] 104) = wa := ⟨_, rfl⟩
  obtain ⟨gb, hgb⟩ : ∃ gb, w.heap.size = gb := ⟨_, rfl⟩
  have hbx : Blk wa gb 104 #[dv, mv] := by rw [← hwa, ← hgb]; exact Blk.new w 104 _
  have hat : WAt wa p v S := by rw [← hwa]; exact h.alloc _
  have hwl : WL p v w v wa := by rw [← hwa]; exact WL.alloc0 p v w _
  have hng : ¬ WFt p v gb := fun e => by have := h.lt gb e; omega
  have H1 := Lib.hid (wtexts_any p v S K dv d wa hat (hd.of (hk.same hwl) fun _ _ h => h) (hk.wl hwl))
  have c0 : wa.cell? ⟨gb, 0, none⟩ = some dv := hbx.cell 0
  have HX := Lib.hid hbx
  have HW := Lib.hid hwl
  have HN := Lib.hid hng
  have HK := Lib.hid hk
  have HM := Lib.hid hm
  obtain ⟨A1, n1, k1, rfl⟩ := hd.slice
  obtain ⟨A2, n2, k2, rfl⟩ := hm.slice
  have hmf := mkf
  clear hbx hat hwl hng hk hd hm h
  generalize hP : wpt p = P at *
  have HP := Lib.hid hP
  clear hP
  go_enter Try.func52, Try.ntmps52
  go_wp2_with fail
  refine H1.out.mono ?_
  rintro e w1 ⟨rfl, v1, h1, l1⟩
  have hx1 := HX.out.of (l1.fr.block gb HX.out.lt HN.out)
  have d1 : w1.cell? ⟨gb, 1, none⟩ = some (.slice A2 n2 k2) := hx1.cell 1
  have L1 := Lib.hid (HW.out.trans l1)
  have H2 := Lib.hid (wtexts_any p v1 _ K _ m w1 h1 (HM.out.of (HK.out.same L1.out) fun _ _ h => h) (HK.out.wl L1.out))
  rw [HP.out] at H2
  clear hx1 h1 l1 c0 hwa hgb
  go_wp2_with fail
  refine H2.out.mono ?_
  rintro e w2 ⟨rfl, v2, h2, l2⟩
  go_wp2
  go_end0
  exact ⟨rfl, v2, h2, L1.out.trans l2⟩

set_option maxRecDepth 100000 in
set_option maxHeartbeats 1000000 in
theorem wfacts_row (p : Option Nat) (v : Value) (S : WS) (K : Nat → Prop) (vl : Value) (l : List FactP) (w : World) (h : WAt w p v S) (hr : RowE K w 2 (factE K w) vl l) (hk : Off p v w K) :
    Calls Try.prog 87 #[wpt p, vl, .func (.func 49) #[wpt p] #[]] w (WP p v w (S.row WS.fact l)) := by
  obtain ⟨A, c, rfl, hm, hel⟩ := hr
  have HC := Lib.hid (wcount_any p v S (l.length : Int) w h)
  have HK := Lib.hid hk
  have HE := Lib.hid hel
  unfold maxLen at hm
  clear h hk hel
  obtain ⟨n, hn⟩ : ∃ n, l.length = n := ⟨_, rfl⟩
  rw [hn] at hm
  have HN := Lib.hid hn
  have hcs : Hid (S.count (l.length : Int) = S.count (n : Int)) := Lib.hid (by rw [hn])
  rw [hn] at HC ⊢
  clear hn
  generalize hP : wpt p = P at *
  have HP := Lib.hid hP
  clear hP
  go_enter Try.func87, Try.ntmps87
  go_wp2_with fail
  refine HC.out.mono ?_
  rintro e w1 ⟨rfl, v1, h1, l1⟩
  have H1 := Lib.hid h1
  have L1 := Lib.hid l1
  clear h1 l1
  go_wp2
  go_loopw [14] (fun i wr => ∃ j : Nat, ∃ v2, j ≤ n ∧ i = .int .i64 j ∧ WAt wr p v2 ((l.take j).foldl WS.fact (S.count n)) ∧ WL p v w v2 wr) (fun i _ => n - (intOf i).toNat)
  case atStart => exact ⟨0, v1, by omega, rfl, H1.out, L1.out⟩
  case round =>
    obtain ⟨j, v2, hj, rfl, h2, l2⟩ := hrel
    by_cases hlt : j < n
    · have hjl : j < l.length := by rw [HN.out]; exact hlt
      obtain ⟨g, off, rfl, hg, hcell⟩ := HE.out (by omega)
      obtain ⟨cs, hlen, hcs2, dv, mv, rfl, hdv, hmv⟩ := hcell j hjl
      have hc0 : _ = some dv := (cell_of_heap ((HK.out.same l2) g hg)).trans (hcs2 0 (by omega))
      have hc1 : _ = some mv := (cell_of_heap ((HK.out.same l2) g hg)).trans (hcs2 1 (by omega))
      simp only [Nat.add_zero] at hc0
      have hmx := And.intro hdv hmv
      obtain ⟨A1, n1, k1, rfl⟩ := hdv.slice
      obtain ⟨A2, n2, k2, rfl⟩ := hmv.slice
      have H2 := Lib.hid h2
      have L2 := Lib.hid l2
      have HM := Lib.hid hmx
      clear hcell hcs2 h2 l2 hlen hmx hdv hmv
      by_cases hz : ((l.take j).foldl WS.fact (S.count n)).fault = 0
      · have HZ := Lib.hid hz
        clear hz
        obtain ⟨wx, hwx⟩ : ∃ wx, wr.alloc (.cells #[.slice A1 n1 k1, .slice A2 n2 k2] 99) = wx := ⟨_, rfl⟩
        obtain ⟨gx, hgx⟩ : ∃ gx, wr.heap.size = gx := ⟨_, rfl⟩
        have hbx : Blk wx gx 99 #[.slice A1 n1 k1, .slice A2 n2 k2] := by rw [← hwx, ← hgx]; exact Blk.new wr 99 _
        have b0 : wx.cell? ⟨gx, 0, none⟩ = some (.slice A1 n1 k1) := hbx.cell 0
        have b1 : wx.cell? ⟨gx, 1, none⟩ = some (.slice A2 n2 k2) := hbx.cell 1
        have HX : Hid (WAt wx p v2 ((l.take j).foldl WS.fact (S.count n))) := Lib.hid (by rw [← hwx]; exact H2.out.alloc _)
        have LX : Hid (WL p v w v2 wx) := Lib.hid (by rw [← hwx]; exact L2.out.alloc _)
        clear hbx
        go_wp2_with fail
        rw [← HP.out]
        refine (wstop_no p v2 _ _ HX.out HZ.out).mono ?_
        rintro e w' ⟨rfl, rfl⟩
        go_wp2_with fail
        refine (wfact_any p v2 _ K _ _ l[j] _ HX.out (HM.out.1.of (HK.out.same LX.out) fun _ _ h => h) (HM.out.2.of (HK.out.same LX.out) fun _ _ h => h) (HK.out.wl LX.out)).mono ?_
        rintro e w3 ⟨rfl, v3, h3, l3⟩
        have H3 := Lib.hid h3
        have L3 := Lib.hid l3
        clear h3 l3 b0 b1 hc0 hc1 hwx hgx
        rw [HP.out]
        go_wp2
        go_roundw
        case rel => exact ⟨j + 1, v3, by omega, by go_num, by rw [fold_snoc _ _ _ _ hjl]; exact H3.out, LX.out.trans L3.out⟩
        case measure => simp [intOf]; omega
      · have HZ := Lib.hid hz
        clear hz
        obtain ⟨wx, hwx⟩ : ∃ wx, wr.alloc (.cells #[.slice A1 n1 k1, .slice A2 n2 k2] 99) = wx := ⟨_, rfl⟩
        obtain ⟨gx, hgx⟩ : ∃ gx, wr.heap.size = gx := ⟨_, rfl⟩
        have hbx : Blk wx gx 99 #[.slice A1 n1 k1, .slice A2 n2 k2] := by rw [← hwx, ← hgx]; exact Blk.new wr 99 _
        have b0 : wx.cell? ⟨gx, 0, none⟩ = some (.slice A1 n1 k1) := hbx.cell 0
        have b1 : wx.cell? ⟨gx, 1, none⟩ = some (.slice A2 n2 k2) := hbx.cell 1
        have HX : Hid (WAt wx p v2 ((l.take j).foldl WS.fact (S.count n))) := Lib.hid (by rw [← hwx]; exact H2.out.alloc _)
        have LX : Hid (WL p v w v2 wx) := Lib.hid (by rw [← hwx]; exact L2.out.alloc _)
        clear hbx
        go_wp2_with fail
        rw [← HP.out]
        refine (wstop_yes p v2 _ _ HX.out HZ.out).mono ?_
        rintro e w' ⟨rfl, rfl⟩
        go_wp2
        refine bodyPost_ret (results_none rfl _ _ _) rfl ?_
        exact ⟨rfl, v2, by rw [row_cut WS.fact (fun _ _ h => WS.fact_stop h _) S l j (by rw [hcs.out]; exact HZ.out), hcs.out]; exact HX.out, LX.out⟩
    · obtain rfl : j = n := by omega
      have H2 := Lib.hid h2
      have L2 := Lib.hid l2
      clear h2 l2
      go_wp2
      go_end0
      exact ⟨rfl, v2, by unfold WS.row; rw [hcs.out, ← HN.out]; have := H2.out; rw [← HN.out, List.take_length] at this; exact this, L2.out⟩
set_option maxHeartbeats 400000 in
theorem wfacts_any (p : Option Nat) (v : Value) (S : WS) (K : Nat → Prop) (vl : Value) (l : List FactP) (w : World) (h : WAt w p v S) (hr : RowE K w 2 (factE K w) vl l) (hk : Off p v w K) :
    Calls Try.prog 51 #[wpt p, vl] w (WP p v w (S.facts l)) := by
  have HR := Lib.hid (wfacts_row p v S K vl l w h hr hk)
  have hmf := mkf
  clear h hr hk
  generalize hP : wpt p = P at *
  clear hP
  go_enter Try.func51, Try.ntmps51
  go_wp2_with fail
  refine HR.out.mono ?_
  rintro e w1 ⟨rfl, v1, h1, l1⟩
  go_wp2
  go_end0
  exact ⟨rfl, v1, h1, l1⟩
end Go.Proofs.Ytjhjcdfhfjeogaa
