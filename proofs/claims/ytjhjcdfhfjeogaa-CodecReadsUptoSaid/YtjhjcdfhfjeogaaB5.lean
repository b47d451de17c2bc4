/- Numbers, cells, facts in a row; a schema. -/
import Derived.Test.YtjhjcdfhfjeogaaB4
namespace Go.Proofs.Ytjhjcdfhfjeogaa
open Go.RowKit Go.Maps
set_option linter.unusedVariables false

set_option maxRecDepth 100000 in
set_option maxHeartbeats 1000000 in
theorem wints_row (p : Option Nat) (v : Value) (S : WS) (K : Nat → Prop) (vl : Value) (l : List Int) (w : World) (h : WAt w p v S) (hr : RowE K w 1 intE vl l) (hk : Off p v w K) :
    Calls Try.prog 86 #[wpt p, vl, .func (.func 43) #[wpt p] #[]] w (WP p v w (S.row WS.int l)) := by
  obtain ⟨A, c, rfl, hm, hel⟩ := hr
  have HC := Lib.hid (wcount_any p v S (l.length : Int) w h)
  have HK := Lib.hid hk
  have HE := Lib.hid hel
  unfold maxLen at hm
  clear h hk hel
  obtain ⟨n, hn⟩ : ∃ n, l.length = n := ⟨_, rfl⟩
  rw [hn] at hm
  have HN := Lib.hid hn
  have hcs : Hid (S.count (l.length : Int) = S.count (n : Int)) := Lib.hid (by rw [hn])
  rw [hn] at HC ⊢
  clear hn
  generalize hP : wpt p = P at *
  have HP := Lib.hid hP
  clear hP
  go_enter Try.func86, Try.ntmps86
  go_wp2_with fail
  refine HC.out.mono ?_
  rintro e w1 ⟨rfl, v1, h1, l1⟩
  have H1 := Lib.hid h1
  have L1 := Lib.hid l1
  clear h1 l1
  go_wp2
  go_loopw [14] (fun i wr => ∃ j : Nat, ∃ v2, j ≤ n ∧ i = .int .i64 j ∧ WAt wr p v2 ((l.take j).foldl WS.int (S.count n)) ∧ WL p v w v2 wr) (fun i _ => n - (intOf i).toNat)
  case atStart => exact ⟨0, v1, by omega, rfl, H1.out, L1.out⟩
  case round =>
    obtain ⟨j, v2, hj, rfl, h2, l2⟩ := hrel
    by_cases hlt : j < n
    · have hjl : j < l.length := by rw [HN.out]; exact hlt
      obtain ⟨g, off, rfl, hg, hcell⟩ := HE.out (by omega)
      obtain ⟨cs, hlen, hcs2, rfl, hmx⟩ := hcell j hjl
      have hc : _ = some (Value.int .i64 l[j]) := (cell_of_heap ((HK.out.same l2) g hg)).trans (hcs2 0 (by omega))
      simp only [Nat.mul_one, Nat.add_zero] at hc
      have H2 := Lib.hid h2
      have L2 := Lib.hid l2
      have HM := Lib.hid hmx
      clear hcell hcs2 h2 l2 hlen hmx
      by_cases hz : ((l.take j).foldl WS.int (S.count n)).fault = 0
      · have HZ := Lib.hid hz
        clear hz
        go_wp2_with fail
        rw [← HP.out]
        refine (wstop_no p v2 _ _ H2.out HZ.out).mono ?_
        rintro e w' ⟨rfl, rfl⟩
        go_wp2_with fail
        refine (wint_any p v2 _ l[j] _ H2.out).mono ?_
        rintro e w3 ⟨rfl, v3, h3, l3⟩
        have H3 := Lib.hid h3
        have L3 := Lib.hid l3
        clear h3 l3
        rw [HP.out]
        go_wp2
        go_roundw
        case rel => exact ⟨j + 1, v3, by omega, by go_num, by rw [fold_snoc _ _ _ _ hjl]; exact H3.out, L2.out.trans L3.out⟩
        case measure => simp [intOf]; omega
      · have HZ := Lib.hid hz
        clear hz
        go_wp2_with fail
        rw [← HP.out]
        refine (wstop_yes p v2 _ _ H2.out HZ.out).mono ?_
        rintro e w' ⟨rfl, rfl⟩
        go_wp2
        refine bodyPost_ret (results_none rfl _ _ _) rfl ?_
        exact ⟨rfl, v2, by rw [row_cut WS.int (fun _ _ h => WS.int_stop h _) S l j (by rw [hcs.out]; exact HZ.out), hcs.out]; exact H2.out, L2.out⟩
    · obtain rfl : j = n := by omega
      have H2 := Lib.hid h2
      have L2 := Lib.hid l2
      clear h2 l2
      go_wp2
      go_end0
      exact ⟨rfl, v2, by unfold WS.row; rw [hcs.out, ← HN.out]; have := H2.out; rw [← HN.out, List.take_length] at this; exact this, L2.out⟩
set_option maxRecDepth 100000 in
set_option maxHeartbeats 1000000 in
theorem wcells_row (p : Option Nat) (v : Value) (S : WS) (K : Nat → Prop) (vl : Value) (l : List CellP) (w : World) (h : WAt w p v S) (hr : RowE K w 3 cellE vl l) (hk : Off p v w K) :
    Calls Try.prog 85 #[wpt p, vl, .func (.func 46) #[wpt p] #[]] w (WP p v w (S.row WS.cell l)) := by
  obtain ⟨A, c, rfl, hm, hel⟩ := hr
  have HC := Lib.hid (wcount_any p v S (l.length : Int) w h)
  have HK := Lib.hid hk
  have HE := Lib.hid hel
  unfold maxLen at hm
  clear h hk hel
  obtain ⟨n, hn⟩ : ∃ n, l.length = n := ⟨_, rfl⟩
  rw [hn] at hm
  have HN := Lib.hid hn
  have hcs : Hid (S.count (l.length : Int) = S.count (n : Int)) := Lib.hid (by rw [hn])
  rw [hn] at HC ⊢
  clear hn
  generalize hP : wpt p = P at *
  have HP := Lib.hid hP
  clear hP
  go_enter Try.func85, Try.ntmps85
  go_wp2_with fail
  refine HC.out.mono ?_
  rintro e w1 ⟨rfl, v1, h1, l1⟩
  have H1 := Lib.hid h1
  have L1 := Lib.hid l1
  clear h1 l1
  go_wp2
  go_loopw [14] (fun i wr => ∃ j : Nat, ∃ v2, j ≤ n ∧ i = .int .i64 j ∧ WAt wr p v2 ((l.take j).foldl WS.cell (S.count n)) ∧ WL p v w v2 wr) (fun i _ => n - (intOf i).toNat)
  case atStart => exact ⟨0, v1, by omega, rfl, H1.out, L1.out⟩
  case round =>
    obtain ⟨j, v2, hj, rfl, h2, l2⟩ := hrel
    by_cases hlt : j < n
    · have hjl : j < l.length := by rw [HN.out]; exact hlt
      obtain ⟨g, off, rfl, hg, hcell⟩ := HE.out (by omega)
      obtain ⟨cs, hlen, hcs2, rfl, hmx⟩ := hcell j hjl
      have hc0 : _ = some (Value.int .i64 l[j].kind) := (cell_of_heap ((HK.out.same l2) g hg)).trans (hcs2 0 (by omega))
      have hc1 : _ = some (Value.int .i64 l[j].int) := (cell_of_heap ((HK.out.same l2) g hg)).trans (hcs2 1 (by omega))
      have hc2 : _ = some (sv l[j].text) := (cell_of_heap ((HK.out.same l2) g hg)).trans (hcs2 2 (by omega))
      simp only [Nat.add_zero] at hc0
      have H2 := Lib.hid h2
      have L2 := Lib.hid l2
      have HM := Lib.hid hmx
      clear hcell hcs2 h2 l2 hlen hmx
      by_cases hz : ((l.take j).foldl WS.cell (S.count n)).fault = 0
      · have HZ := Lib.hid hz
        clear hz
        obtain ⟨wx, hwx⟩ : ∃ wx, wr.alloc (.cells #[.int .i64 l[j].kind, .int .i64 l[j].int, sv l[j].text] 93) = wx := ⟨_, rfl⟩
        obtain ⟨gx, hgx⟩ : ∃ gx, wr.heap.size = gx := ⟨_, rfl⟩
        have hbx : Blk wx gx 93 #[.int .i64 l[j].kind, .int .i64 l[j].int, sv l[j].text] := by rw [← hwx, ← hgx]; exact Blk.new wr 93 _
        have b0 : wx.cell? ⟨gx, 0, none⟩ = some (.int .i64 l[j].kind) := hbx.cell 0
        have b1 : wx.cell? ⟨gx, 1, none⟩ = some (.int .i64 l[j].int) := hbx.cell 1
        have b2 : wx.cell? ⟨gx, 2, none⟩ = some (sv l[j].text) := hbx.cell 2
        have HX : Hid (WAt wx p v2 ((l.take j).foldl WS.cell (S.count n))) := Lib.hid (by rw [← hwx]; exact H2.out.alloc _)
        have LX : Hid (WL p v w v2 wx) := Lib.hid (by rw [← hwx]; exact L2.out.alloc _)
        clear hbx
        go_wp2_with fail
        rw [← HP.out]
        refine (wstop_no p v2 _ _ HX.out HZ.out).mono ?_
        rintro e w' ⟨rfl, rfl⟩
        go_wp2_with fail
        refine (wcell_any p v2 _ l[j] _ HX.out HM.out.2.2).mono ?_
        rintro e w3 ⟨rfl, v3, h3, l3⟩
        have H3 := Lib.hid h3
        have L3 := Lib.hid l3
        clear h3 l3 b0 b1 b2 hc0 hc1 hc2 hwx hgx
        rw [HP.out]
        go_wp2
        go_roundw
        case rel => exact ⟨j + 1, v3, by omega, by go_num, by rw [fold_snoc _ _ _ _ hjl]; exact H3.out, LX.out.trans L3.out⟩
        case measure => simp [intOf]; omega
      · have HZ := Lib.hid hz
        clear hz
        obtain ⟨wx, hwx⟩ : ∃ wx, wr.alloc (.cells #[.int .i64 l[j].kind, .int .i64 l[j].int, sv l[j].text] 93) = wx := ⟨_, rfl⟩
        obtain ⟨gx, hgx⟩ : ∃ gx, wr.heap.size = gx := ⟨_, rfl⟩
        have hbx : Blk wx gx 93 #[.int .i64 l[j].kind, .int .i64 l[j].int, sv l[j].text] := by rw [← hwx, ← hgx]; exact Blk.new wr 93 _
        have b0 : wx.cell? ⟨gx, 0, none⟩ = some (.int .i64 l[j].kind) := hbx.cell 0
        have b1 : wx.cell? ⟨gx, 1, none⟩ = some (.int .i64 l[j].int) := hbx.cell 1
        have b2 : wx.cell? ⟨gx, 2, none⟩ = some (sv l[j].text) := hbx.cell 2
        have HX : Hid (WAt wx p v2 ((l.take j).foldl WS.cell (S.count n))) := Lib.hid (by rw [← hwx]; exact H2.out.alloc _)
        have LX : Hid (WL p v w v2 wx) := Lib.hid (by rw [← hwx]; exact L2.out.alloc _)
        clear hbx
        go_wp2_with fail
        rw [← HP.out]
        refine (wstop_yes p v2 _ _ HX.out HZ.out).mono ?_
        rintro e w' ⟨rfl, rfl⟩
        go_wp2
        refine bodyPost_ret (results_none rfl _ _ _) rfl ?_
        exact ⟨rfl, v2, by rw [row_cut WS.cell (fun _ _ h => WS.cell_stop h _) S l j (by rw [hcs.out]; exact HZ.out), hcs.out]; exact HX.out, LX.out⟩
    · obtain rfl : j = n := by omega
      have H2 := Lib.hid h2
      have L2 := Lib.hid l2
      clear h2 l2
      go_wp2
      go_end0
      exact ⟨rfl, v2, by unfold WS.row; rw [hcs.out, ← HN.out]; have := H2.out; rw [← HN.out, List.take_length] at this; exact this, L2.out⟩
end Go.Proofs.Ytjhjcdfhfjeogaa
