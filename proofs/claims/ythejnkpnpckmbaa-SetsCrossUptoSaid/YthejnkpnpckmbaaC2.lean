/- awake. -/
import Derived.Test.YthejnkpnpckmbaaC1
namespace Go.Proofs.Ythejnkpnpckmbaa
open Go.RowKit Go.Maps
set_option linter.unusedVariables false

abbrev Any : Nat → Prop := fun _ => True
/-- A row that was laid at once. -/
theorem row_blk {α : Type} {E : α → List Value → Prop} {w : World} {h e : Nat} {l : List α} {xs : List Value} {c : Nat} (hb : Blk w h e xs.toArray) (hx : ∀ i (hi : i < l.length), ∃ u, xs[i]? = some u ∧ E l[i] [u]) (h1 : l.length ≤ c) (h2 : c ≤ maxLen) : RowE Any w 1 E (.slice (some ⟨h, 0, none⟩) l.length c) l := by
  refine ⟨_, c, rfl, h1, h2, fun h0 => ⟨h, 0, rfl, trivial, hb.lt, fun i hi => ?_⟩⟩
  obtain ⟨u, e1, e2⟩ := hx i hi
  refine ⟨[u], rfl, fun k hk => ?_, e2⟩
  obtain rfl : k = 0 := by omega
  rw [hb.cell]
  simpa using e1
theorem row_strs {w : World} {h : Nat} {l : List Tx} {c : Nat} (hb : Blk w h 9 (l.map sv).toArray) (hl : ∀ t ∈ l, t.length ≤ maxLen) (h1 : l.length ≤ c) (h2 : c ≤ maxLen) : RowE Any w 1 (strG Any w) (.slice (some ⟨h, 0, none⟩) l.length c) l :=
  row_blk hb (fun i hi => ⟨sv l[i], by simp [hi], rfl, hl _ (List.getElem_mem hi)⟩) h1 h2
/-- The groups' cells, one behind the other. -/
theorem row_groups {w : World} {h : Nat} {l : List Gp} {xs : List Value} {c : Nat} (hb : Blk w h 38 xs.toArray) (hx : ∀ i (hi : i < l.length), ∃ a b, xs[i * 3]? = some (.int .i64 l[i].kind) ∧ xs[i * 3 + 1]? = some a ∧ xs[i * 3 + 2]? = some b ∧ i64 l[i].kind ∧ RowE Any w 1 (strG Any w) a l[i].cols ∧ RowE Any w 1 (lsG Any w) b l[i].sets) (h1 : l.length ≤ c) (h2 : c ≤ maxLen) :
    RowE Any w 3 (gpG Any w) (.slice (some ⟨h, 0, none⟩) l.length c) l := by
  refine ⟨_, c, rfl, h1, h2, fun h0 => ⟨h, 0, rfl, trivial, hb.lt, fun i hi => ?_⟩⟩
  obtain ⟨a, b, e1, e2, e3, e4, e5, e6⟩ := hx i hi
  refine ⟨[.int .i64 l[i].kind, a, b], rfl, fun k hk => ?_, a, b, rfl, e4, e5, e6⟩
  rw [hb.cell]
  have : k = 0 ∨ k = 1 ∨ k = 2 := by omega
  rcases this with rfl | rfl | rfl
  · simpa using e1
  · simpa using e2
  · simpa using e3
theorem i64_of (n : Int) (h : (decide (-9223372036854775808 ≤ n) && decide (n ≤ 9223372036854775807)) = true) : i64 n := by
  simp at h; exact h
theorem gpF_of (gs : List Gp) (h : (gs.all fun g => decide (g.cols.length ≤ 2097152) && decide (g.sets.length ≤ 2097152) && g.sets.all fun s => decide (s.length ≤ 2097152)) = true) : ∀ g ∈ gs, GpF g := fun g hg => by
  have := List.all_eq_true.1 h g hg
  simp at this
  exact ⟨this.1.1, this.1.2, fun s hs => this.2 s hs⟩

def g1 : List Gp := [⟨1, [[99]], []⟩, ⟨2, [[97], [98]], []⟩]
def g2 : List Gp := [⟨1, [[120]], []⟩]
def d1 : List Tx := [[97], [98], [99]]
theorem ex1 : expandL d1 g1 = ([7, 5, 4], 0) := by kernel_rfl
theorem ex2 : expandL [[97]] g2 = ([], 42) := by kernel_rfl
theorem row_nth {K : Nat → Prop} {w : World} {A : Option Addr} {n c : Nat} {l : List Nat} (h : RowE K w 1 (natG K w) (.slice A n c) l) (h0 : 0 < l.length) : ∃ g o, A = some ⟨g, o, none⟩ ∧ g < w.heap.size ∧ ∀ i x, l[i]? = some x → w.cell? ⟨g, o + i, none⟩ = some (.int .i64 (x : Nat)) := by
  obtain ⟨A0, c0, e0, _, _, hr⟩ := h
  injection e0 with e1 e2 e3
  subst e1
  obtain ⟨g, o, e, _, hg, hel⟩ := hr h0
  refine ⟨g, o, e, hg, fun i x hx => ?_⟩
  obtain ⟨hi, hxi⟩ := List.getElem?_eq_some_iff.1 hx
  obtain ⟨cs, _, h2, h3⟩ := hel i hi
  have := h2 0 (by decide)
  rw [h3, hxi] at this
  simpa using this
set_option maxRecDepth 100000 in
set_option maxHeartbeats 2000000 in
theorem awake_any (w : World) : Calls Try.prog 6 #[] w (TellsB true w) := by
  obtain ⟨y, hy⟩ : ∃ y, w.heap.size = y := ⟨_, rfl⟩
  obtain ⟨wa, hwa⟩ : ∃ wa, w.alloc (.cells #[sv [97], sv [98], sv [99]] 9) = wa := ⟨_, rfl⟩
  have ya : wa.heap.size = y + 1 := by rw [← hwa, ← hy]; simp
  obtain ⟨wb, hwb⟩ : ∃ wb, wa.alloc (.cells #[sv [99]] 9) = wb := ⟨_, rfl⟩
  have yb : wb.heap.size = y + 1 + 1 := by rw [← hwb]; simp [ya]
  obtain ⟨wc, hwc⟩ : ∃ wc, wb.alloc (.cells #[sv [97], sv [98]] 9) = wc := ⟨_, rfl⟩
  have yc : wc.heap.size = y + 1 + 1 + 1 := by rw [← hwc]; simp [yb]
  obtain ⟨wd, hwd⟩ : ∃ wd, wc.alloc (.cells #[.int .i64 1, .slice (some ⟨y + 1, 0, none⟩) 1 1, .slice none 0 0, .int .i64 2, .slice (some ⟨y + 1 + 1, 0, none⟩) 2 2, .slice none 0 0] 38) = wd := ⟨_, rfl⟩
  have fa : Fr No w wa := by rw [← hwa]; exact (Fr.refl No w).alloc _
  have fb : Fr No wa wb := by rw [← hwb]; exact (Fr.refl No wa).alloc _
  have fc : Fr No wb wc := by rw [← hwc]; exact (Fr.refl No wb).alloc _
  have fd : Fr No wc wd := by rw [← hwd]; exact (Fr.refl No wc).alloc _
  have fbd : Fr No wb wd := fc.trans fd fun _ _ h => h
  have fad : Fr No wa wd := fb.trans fbd fun _ _ h => h
  have ba : Blk wa y 9 #[sv [97], sv [98], sv [99]] := by rw [← hwa, ← hy]; exact Blk.new w 9 _
  have bb : Blk wb (y + 1) 9 #[sv [99]] := by rw [← hwb, ← ya]; exact Blk.new wa 9 _
  have bc : Blk wc (y + 1 + 1) 9 #[sv [97], sv [98]] := by rw [← hwc, ← yb]; exact Blk.new wb 9 _
  have bd : Blk wd (y + 1 + 1 + 1) 38 #[.int .i64 1, .slice (some ⟨y + 1, 0, none⟩) 1 1, .slice none 0 0, .int .i64 2, .slice (some ⟨y + 1 + 1, 0, none⟩) 2 2, .slice none 0 0] := by rw [← hwd, ← yc]; exact Blk.new wc 38 _
  have ra : RowE Any wd 1 (strG Any wd) (.slice (some ⟨y, 0, none⟩) 3 3) d1 := row_strs (l := d1) (ba.of (fad.block _ ba.lt id)) (by intro t ht; simp [d1] at ht; rcases ht with rfl | rfl | rfl <;> decide) (Nat.le_refl _) (by decide)
  have rb : RowE Any wd 1 (strG Any wd) (.slice (some ⟨y + 1, 0, none⟩) 1 1) [[99]] := row_strs (l := [[99]]) (bb.of (fbd.block _ bb.lt id)) (by intro t ht; simp at ht; subst ht; decide) (Nat.le_refl _) (by decide)
  have rc : RowE Any wd 1 (strG Any wd) (.slice (some ⟨y + 1 + 1, 0, none⟩) 2 2) [[97], [98]] := row_strs (l := [[97], [98]]) (bc.of (fd.block _ bc.lt id)) (by intro t ht; simp at ht; rcases ht with rfl | rfl <;> decide) (Nat.le_refl _) (by decide)
  have rd : RowE Any wd 3 (gpG Any wd) (.slice (some ⟨y + 1 + 1 + 1, 0, none⟩) 2 2) g1 := row_groups (l := g1) bd (fun i hi => by
    rcases i with _ | _ | i
    · exact ⟨_, _, rfl, rfl, rfl, i64_of 1 (by decide), rb, RowE.nil _ _ _ _⟩
    · exact ⟨_, _, rfl, rfl, rfl, i64_of 2 (by decide), rc, RowE.nil _ _ _ _⟩
    · simp [g1] at hi; omega) (Nat.le_refl _) (by decide)
  have hC := expand_any wd ra rd (gpF_of g1 (by decide)) (by decide)
  rw [ex1] at hC
  have HC := Lib.hid hC
  have HFD := Lib.hid (fa.trans fad fun _ _ h => h)
  have HY := Lib.hid hy
  have HWA := Lib.hid hwa
  have HWB := Lib.hid hwb
  have HWC := Lib.hid hwc
  have HWD := Lib.hid hwd
  have HYA := Lib.hid ya
  have HYB := Lib.hid yb
  have HYC := Lib.hid yc
  clear hy hwa hwb hwc hwd ya yb yc fa fb fc fd fbd fad ba bb bc bd ra rb rc rd hC
  go_enter Try.func6, Try.ntmps6
  go_wp2_with fail
  rw [HY.out, HWA.out, HWB.out, HWC.out, HWD.out]
  refine HC.out.mono ?_
  rintro e w1 ⟨v1, rfl, hr1, f1⟩
  obtain ⟨A1, c1, rfl, hq1, hq2⟩ := row_len hr1
  obtain ⟨h, o, rfl, hg, hcell⟩ := row_nth hr1 (by decide)
  have HF1 := Lib.hid (HFD.out.trans f1 fun _ _ h => h)
  have c0 : w1.cell? ⟨h, o, none⟩ = some (.int .i64 7) := hcell 0 7 rfl
  have c1' : w1.cell? ⟨h, o + 1, none⟩ = some (.int .i64 5) := hcell 1 5 rfl
  have c2 : w1.cell? ⟨h, o + 2, none⟩ = some (.int .i64 4) := hcell 2 4 rfl
  have HH := Lib.hid hg
  obtain ⟨z, hz⟩ : ∃ z, w1.heap.size = z := ⟨_, rfl⟩
  obtain ⟨we, hwe⟩ : ∃ we, w1.alloc (.cells #[sv [97]] 9) = we := ⟨_, rfl⟩
  have ze : we.heap.size = z + 1 := by rw [← hwe, ← hz]; simp
  obtain ⟨wf, hwf⟩ : ∃ wf, we.alloc (.cells #[sv [120]] 9) = wf := ⟨_, rfl⟩
  have zf : wf.heap.size = z + 1 + 1 := by rw [← hwf]; simp [ze]
  obtain ⟨wg, hwg⟩ : ∃ wg, wf.alloc (.cells #[.int .i64 1, .slice (some ⟨z + 1, 0, none⟩) 1 1, .slice none 0 0] 38) = wg := ⟨_, rfl⟩
  have fe : Fr No w1 we := by rw [← hwe]; exact (Fr.refl No w1).alloc _
  have ff : Fr No we wf := by rw [← hwf]; exact (Fr.refl No we).alloc _
  have fg : Fr No wf wg := by rw [← hwg]; exact (Fr.refl No wf).alloc _
  have feg : Fr No we wg := ff.trans fg fun _ _ h => h
  have be : Blk we z 9 #[sv [97]] := by rw [← hwe, ← hz]; exact Blk.new w1 9 _
  have bf : Blk wf (z + 1) 9 #[sv [120]] := by rw [← hwf, ← ze]; exact Blk.new we 9 _
  have bg : Blk wg (z + 1 + 1) 38 #[.int .i64 1, .slice (some ⟨z + 1, 0, none⟩) 1 1, .slice none 0 0] := by rw [← hwg, ← zf]; exact Blk.new wf 38 _
  have re : RowE Any wg 1 (strG Any wg) (.slice (some ⟨z, 0, none⟩) 1 1) [[97]] := row_strs (l := [[97]]) (be.of (feg.block _ be.lt id)) (by intro t ht; simp at ht; subst ht; decide) (Nat.le_refl _) (by decide)
  have rf : RowE Any wg 1 (strG Any wg) (.slice (some ⟨z + 1, 0, none⟩) 1 1) [[120]] := row_strs (l := [[120]]) (bf.of (fg.block _ bf.lt id)) (by intro t ht; simp at ht; subst ht; decide) (Nat.le_refl _) (by decide)
  have rg : RowE Any wg 3 (gpG Any wg) (.slice (some ⟨z + 1 + 1, 0, none⟩) 1 1) g2 := row_groups (l := g2) bg (fun i hi => by
    rcases i with _ | i
    · exact ⟨_, _, rfl, rfl, rfl, i64_of 1 (by decide), rf, RowE.nil _ _ _ _⟩
    · simp [g2] at hi) (Nat.le_refl _) (by decide)
  have hC2 := expand_any wg re rg (gpF_of g2 (by decide)) (by decide)
  rw [ex2] at hC2
  have HC2 := Lib.hid hC2
  have HFG := Lib.hid (fe.trans feg fun _ _ h => h)
  have HZ := Lib.hid hz
  have HWE := Lib.hid hwe
  have HWF := Lib.hid hwf
  have HWG := Lib.hid hwg
  have HZE := Lib.hid ze
  have HZF := Lib.hid zf
  clear hz hwe hwf hwg ze zf fe ff fg feg be bf bg re rf rg hC2 hcell hr1 f1 hg hq1 hq2
  go_wp2_with fail
  rw [HZ.out, HWE.out, HWF.out, HWG.out]
  refine HC2.out.mono ?_
  rintro e w2 ⟨v2, rfl, hr2, f2⟩
  obtain ⟨A2, c2', rfl, -, -⟩ := row_len hr2
  have f12 := HFG.out.trans f2 fun _ _ h => h
  have HF2 := Lib.hid (HF1.out.trans f12 fun _ _ h => h)
  have k0 : w2.cell? ⟨h, o, none⟩ = some (.int .i64 7) := (cell_of_heap (f12.block h HH.out id)).trans c0
  have k1 : w2.cell? ⟨h, o + 1, none⟩ = some (.int .i64 5) := (cell_of_heap (f12.block h HH.out id)).trans c1'
  have k2 : w2.cell? ⟨h, o + 2, none⟩ = some (.int .i64 4) := (cell_of_heap (f12.block h HH.out id)).trans c2
  obtain ⟨x, hx⟩ : ∃ x, w2.heap.size = x := ⟨_, rfl⟩
  obtain ⟨w3, hw3⟩ : ∃ w3, w2.alloc (.cells #[.int .i64 0, .int .i64 2] 3) = w3 := ⟨_, rfl⟩
  have f3 : Fr No w2 w3 := by rw [← hw3]; exact (Fr.refl No w2).alloc _
  have b3 : Blk w3 x 3 #[.int .i64 0, .int .i64 2] := by rw [← hw3, ← hx]; exact Blk.new w2 3 _
  have r3 : RowE Any w3 1 (intG Any w3) (.slice (some ⟨x, 0, none⟩) 2 2) [0, 2] := row_blk (l := [(0 : Int), 2]) b3 (fun i hi => by
    rcases i with _ | _ | i
    · exact ⟨_, rfl, rfl, i64_of 0 (by decide)⟩
    · exact ⟨_, rfl, rfl, i64_of 2 (by decide)⟩
    · simp at hi; omega) (Nat.le_refl _) (by decide)
  have hC3 := of_any w3 r3
  rw [show ofL [0, 2] = 5 from by kernel_rfl] at hC3
  have HC3 := Lib.hid hC3
  have HF3 := Lib.hid (HF2.out.trans f3 fun _ _ h => h)
  have HX := Lib.hid hx
  have HW3 := Lib.hid hw3
  clear hx hw3 f3 b3 r3 hC3 f12 f2 hr2 c0 c1' c2
  go_wp2_with fail
  rw [HX.out, HW3.out]
  refine HC3.out.mono ?_
  rintro e w4 ⟨rfl, f4⟩
  have HF4 := Lib.hid (HF3.out.trans f4 fun _ _ h => h)
  have hC5 := list_any 5 w4
  rw [show listB 5 = [0, 2] from by kernel_rfl] at hC5
  have HC5 := Lib.hid hC5
  clear hC5 f4
  go_wp2_with fail
  refine HC5.out.mono ?_
  rintro e w5 ⟨v5, rfl, hr5, f5⟩
  obtain ⟨A5, c5, rfl, -, -⟩ := row_len hr5
  have HF5 := Lib.hid (HF4.out.trans f5 fun _ _ h => h)
  clear hr5 f5
  go_wp2_with fail
  go_ret
  exact ⟨rfl, HF5.out⟩
end Go.Proofs.Ythejnkpnpckmbaa
