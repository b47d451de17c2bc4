/- The document's Merge. -/
import Derived.Test.YtlpglijikmnopaaGreatDoorB11
namespace Go.Proofs.YtlpglijikmnopaaGreatDoor
open Go.RowKit Go.Maps Go.Sort
set_option linter.unusedVariables false

theorem mergeL_max (l m : List Pt) : (mergeL l m).length = max l.length m.length := by
  rcases Nat.le_total m.length l.length with h | h
  · rw [mergeL_len h]; omega
  · rw [mergeL_comm, mergeL_len h]; omega
set_option maxRecDepth 100000 in
set_option maxHeartbeats 4000000 in
theorem rmerge_any {K K2 : Nat → Prop} (c1 c2 : Int) (l m : List Pt) (v v2 : Value) (w : World) (h : PR K w v l) (hl : Lok l) (h2 : PR K2 w v2 m) (hm : Lok m) :
    Calls Tryz.prog 68 #[.agg #[.int .i64 c1, v], .agg #[.int .i64 c2, v2]] w (TellsA ⟨w64 (c1 + c2), mergeL l m⟩ w) := by
  obtain ⟨A, ca, rfl, ha1, ha2⟩ := h.form
  obtain ⟨B, cb, rfl, hb1, hb2⟩ := h2.form
  obtain ⟨N, hN⟩ : ∃ N, l.length = N := ⟨_, rfl⟩
  obtain ⟨M, hM⟩ : ∃ M, m.length = M := ⟨_, rfl⟩
  obtain ⟨T, hT⟩ : ∃ T, max N M = T := ⟨_, rfl⟩
  obtain ⟨b, hb⟩ : ∃ b, w.heap.size = b := ⟨_, rfl⟩
  obtain ⟨cn, hcn⟩ : ∃ cn, w64 (c1 + c2) = cn := ⟨_, rfl⟩
  have HCN := Lib.hid hcn
  have ecn : IntKind.i64.wrap (c1 + c2) = cn := by rw [← hcn, IntKind.wrap_i64]; rfl
  obtain ⟨w0, hw0⟩ : ∃ w1, ((w.alloc (.cells #[.int .i64 c1, .slice A N ca] 48)).alloc (.cells #[.int .i64 c2, .slice B M cb] 48)).alloc (.cells #[.int .i64 0, .slice none 0 0] 48) = w1 := ⟨_, rfl⟩
  obtain ⟨w1, hw1⟩ : ∃ w1, w0.alloc (.cells #[.int .i64 cn, .slice none 0 0] 48) = w1 := ⟨_, rfl⟩
  have f0 : Fr No w w0 := by rw [← hw0]; exact (((Fr.refl No w).alloc _).alloc _).alloc _
  have hx0 : Blk w0 b 48 #[.int .i64 c1, .slice A N ca] := by rw [← hw0, ← hb]; exact (Blk.new w 48 _).no (((Fr.refl No _).alloc _).alloc _)
  have hy0 : Blk w0 (b + 1) 48 #[.int .i64 c2, .slice B M cb] := by rw [← hw0, ← hb]; exact (blk_at1 w _ 48 _).no ((Fr.refl No _).alloc _)
  have hr0 : Blk w0 (b + 2) 48 #[.int .i64 0, .slice none 0 0] := by rw [← hw0, ← hb]; exact blk_at2 w _ _ 48 _
  have hs0 : w0.heap.size = b + 3 := by rw [← hw0, ← hb]; simp
  have f01 : Fr No w0 w1 := by rw [← hw1]; exact (Fr.refl No w0).alloc _
  have f1 := f0.trans f01 fun _ _ h => h
  have hx := hx0.no f01
  have hy := hy0.no f01
  have hr := hr0.no f01
  have ho : Blk w1 (b + 3) 48 #[.int .i64 cn, .slice none 0 0] := by rw [← hw1, ← hs0]; exact Blk.new w0 48 _
  have hs1 : w1.heap.size = b + 4 := by rw [← hw1]; simp [hs0]
  rw [hN] at h ha1
  rw [hM] at h2 hb1
  have HP := Lib.hid h
  have HQ := Lib.hid h2
  have HL := Lib.hid hl
  have HM2 := Lib.hid hm
  have HF1 := Lib.hid f1
  have HX := Lib.hid hx
  have HY0 := Lib.hid hy
  have HR := Lib.hid hr
  have HO := Lib.hid ho
  have HW0 := Lib.hid hw0
  have HW1 := Lib.hid hw1
  have HB := Lib.hid hb
  have HS0 := Lib.hid hs0
  have HS1 := Lib.hid hs1
  have HN := Lib.hid hN
  have HM := Lib.hid hM
  have HT := Lib.hid hT
  have hNb : T ≤ 3518437208880 := by have := hl.2; have := hm.2; omega
  have hN2 : N ≤ T := by omega
  have hM2 : M ≤ T := by omega
  have HLEN : Hid ((mergeL l m).length = T) := Lib.hid (by rw [mergeL_max, hN, hM, hT])
  rw [hN, hM]
  unfold maxLen at ha2 hb2
  have x0 := hx0.cell 0
  have y0 := hy0.cell 0
  clear h h2 hl hm hN hM hT hb hcn hw0 hw1 f0 f01 f1 hx0 hy0 hr0 hs0 hx hy hr ho hs1
  go_enter Tryz.func68, Tryz.ntmps68
  go_upto_region 1 with fail
  rw [HW0.out, HB.out]
  go_upto_region 2 with fail
  rw [HW1.out, HS0.out]
  clear x0 y0
  go_wp2_with fail
  go_loopg [6, 7] T (fun k r6 r7 wr => Hid (∃ (j : Nat) (Ao : Option Addr) (co : Nat), r6 = .int .i64 (j : Nat) ∧ j + k = T ∧ Blk wr (b + 3) 48 #[.int .i64 cn, .slice Ao j co] ∧ wr.ownsRow (b + 4) 88 5 (.slice Ao j co) j (((mergeL l m).take j).flatMap ptL) ∧ Fr (fun k => b + 3 ≤ k) w1 wr))
  case atStart => exact Lib.hid ⟨0, none, 0, rfl, by omega, HO.out, ⟨by simp, .inl ⟨rfl, rfl⟩⟩, Fr.refl _ _⟩
  case round =>
  obtain ⟨j, Ao, co, rfl, hjk, hbo, hown, hf⟩ := hrel.out
  clear hrel
  have hsz := HS1.out
  have hbx := HX.out.of (hf.block b (by omega) (by omega))
  have hby0 := HY0.out.of (hf.block (b + 1) (by omega) (by omega))
  have hbr := HR.out.of (hf.block (b + 2) (by omega) (by omega))
  have x1 := hbx.cell 1
  have y1b := hby0.cell 1
  by_cases hj : j < T
  · have hjll : j < (mergeL l m).length := by rw [HLEN.out]; exact hj
    have hbb := HB.out
    have hfull : Fr (fun k => b + 3 ≤ k) w wr := (HF1.out.any).trans hf fun _ _ h => h
    have hpl := HP.out.mono (K' := K) (fun k hk hkl => ⟨hk, hfull.block k hkl (by omega)⟩) hfull.size
    have hpm := HQ.out.mono (K' := K2) (fun k hk hkl => ⟨hk, hfull.block k hkl (by omega)⟩) hfull.size
    obtain ⟨p', hp'⟩ : ∃ p', (mergeL l m)[j]'hjll = p' := ⟨_, rfl⟩
    have HNEXT : Hid ((mergeL l m).take (j + 1) = (mergeL l m).take j ++ [p']) := Lib.hid (by rw [take_snoc' hjll, hp'])
    have HLJ : Hid (((mergeL l m).take j).length = j) := Lib.hid (by rw [List.length_take]; omega)
    have hpe : some p' = mgO l[j]? m[j]? := by rw [← mergeL_get, List.getElem?_eq_getElem hjll, hp']
    obtain ⟨y, hy⟩ : ∃ y, wr.heap.size = y := ⟨_, rfl⟩
    have hyb : b + 4 ≤ y := by
      have h1 := hf.size
      omega
    have HST : Hid (∀ wz, Fr (fun k => y ≤ k) wr wz → Blk wz (b + 3) 48 #[.int .i64 cn, .slice Ao j co] ∧ wz.ownsRow (b + 4) 88 5 (.slice Ao j co) j (((mergeL l m).take j).flatMap ptL) ∧ Fr (fun k => b + 3 ≤ k) w1 wz) := Lib.hid fun wz fz => by
      have hsy := hbo.lt
      refine ⟨hbo.of (fz.block (b + 3) hsy (by omega)), own_of hown (fun k hk => fz.block k (hown.lt k hk).2 (by have := (hown.lt k hk).2; omega)), ?_⟩
      exact hf.trans fz fun k _ e => by omega
    have HY := Lib.hid hy
    clear hbo hown hf hbx hby0 hbr hfull hp' hjll hbb
    by_cases hjN : j < N
    · have hjNi : (j : Int) < (N : Int) := by omega
      have hjl : j < l.length := by have := HN.out; omega
      obtain ⟨g, off, rfl, -, hgl, hL5⟩ := hpl.at_ hjl
      obtain ⟨p, hpp⟩ : ∃ p, l[j] = p := ⟨_, rfl⟩
      have h5 := hL5 j hjl
      rw [hpp] at h5
      by_cases hjM : j < M
      · have hjMi : (j : Int) < (M : Int) := by omega
        have hjm : j < m.length := by have := HM.out; omega
        obtain ⟨g2, off2, rfl, -, hgl2, hM5⟩ := hpm.at_ hjm
        obtain ⟨q, hqq⟩ : ∃ p, m[j] = p := ⟨_, rfl⟩
        have k5 := hM5 j hjm
        rw [hqq] at k5
        have hq : p' = bothP p q := by
          rw [List.getElem?_eq_getElem hjl, List.getElem?_eq_getElem hjm, hpp, hqq] at hpe
          exact Option.some.inj hpe
        have hw := rboth_any p q (by rw [← hpp]; exact HL.out.1 _ (List.getElem_mem _)) (by rw [← hqq]; exact HM2.out.1 _ (List.getElem_mem _))
        rw [← hq] at hw
        obtain ⟨wy, hwy⟩ : ∃ wy, wr.alloc (.cells #[.bool false, .int .i64 0, .int .u64 0, .int .i64 0, .int .i64 0] 88) = wy := ⟨_, rfl⟩
        have fy : Fr No wr wy := by rw [← hwy]; exact (Fr.refl No wr).alloc _
        have hby : Blk wy y 88 #[.bool false, .int .i64 0, .int .u64 0, .int .i64 0, .int .i64 0] := by rw [← hwy, ← hy]; exact Blk.new wr 88 _
        have h5y : Five wy g (off + j * 5) p := h5.of (fy.block g hgl id)
        have k5y : Five wy g2 (off2 + j * 5) q := k5.of (fy.block g2 hgl2 id)
        have K1 := Lib.hid (fun dd os => tells_grown (w := wy) (fun w' _ => hw w') dd os)
        have z0 := fun dd os => (five_regrown h5y dd os).1
        have z1 := fun dd os => (five_regrown h5y dd os).2.1
        have z2 := fun dd os => (five_regrown h5y dd os).2.2.1
        have z3 := fun dd os => (five_regrown h5y dd os).2.2.2.1
        have z4 := fun dd os => (five_regrown h5y dd os).2.2.2.2
        have q0 := fun dd os => (five_regrown k5y dd os).1
        have q1 := fun dd os => (five_regrown k5y dd os).2.1
        have q2 := fun dd os => (five_regrown k5y dd os).2.2.1
        have q3 := fun dd os => (five_regrown k5y dd os).2.2.2.1
        have q4 := fun dd os => (five_regrown k5y dd os).2.2.2.2
        have xx : ∀ dd os, (grow (redrawn wy dd) os).cell? ⟨b, 1, none⟩ = some (.slice (some ⟨g, off, none⟩) N ca) := fun dd os => cell_regrown (by rw [fy.below.cell (Go.World.block_lt_of_cell? wr _ x1)]; exact x1) dd os
        have yy : ∀ dd os, (grow (redrawn wy dd) os).cell? ⟨b + 1, 1, none⟩ = some (.slice (some ⟨g2, off2, none⟩) M cb) := fun dd os => cell_regrown (by rw [fy.below.cell (Go.World.block_lt_of_cell? wr _ y1b)]; exact y1b) dd os
        have xw : wy.cell? ⟨b, 1, none⟩ = some (.slice (some ⟨g, off, none⟩) N ca) := by rw [fy.below.cell (Go.World.block_lt_of_cell? wr _ x1)]; exact x1
        have yw : wy.cell? ⟨b + 1, 1, none⟩ = some (.slice (some ⟨g2, off2, none⟩) M cb) := by rw [fy.below.cell (Go.World.block_lt_of_cell? wr _ y1b)]; exact y1b
        have HBY := Lib.hid hby
        have HWY := Lib.hid hwy
        have HFY := Lib.hid fy
        obtain ⟨pa, ⟨ph, pl⟩, pn, px⟩ := p
        obtain ⟨ra, ⟨rh, rl⟩, rn, rx⟩ := q
        obtain ⟨qa, ⟨qh, ql⟩, qn, qx⟩ := p'
        clear hpp hqq hw hby h5 k5 hq hpe hL5 hM5 hpl hpm hwy fy h5y k5y hgl hgl2 hy
        go_upto_region 7 with fail
        rw [HWY.out, HY.out]
        clear x1 y1b
        go_upto_region 6 with fail
        clear xw yw
        refine wp_below_tail 11 mixedB (by kernel_rfl) ?_
        simp only [List.take_succ_cons, List.take_zero, List.drop_succ_cons, List.drop_zero]
        repeat (first | go_big_quiet_step (with_reducible exact K1.out _ _) | quiet_step (with_reducible exact K1.out _ _))
        refine wpQuiet_nil ?_
        intro wx hp
        have hfx : Fr No wy wx := by obtain ⟨p, rfl⟩ := hp; exact fr_reg _ _ _
        have hbx := HBY.out.no hfx
        obtain ⟨⟨u0, u1, u2, u3, u4⟩, f0, f1, f2, f3, f4⟩ := blk5 hbx
        obtain ⟨wz, hwz⟩ : ∃ wz, put5 wx y 0 ⟨qa, ⟨qh, ql⟩, qn, qx⟩ = wz := ⟨_, rfl⟩
        have HZ : Hid (Blk wz y 88 (ptA ⟨qa, ⟨qh, ql⟩, qn, qx⟩) ∧ Fr (fun k => y ≤ k) wr wz) := Lib.hid ⟨by rw [← hwz]; exact ((((hbx.set_ 0 _).set_ 1 _).set_ 2 _).set_ 3 _).set_ 4 _, by rw [← hwz]; exact ((HFY.out.trans hfx fun _ _ h => h).any).put5 fun _ => Nat.le_refl _⟩
        have HWZ : Hid (((((wx.setCell ⟨y, 0, none⟩ (.bool qa)).setCell ⟨y, 1, none⟩ (.int .i64 qh)).setCell ⟨y, 2, none⟩ (.int .u64 ql)).setCell ⟨y, 3, none⟩ (.int .i64 qn)).setCell ⟨y, 4, none⟩ (.int .i64 qx) = wz) := Lib.hid hwz
        clear hp hfx hbx z0 z1 z2 z3 z4 q0 q1 q2 q3 q4 xx yy hwz
        go_upto_region 11 with fail
        rw [HWZ.out]
        clear u0 u1 u2 u3 u4 f0 f1 f2 f3 f4 HWZ
        obtain ⟨s1, s2, s3⟩ := HST.out wz HZ.out.2
        obtain ⟨o0, o1, w0z, w1z⟩ := blk2 s1
        obtain ⟨⟨y0, y1, y2, y3, y4⟩, -⟩ := blk5 HZ.out.1
        obtain ⟨A', c', w', hrun, how, hfw⟩ := app_one (l := (mergeL l m).take j) (by rw [HLJ.out]; exact s2) (by have := s3.size; have := HS1.out; omega) ⟨qa, ⟨qh, ql⟩, qn, qx⟩ (by rw [HLJ.out]; omega)
        rw [HLJ.out] at hrun how
        have HRUN := Lib.hid hrun
        have hb2 := s1.of (hfw.block (b + 3) (by have := s1.lt; omega) (by omega))
        obtain ⟨v0, v1, u0, u1⟩ := blk2 hb2
        have HB2 : Hid (Blk (w'.setCell ⟨b + 3, 1, none⟩ (.slice A' (j + 1) c')) (b + 3) 48 #[.int .i64 cn, .slice A' (j + 1) c']) := Lib.hid (hb2.set_ 1 _)
        have HOW : Hid ((w'.setCell ⟨b + 3, 1, none⟩ (.slice A' (j + 1) c')).ownsRow (b + 4) 88 5 (.slice A' (j + 1) c') (j + 1) (((mergeL l m).take (j + 1)).flatMap ptL)) := Lib.hid (by
          rw [HNEXT.out]
          exact own_of how fun k hk => Below.heap_setCell _ _ _ _ (by show k ≠ b + 3; have := (how.lt k hk).1; omega))
        have HFF : Hid (Fr (fun k => b + 3 ≤ k) w1 (w'.setCell ⟨b + 3, 1, none⟩ (.slice A' (j + 1) c'))) := Lib.hid ((s3.trans hfw fun k _ e => by omega).setCell (fun _ => Nat.le_refl _) _)
        obtain ⟨J, hJ⟩ : ∃ J, j + 1 = J := ⟨_, rfl⟩
        rw [hJ] at HRUN HB2 HOW HFF
        clear s1 s2 s3 hrun how hfw hb2
        go_wp2_with (at_builtin; refine wpList_add rfl _ _ _ _ rfl _ _ _ _ rfl rfl (HRUN.out _) ?_)
        obtain ⟨g1, rfl⟩ : ∃ g1, gk = g1 + 1 := ⟨gk - 1, by omega⟩
        go_roundg g1
        case rel => exact Lib.hid ⟨J, A', c', by rw [← hJ]; go_num, by omega, HB2.out, HOW.out, HFF.out⟩
        all_goals omega
      · have hjMi : ¬ (j : Int) < (M : Int) := by omega
        have hMj : (M : Int) ≤ (j : Int) := by omega
        have hq : p' = p := by
          rw [List.getElem?_eq_getElem hjl, List.getElem?_eq_none (show m.length ≤ j by have := HM.out; omega), hpp] at hpe
          exact Option.some.inj hpe
        obtain ⟨wy, hwy⟩ : ∃ wy, wr.alloc (.cells #[.bool false, .int .i64 0, .int .u64 0, .int .i64 0, .int .i64 0] 88) = wy := ⟨_, rfl⟩
        have fy : Fr No wr wy := by rw [← hwy]; exact (Fr.refl No wr).alloc _
        have hby : Blk wy y 88 #[.bool false, .int .i64 0, .int .u64 0, .int .i64 0, .int .i64 0] := by rw [← hwy, ← hy]; exact Blk.new wr 88 _
        obtain ⟨c0, c1, c2, c3, c4⟩ := (h5.of (fy.block g hgl id) : Five wy g (off + j * 5) p)
        have xw := (cell_of_heap (o := 1) (fy.block b (Go.World.block_lt_of_cell? wr _ x1) id)).trans x1
        have yw := (cell_of_heap (o := 1) (fy.block (b + 1) (Go.World.block_lt_of_cell? wr _ y1b) id)).trans y1b
        obtain ⟨⟨u0, u1, u2, u3, u4⟩, f0, f1, f2, f3, f4⟩ := blk5 hby
        obtain ⟨wz, hwz⟩ : ∃ wz, put5 wy y 0 p = wz := ⟨_, rfl⟩
        have HZ : Hid (Blk wz y 88 (ptA p') ∧ Fr (fun k => y ≤ k) wr wz) := Lib.hid ⟨by rw [hq, ← hwz]; exact ((((hby.set_ 0 _).set_ 1 _).set_ 2 _).set_ 3 _).set_ 4 _, by rw [← hwz]; exact (fy.any).put5 fun _ => Nat.le_refl _⟩
        have HWZ : Hid (((((wy.setCell ⟨y, 0, none⟩ (.bool p.any)).setCell ⟨y, 1, none⟩ (.int .i64 p.s.hi)).setCell ⟨y, 2, none⟩ (.int .u64 p.s.lo)).setCell ⟨y, 3, none⟩ (.int .i64 p.mn)).setCell ⟨y, 4, none⟩ (.int .i64 p.mx) = wz) := Lib.hid hwz
        have HWY := Lib.hid hwy
        clear hpp hq hpe hL5 hpl hpm hgl h5 hwz hwy fy hby hy
        go_upto_region 7 with fail
        rw [HWY.out, HY.out]
        clear x1 y1b
        go_upto_region 11 with fail
        rw [HWZ.out]
        clear xw yw c0 c1 c2 c3 c4 u0 u1 u2 u3 u4 f0 f1 f2 f3 f4 HWZ
        obtain ⟨s1, s2, s3⟩ := HST.out wz HZ.out.2
        obtain ⟨o0, o1, w0z, w1z⟩ := blk2 s1
        obtain ⟨⟨y0, y1, y2, y3, y4⟩, -⟩ := blk5 HZ.out.1
        obtain ⟨A', c', w', hrun, how, hfw⟩ := app_one (l := (mergeL l m).take j) (by rw [HLJ.out]; exact s2) (by have := s3.size; have := HS1.out; omega) p' (by rw [HLJ.out]; omega)
        rw [HLJ.out] at hrun how
        have HRUN := Lib.hid hrun
        have hb2 := s1.of (hfw.block (b + 3) (by have := s1.lt; omega) (by omega))
        obtain ⟨v0, v1, u0, u1⟩ := blk2 hb2
        have HB2 : Hid (Blk (w'.setCell ⟨b + 3, 1, none⟩ (.slice A' (j + 1) c')) (b + 3) 48 #[.int .i64 cn, .slice A' (j + 1) c']) := Lib.hid (hb2.set_ 1 _)
        have HOW : Hid ((w'.setCell ⟨b + 3, 1, none⟩ (.slice A' (j + 1) c')).ownsRow (b + 4) 88 5 (.slice A' (j + 1) c') (j + 1) (((mergeL l m).take (j + 1)).flatMap ptL)) := Lib.hid (by
          rw [HNEXT.out]
          exact own_of how fun k hk => Below.heap_setCell _ _ _ _ (by show k ≠ b + 3; have := (how.lt k hk).1; omega))
        have HFF : Hid (Fr (fun k => b + 3 ≤ k) w1 (w'.setCell ⟨b + 3, 1, none⟩ (.slice A' (j + 1) c'))) := Lib.hid ((s3.trans hfw fun k _ e => by omega).setCell (fun _ => Nat.le_refl _) _)
        obtain ⟨J, hJ⟩ : ∃ J, j + 1 = J := ⟨_, rfl⟩
        rw [hJ] at HRUN HB2 HOW HFF
        clear s1 s2 s3 hrun how hfw hb2
        go_wp2_with (at_builtin; refine wpList_add rfl _ _ _ _ rfl _ _ _ _ rfl rfl (HRUN.out _) ?_)
        obtain ⟨g1, rfl⟩ : ∃ g1, gk = g1 + 1 := ⟨gk - 1, by omega⟩
        go_roundg g1
        case rel => exact Lib.hid ⟨J, A', c', by rw [← hJ]; go_num, by omega, HB2.out, HOW.out, HFF.out⟩
        all_goals omega
    · have hjNi : ¬ (j : Int) < (N : Int) := by omega
      have hNj : (N : Int) ≤ (j : Int) := by omega
      have hjM : j < M := by have := HT.out; omega
      have hjMi : (j : Int) < (M : Int) := by omega
      have hjm : j < m.length := by have := HM.out; omega
      obtain ⟨g2, off2, rfl, -, hgl2, hM5⟩ := hpm.at_ hjm
      obtain ⟨q, hqq⟩ : ∃ p, m[j] = p := ⟨_, rfl⟩
      have k5 := hM5 j hjm
      rw [hqq] at k5
      have hq : p' = q := by
        rw [List.getElem?_eq_none (show l.length ≤ j by have := HN.out; omega), List.getElem?_eq_getElem hjm, hqq] at hpe
        exact Option.some.inj hpe
      obtain ⟨wy, hwy⟩ : ∃ wy, wr.alloc (.cells #[.bool false, .int .i64 0, .int .u64 0, .int .i64 0, .int .i64 0] 88) = wy := ⟨_, rfl⟩
      have fy : Fr No wr wy := by rw [← hwy]; exact (Fr.refl No wr).alloc _
      have hby : Blk wy y 88 #[.bool false, .int .i64 0, .int .u64 0, .int .i64 0, .int .i64 0] := by rw [← hwy, ← hy]; exact Blk.new wr 88 _
      obtain ⟨c0, c1, c2, c3, c4⟩ := (k5.of (fy.block g2 hgl2 id) : Five wy g2 (off2 + j * 5) q)
      have xw := (cell_of_heap (o := 1) (fy.block b (Go.World.block_lt_of_cell? wr _ x1) id)).trans x1
      have yw := (cell_of_heap (o := 1) (fy.block (b + 1) (Go.World.block_lt_of_cell? wr _ y1b) id)).trans y1b
      obtain ⟨⟨u0, u1, u2, u3, u4⟩, f0, f1, f2, f3, f4⟩ := blk5 hby
      obtain ⟨wz, hwz⟩ : ∃ wz, put5 wy y 0 q = wz := ⟨_, rfl⟩
      have HZ : Hid (Blk wz y 88 (ptA p') ∧ Fr (fun k => y ≤ k) wr wz) := Lib.hid ⟨by rw [hq, ← hwz]; exact ((((hby.set_ 0 _).set_ 1 _).set_ 2 _).set_ 3 _).set_ 4 _, by rw [← hwz]; exact (fy.any).put5 fun _ => Nat.le_refl _⟩
      have HWZ : Hid (((((wy.setCell ⟨y, 0, none⟩ (.bool q.any)).setCell ⟨y, 1, none⟩ (.int .i64 q.s.hi)).setCell ⟨y, 2, none⟩ (.int .u64 q.s.lo)).setCell ⟨y, 3, none⟩ (.int .i64 q.mn)).setCell ⟨y, 4, none⟩ (.int .i64 q.mx) = wz) := Lib.hid hwz
      have HWY := Lib.hid hwy
      clear hqq hq hpe hM5 hpl hpm hgl2 k5 hwz hwy fy hby hy
      go_upto_region 7 with fail
      rw [HWY.out, HY.out]
      clear x1 y1b
      go_upto_region 11 with fail
      rw [HWZ.out]
      clear xw yw c0 c1 c2 c3 c4 u0 u1 u2 u3 u4 f0 f1 f2 f3 f4 HWZ
      obtain ⟨s1, s2, s3⟩ := HST.out wz HZ.out.2
      obtain ⟨o0, o1, w0z, w1z⟩ := blk2 s1
      obtain ⟨⟨y0, y1, y2, y3, y4⟩, -⟩ := blk5 HZ.out.1
      obtain ⟨A', c', w', hrun, how, hfw⟩ := app_one (l := (mergeL l m).take j) (by rw [HLJ.out]; exact s2) (by have := s3.size; have := HS1.out; omega) p' (by rw [HLJ.out]; omega)
      rw [HLJ.out] at hrun how
      have HRUN := Lib.hid hrun
      have hb2 := s1.of (hfw.block (b + 3) (by have := s1.lt; omega) (by omega))
      obtain ⟨v0, v1, u0, u1⟩ := blk2 hb2
      have HB2 : Hid (Blk (w'.setCell ⟨b + 3, 1, none⟩ (.slice A' (j + 1) c')) (b + 3) 48 #[.int .i64 cn, .slice A' (j + 1) c']) := Lib.hid (hb2.set_ 1 _)
      have HOW : Hid ((w'.setCell ⟨b + 3, 1, none⟩ (.slice A' (j + 1) c')).ownsRow (b + 4) 88 5 (.slice A' (j + 1) c') (j + 1) (((mergeL l m).take (j + 1)).flatMap ptL)) := Lib.hid (by
        rw [HNEXT.out]
        exact own_of how fun k hk => Below.heap_setCell _ _ _ _ (by show k ≠ b + 3; have := (how.lt k hk).1; omega))
      have HFF : Hid (Fr (fun k => b + 3 ≤ k) w1 (w'.setCell ⟨b + 3, 1, none⟩ (.slice A' (j + 1) c'))) := Lib.hid ((s3.trans hfw fun k _ e => by omega).setCell (fun _ => Nat.le_refl _) _)
      obtain ⟨J, hJ⟩ : ∃ J, j + 1 = J := ⟨_, rfl⟩
      rw [hJ] at HRUN HB2 HOW HFF
      clear s1 s2 s3 hrun how hfw hb2
      go_wp2_with (at_builtin; refine wpList_add rfl _ _ _ _ rfl _ _ _ _ rfl rfl (HRUN.out _) ?_)
      obtain ⟨g1, rfl⟩ : ∃ g1, gk = g1 + 1 := ⟨gk - 1, by omega⟩
      go_roundg g1
      case rel => exact Lib.hid ⟨J, A', c', by rw [← hJ]; go_num, by omega, HB2.out, HOW.out, HFF.out⟩
      all_goals omega
  · obtain rfl : j = T := by omega
    have hjN : ¬ (j : Int) < (N : Int) := by omega
    have hjM : ¬ (j : Int) < (M : Int) := by omega
    obtain ⟨o0, o1, -, -⟩ := blk2 hbo
    obtain ⟨r0, r1, z0, z1⟩ := blk2 hbr
    have HEND : Hid (PO (b + 4) wr (.slice Ao j co) (mergeL l m) ∧ Fr No w wr) := Lib.hid (by
      rw [List.take_of_length_le (by rw [HLEN.out]; exact Nat.le_refl _)] at hown
      refine ⟨PO.of_own (by rw [HLEN.out]; exact hown), ?_⟩
      have hb := HB.out
      refine ((HF1.out.mono (G := fun k => b + 3 ≤ k) fun _ _ h => h.elim).trans hf fun _ _ h => h).mono fun k hk e => by omega)
    clear hown hbo hbr hbx hby0 hf
    go_wp2_with fail
    refine bodyPost_ret (v := .agg #[.int .i64 cn, .slice Ao j co]) (by simp [results, Tryz.results68, go_sem, r0, r1]) rfl ⟨.slice Ao j co, ?_, ?_, ?_⟩
    · show _ = Ending.returned (.agg #[.int .i64 (w64 (c1 + c2)), _])
      rw [HCN.out]
    · have hbb := HB.out
      exact ((HEND.out.1.set_low (by omega) _).set_low (by omega) _).low (by omega)
    · have hbb : w.heap.size ≤ b + 2 := by have := HB.out; omega
      refine Fr.set_new (Fr.set_new ?_ hbb _) hbb _
      exact HEND.out.2
end Go.Proofs.YtlpglijikmnopaaGreatDoor
