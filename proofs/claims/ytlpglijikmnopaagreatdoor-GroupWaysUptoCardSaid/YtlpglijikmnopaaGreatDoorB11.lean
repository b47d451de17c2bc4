/- The document's Take. -/
import Derived.Test.YtlpglijikmnopaaGreatDoorB9
namespace Go.Proofs.YtlpglijikmnopaaGreatDoor
open Go.RowKit Go.Maps Go.Sort
set_option linter.unusedVariables false

theorem new_row (w : World) (p : Pt) : PR (fun _ => True) (w.alloc (.cells (ptA p) 88)) (.slice (some ⟨w.heap.size, 0, none⟩) 1 1) [p] := by
  refine .inr ⟨_, 1, rfl, Nat.le_refl _, by decide, fun _ => ⟨w.heap.size, 0, rfl, trivial, by simp, fun j hj => ?_⟩⟩
  obtain rfl : j = 0 := by simpa using hj
  have h := Blk.new w 88 (ptA p)
  exact ⟨h.cell 0, h.cell 1, h.cell 2, h.cell 3, h.cell 4⟩
/-- One part more behind a row of one's own. -/
theorem app_one {w : World} {B : Nat} {v : Value} {l : List Pt} (h : w.ownsRow B 88 5 v l.length (l.flatMap ptL)) (hB : B ≤ w.heap.size) (p : Pt) (hlen : (l.length + 1) * 40 ≤ 140737488355328) :
    ∃ A c w', (∀ ty, (Builtin.append_ #[46, 46] ty #[v, .slice (some ⟨w.heap.size, 0, none⟩) 1 1]).run Tryz.prog (w.alloc (.cells (ptA p) 88)) = .ok (.slice A (l.length + 1) c) w') ∧
      w'.ownsRow B 88 5 (.slice A (l.length + 1) c) (l.length + 1) ((l ++ [p]).flatMap ptL) ∧ Fr (fun k => B ≤ k) w w' := by
  have f1 : Fr No w (w.alloc (.cells (ptA p) 88)) := (Fr.refl No w).alloc _
  have ho : (w.alloc (.cells (ptA p) 88)).ownsRow B 88 5 v l.length (l.flatMap ptL) := own_of h fun k hk => f1.block k (h.lt k hk).2 id
  obtain ⟨v', w', hrun, how, hgr, -, hat⟩ := append_parts _ ho rfl (Nat.le_trans hB f1.size) (m := [p]) (new_row w p) (by simpa using hlen)
  have hv' : ∃ A c, v' = .slice A (l.length + 1) c := by
    rcases how.2 with ⟨e1, h0⟩ | ⟨g, cap, cur, e1, _⟩
    · simp at h0
    · exact ⟨_, cap, e1⟩
  obtain ⟨A, c, rfl⟩ := hv'
  refine ⟨A, c, w', hrun, how, ?_⟩
  have hg := (f1.mono (G := fun k => B ≤ k) fun _ _ h => h.elim).grown hgr (fun k hk hlt => (h.lt k hk).1)
  exact hg
theorem take_snoc' {α : Type} {l : List α} {j : Nat} (h : j < l.length) : l.take (j + 1) = l.take j ++ [l[j]] := by
  rw [List.take_add_one, List.getElem?_eq_getElem h]; rfl
set_option maxRecDepth 100000 in
set_option maxHeartbeats 4000000 in
theorem rtake_any {K Km : Nat → Prop} (cnt : Int) (l : List Pt) (ns : List Int) (v mv : Value) (w : World) (h : PR K w v l) (hl : Lok l) (hm : RowE Km w 1 (intG Km w) mv ns) :
    Calls Tryz.prog 34 #[.agg #[.int .i64 cnt, v], mv] w (TellsA ⟨w64 (cnt + 1), takeL l ns⟩ w) := by
  obtain ⟨A, c, rfl, hc1, hc2⟩ := h.form
  obtain ⟨Am, cm, rfl, hm1, hm2, hmc⟩ := row_int hm
  obtain ⟨N, hN⟩ : ∃ N, l.length = N := ⟨_, rfl⟩
  obtain ⟨M, hM⟩ : ∃ M, ns.length = M := ⟨_, rfl⟩
  obtain ⟨b, hb⟩ : ∃ b, w.heap.size = b := ⟨_, rfl⟩
  obtain ⟨cn, hcn⟩ : ∃ cn, w64 (cnt + 1) = cn := ⟨_, rfl⟩
  have HCN := Lib.hid hcn
  have ecn : IntKind.i64.wrap (cnt + 1) = cn := by rw [← hcn, IntKind.wrap_i64]; rfl
  obtain ⟨w0, hw0⟩ : ∃ w1, (w.alloc (.cells #[.int .i64 cnt, .slice A N c] 48)).alloc (.cells #[.int .i64 0, .slice none 0 0] 48) = w1 := ⟨_, rfl⟩
  obtain ⟨w1, hw1⟩ : ∃ w1, w0.alloc (.cells #[.int .i64 cn, .slice none 0 0] 48) = w1 := ⟨_, rfl⟩
  have f0 : Fr No w w0 := by rw [← hw0]; exact ((Fr.refl No w).alloc _).alloc _
  have hx0 : Blk w0 b 48 #[.int .i64 cnt, .slice A N c] := by rw [← hw0, ← hb]; exact (Blk.new w 48 _).no ((Fr.refl No _).alloc _)
  have hr0 : Blk w0 (b + 1) 48 #[.int .i64 0, .slice none 0 0] := by rw [← hw0, ← hb]; exact blk_at1 w _ 48 _
  have hs0 : w0.heap.size = b + 2 := by rw [← hw0, ← hb]; simp
  have f01 : Fr No w0 w1 := by rw [← hw1]; exact (Fr.refl No w0).alloc _
  have f1 := f0.trans f01 fun _ _ h => h
  have hx := hx0.no f01
  have hr := hr0.no f01
  have ho : Blk w1 (b + 2) 48 #[.int .i64 cn, .slice none 0 0] := by rw [← hw1, ← hs0]; exact Blk.new w0 48 _
  have hs1 : w1.heap.size = b + 3 := by rw [← hw1]; simp [hs0]
  have HP := Lib.hid h
  have HL := Lib.hid hl
  have HMC := Lib.hid hmc
  have HF1 := Lib.hid f1
  have HX := Lib.hid hx
  have HR := Lib.hid hr
  have HO := Lib.hid ho
  have HW0 := Lib.hid hw0
  have HW1 := Lib.hid hw1
  have HB := Lib.hid hb
  have HS0 := Lib.hid hs0
  have HS1 := Lib.hid hs1
  have HN := Lib.hid hN
  have HM := Lib.hid hM
  have hNb : N ≤ 3518437208880 := by have := hl.2; omega
  rw [hN, hM]
  rw [hN] at hc1 HP
  rw [hM] at hm1
  unfold maxLen at hc2 hm2
  have x0 := hx0.cell 0
  clear h hl hm hmc hN hM hb hcn hw0 hw1 f0 f01 f1 hx0 hr0 hs0 hx hr ho hs1
  go_enter Tryz.func34, Tryz.ntmps34
  go_upto_region 1 with fail
  rw [HW0.out, HB.out]
  go_upto_region 2 with fail
  rw [HW1.out, HS0.out]
  clear x0
  go_wp2_with fail
  go_loopg [6, 7] N (fun k r6 r7 wr => Hid (∃ (j : Nat) (Ao : Option Addr) (co : Nat), r6 = .int .i64 (j : Nat) ∧ j + k = N ∧ Blk wr (b + 2) 48 #[.int .i64 cn, .slice Ao j co] ∧ wr.ownsRow (b + 3) 88 5 (.slice Ao j co) j (((takeL l ns).take j).flatMap ptL) ∧ Fr (fun k => b + 2 ≤ k) w1 wr))
  case atStart => exact Lib.hid ⟨0, none, 0, rfl, by omega, HO.out, ⟨by simp, .inl ⟨rfl, rfl⟩⟩, Fr.refl _ _⟩
  case round =>
  obtain ⟨j, Ao, co, rfl, hjk, hbo, hown, hf⟩ := hrel.out
  clear hrel
  have hsz := HS1.out
  have hbx := HX.out.of (hf.block b (by omega) (by omega))
  have hbr := HR.out.of (hf.block (b + 1) (by omega) (by omega))
  by_cases hj : j < N
  · have hji : (j : Int) < (N : Int) := by omega
    have hjl : j < l.length := by have := HN.out; omega
    have x1 := hbx.cell 1
    have hbb := HB.out
    have hfull : Fr (fun k => b + 2 ≤ k) w wr := (HF1.out.any).trans hf fun _ _ h => h
    obtain ⟨g, off, rfl, -, hgl, hL5⟩ := (HP.out.mono (K' := K) (fun k hk hkl => ⟨hk, hfull.block k hkl (by omega)⟩) hfull.size).at_ hjl
    obtain ⟨p, hpp⟩ : ∃ p, l[j] = p := ⟨_, rfl⟩
    have h5 := hL5 j hjl
    rw [hpp] at h5
    have hpok : p.ok := by rw [← hpp]; exact HL.out.1 _ (List.getElem_mem _)
    obtain ⟨p', hp'⟩ : ∃ p', (takeL l ns)[j]'(by rw [takeL_len]; exact hjl) = p' := ⟨_, rfl⟩
    have HNEXT : Hid ((takeL l ns).take (j + 1) = (takeL l ns).take j ++ [p']) := Lib.hid (by rw [take_snoc' (by rw [takeL_len]; exact hjl), hp'])
    have hlj : ((takeL l ns).take j).length = j := by rw [List.length_take, takeL_len]; omega
    have hpe : (∀ n, ns[j]? = some n → p' = withP p n) ∧ (ns[j]? = none → p' = p) := by
      have h0 := takeL_get l ns j
      rw [List.getElem?_eq_getElem (by rw [takeL_len]; exact hjl), List.getElem?_eq_getElem hjl, hp', hpp] at h0
      exact ⟨fun n hn => by rw [hn] at h0; simpa using h0, fun hn => by rw [hn] at h0; simpa using h0⟩
    obtain ⟨y, hy⟩ : ∃ y, wr.heap.size = y := ⟨_, rfl⟩
    obtain ⟨wy, hwy⟩ : ∃ wy, wr.alloc (.cells #[.bool p.any, .int .i64 p.s.hi, .int .u64 p.s.lo, .int .i64 p.mn, .int .i64 p.mx] 88) = wy := ⟨_, rfl⟩
    have fy : Fr No wr wy := by rw [← hwy]; exact (Fr.refl No wr).alloc _
    have hby : Blk wy y 88 (ptA p) := by rw [← hwy, ← hy]; exact Blk.new wr 88 _
    have hyb : b + 3 ≤ y := by
      have h1 := hf.size
      omega
    have HLJ := Lib.hid hlj
    have HST : Hid (∀ wz, Fr (fun k => y ≤ k) wy wz → Blk wz (b + 2) 48 #[.int .i64 cn, .slice Ao j co] ∧ wz.ownsRow (b + 3) 88 5 (.slice Ao j co) j (((takeL l ns).take j).flatMap ptL) ∧ Fr (fun k => b + 2 ≤ k) w1 wz) := Lib.hid fun wz fz => by
      have hsy := hbo.lt
      have hyy : wr.heap.size = y := hy
      refine ⟨(hbo.no fy).of (fz.block (b + 2) (by have := fy.size; omega) (by omega)), own_of (own_of hown fun k hk => fy.block k (hown.lt k hk).2 id) (fun k hk => fz.block k (by have := (hown.lt k hk).2; have := fy.size; omega) (by have := (hown.lt k hk).2; omega)), ?_⟩
      exact (hf.trans fy.any fun _ _ h => h).trans fz fun k _ e => by omega
    have HBY := Lib.hid hby
    have HWY := Lib.hid hwy
    have HY := Lib.hid hy
    obtain ⟨c0, c1, c2, c3, c4⟩ := h5
    have hmeas : ∀ (hm : j < ns.length), ∃ gm om, Am = some ⟨gm, om, none⟩ ∧ i64 ns[j] ∧ ∀ wz, Fr (fun k => y ≤ k) wy wz → wz.cell? ⟨gm, om + j, none⟩ = some (.int .i64 ns[j]) := fun hm => by
      obtain ⟨gm, om, e, hg, hcell, hi⟩ := HMC.out j hm
      refine ⟨gm, om, e, hi, fun wz fz => ?_⟩
      have h1 := hfull.block gm hg (by omega)
      have h2 := fy.block gm (by have := hfull.size; omega) id
      have h3 := fz.block gm (by have := hfull.size; have := fy.size; omega) (by have := hfull.size; omega)
      rw [cell_of_heap h3, cell_of_heap h2, cell_of_heap h1]
      exact hcell
    have HMEAS := Lib.hid hmeas
    have HPE := Lib.hid hpe
    have HPOK := Lib.hid hpok
    have HYB := Lib.hid hyb
    clear hbo hown hf hbx hbr hfull hL5 hpp hpok hp' hlj hpe hy hwy fy hby hyb hbb hmeas
    go_upto_region 6 with fail
    rw [HWY.out, HY.out]
    clear x1 c0 c1 c2 c3 c4
    go_upto_if 27 with fail
    go_cut [] from 12 to 39 (fun wz => Hid (Blk wz y 88 (ptA p') ∧ Fr (fun k => y ≤ k) wy wz))
    case first =>
      by_cases hjM : j < M
      · have hjMi : (j : Int) < (M : Int) := by omega
        have hjm : j < ns.length := by have := HM.out; omega
        obtain ⟨gm, om, rfl, hin, hcz⟩ := HMEAS.out hjm
        obtain ⟨n, hn⟩ : ∃ n, ns[j] = n := ⟨_, rfl⟩
        rw [hn] at hin hcz
        have hq : p' = withP p n := HPE.out.1 n (by rw [List.getElem?_eq_getElem hjm, hn])
        have hw := part_any p n HPOK.out hin
        rw [← hq] at hw
        have K1 := Lib.hid (fun dd os => tells_grown (w := wy) (fun w' _ => hw w') dd os)
        have hby := HBY.out
        have z0 := fun dd os => cell_regrown (hby.cell 0) dd os
        have z1 := fun dd os => cell_regrown (hby.cell 1) dd os
        have z2 := fun dd os => cell_regrown (hby.cell 2) dd os
        have z3 := fun dd os => cell_regrown (hby.cell 3) dd os
        have z4 := fun dd os => cell_regrown (hby.cell 4) dd os
        have zm := fun dd os => cell_regrown (hcz wy (Fr.refl _ _)) dd os
        have HQ := Lib.hid hq
        obtain ⟨pa, ⟨ph, pl⟩, pn, px⟩ := p
        obtain ⟨qa, ⟨qh, ql⟩, qn, qx⟩ := p'
        clear hn hw hby hcz hq hin
        go_upto_region 7 with fail
        refine wp_below_tail 6 mixedB (by kernel_rfl) ?_
        simp only [List.take_succ_cons, List.take_zero, List.drop_succ_cons, List.drop_zero]
        repeat (first | go_big_quiet_step (with_reducible exact K1.out _ _) | quiet_step (with_reducible exact K1.out _ _))
        refine wpQuiet_nil ?_
        intro wx hp
        have hfx : Fr No wy wx := by obtain ⟨p, rfl⟩ := hp; exact fr_reg _ _ _
        have hbx := HBY.out.no hfx
        obtain ⟨⟨u0, u1, u2, u3, u4⟩, f0, f1, f2, f3, f4⟩ := blk5 hbx
        have HBZ : Hid (Blk (put5 wx y 0 ⟨qa, ⟨qh, ql⟩, qn, qx⟩) y 88 (ptA ⟨qa, ⟨qh, ql⟩, qn, qx⟩)) := Lib.hid (((((hbx.set_ 0 _).set_ 1 _).set_ 2 _).set_ 3 _).set_ 4 _)
        have HFZ : Hid (Fr (fun k => y ≤ k) wy (put5 wx y 0 ⟨qa, ⟨qh, ql⟩, qn, qx⟩)) := Lib.hid ((hfx.any).put5 fun _ => Nat.le_refl _)
        clear hp hfx hbx z0 z1 z2 z3 z4 zm
        go_wp2_with fail
        go_meet
        exact Lib.hid ⟨HBZ.out, HFZ.out⟩
      · have hjMi : ¬ (j : Int) < (M : Int) := by omega
        have HQ : Hid (p' = p) := Lib.hid (HPE.out.2 (List.getElem?_eq_none (by have := HM.out; omega)))
        clear HPE
        go_wp2_with fail
        go_meet
        exact Lib.hid ⟨by rw [HQ.out]; exact HBY.out, Fr.refl _ _⟩
    case rest =>
    rename World => wz
    have HZ := hcut
    clear hcut
    obtain ⟨s1, s2, s3⟩ := HST.out wz HZ.out.2
    obtain ⟨o0, o1, w0z, w1z⟩ := blk2 s1
    obtain ⟨⟨y0, y1, y2, y3, y4⟩, -⟩ := blk5 HZ.out.1
    obtain ⟨A', c', w', hrun, how, hfw⟩ := app_one (l := (takeL l ns).take j) (by rw [HLJ.out]; exact s2) (by have := s3.size; have := HS1.out; omega) p' (by rw [HLJ.out]; omega)
    rw [HLJ.out] at hrun how
    have HRUN := Lib.hid hrun
    have hb2 := s1.of (hfw.block (b + 2) (by have := s1.lt; omega) (by omega))
    obtain ⟨v0, v1, u0, u1⟩ := blk2 hb2
    have HB2 : Hid (Blk (w'.setCell ⟨b + 2, 1, none⟩ (.slice A' (j + 1) c')) (b + 2) 48 #[.int .i64 cn, .slice A' (j + 1) c']) := Lib.hid (hb2.set_ 1 _)
    have HOW : Hid ((w'.setCell ⟨b + 2, 1, none⟩ (.slice A' (j + 1) c')).ownsRow (b + 3) 88 5 (.slice A' (j + 1) c') (j + 1) (((takeL l ns).take (j + 1)).flatMap ptL)) := Lib.hid (by
      rw [HNEXT.out]
      exact own_of how fun k hk => Below.heap_setCell _ _ _ _ (by show k ≠ b + 2; have := (how.lt k hk).1; omega))
    have HFF : Hid (Fr (fun k => b + 2 ≤ k) w1 (w'.setCell ⟨b + 2, 1, none⟩ (.slice A' (j + 1) c'))) := Lib.hid ((s3.trans hfw fun k _ e => by omega).setCell (fun _ => Nat.le_refl _) _)
    obtain ⟨J, hJ⟩ : ∃ J, j + 1 = J := ⟨_, rfl⟩
    rw [hJ] at HRUN HB2 HOW HFF
    clear s1 s2 s3 hrun how hfw hb2
    go_wp2_with (at_builtin; refine wpList_add rfl _ _ _ _ rfl _ _ _ _ rfl rfl (HRUN.out _) ?_)
    obtain ⟨g1, rfl⟩ : ∃ g1, gk = g1 + 1 := ⟨gk - 1, by omega⟩
    go_roundg g1
    case rel => exact Lib.hid ⟨J, A', c', by rw [← hJ]; go_num, by omega, HB2.out, HOW.out, HFF.out⟩
    all_goals omega
  · have hji : (N : Int) ≤ (j : Int) := by omega
    have x1 := hbx.cell 1
    obtain ⟨o0, o1, -, -⟩ := blk2 hbo
    obtain ⟨r0, r1, z0, z1⟩ := blk2 hbr
    obtain rfl : j = N := by omega
    have HEND : Hid (PO (b + 3) wr (.slice Ao j co) (takeL l ns) ∧ Fr No w wr) := Lib.hid (by
      have hlen : (takeL l ns).length = j := by rw [takeL_len, HN.out]
      rw [List.take_of_length_le (by omega)] at hown
      refine ⟨PO.of_own (by rw [hlen]; exact hown), ?_⟩
      have hb := HB.out
      refine ((HF1.out.mono (G := fun k => b + 2 ≤ k) fun _ _ h => h.elim).trans hf fun _ _ h => h).mono fun k hk e => by omega)
    clear hown hbo hbr hbx hf
    go_wp2_with fail
    refine bodyPost_ret (v := .agg #[.int .i64 cn, .slice Ao j co]) (by simp [results, Tryz.results34, go_sem, r0, r1]) rfl ⟨.slice Ao j co, ?_, ?_, ?_⟩
    · show _ = Ending.returned (.agg #[.int .i64 (w64 (cnt + 1)), _])
      rw [HCN.out]
    · have hbb := HB.out
      exact ((HEND.out.1.set_low (by omega) _).set_low (by omega) _).low (by omega)
    · have hbb : w.heap.size ≤ b + 1 := by have := HB.out; omega
      refine Fr.set_new (Fr.set_new ?_ hbb _) hbb _
      exact HEND.out.2
end Go.Proofs.YtlpglijikmnopaaGreatDoor
