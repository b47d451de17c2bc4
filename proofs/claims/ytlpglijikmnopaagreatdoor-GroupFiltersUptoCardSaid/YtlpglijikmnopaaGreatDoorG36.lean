/- GroupFilters walked. -/
import Derived.Test.YtlpglijikmnopaaGreatDoorGF
namespace Go.Proofs.YtlpglijikmnopaaGreatDoor
open Go.RowKit Go.Maps Go.Sort Go.Proofs
set_option linter.unusedVariables false

theorem test_no {t : Bd.Ts} {v : Value} {w w' : World} (h : Bd.TsAt (fun k => k < w.heap.size) w t v) (f : Fr No w w') : Bd.TsAt (fun k => k < w'.heap.size) w' t v := h.mono fun k hk hl => ⟨Nat.lt_of_lt_of_le hl f.size, f.block k hl id⟩
theorem test_ptr {t : Bd.Ts} {K : Nat → Prop} {w : World} {v : Value} (h : Bd.TsAt K w t v) : ∃ p, v = .pointer p := by
  rcases h.ptr with ⟨_, e⟩ | ⟨_, g, o, e⟩
  · exact ⟨_, e⟩
  · exact ⟨_, e⟩
theorem filter_t {t : Bd.Ts} {v av : Value} {l : List Rw} {f : Int} (w : World) (hne : t ≠ .none) (ht : Bd.TsAt (fun k => k < w.heap.size) w t v) (ha : RR (fun k => k < w.heap.size) w av l) (hok : Rok l) (hl : l.length < 4000000) : Calls Tryz.prog 22 #[av, .int .i64 f, v] w (TellsW (keepL (testM t) (listB f) l) w) :=
  (filterR_any w rfl ha hok hl (meant_test ht hne) (test_ptr ht)).mono fun e w' h => h.w
theorem sort_t {t : Bd.Ts} {v fv : Value} {fs : List Fc} {s meas : Int} (w : World) (hne : t ≠ .none) (ht : Bd.TsAt (fun k => k < w.heap.size) w t v) (h : FR (fun k => k < w.heap.size) w fv fs) (hok : ∀ f ∈ fs, Fok f) (hl : fs.length < 4000000) : Calls Tryz.prog 14 #[fv, v, .int .i64 s, .int .i64 meas] w (TellsW (grpL takeA (newA meas) (keyedL (testM t) (listB s) fs)) w) :=
  (sort_any w rfl h (meant_test ht hne) (test_ptr ht) hok hl).mono fun e w' h => h.w
set_option maxRecDepth 100000 in
set_option maxHeartbeats 2000000 in
theorem groupFilters_any {fs : List Fc} {v a b c e : Value} {t : Bd.Ts} {s : Int} (w : World) (h : FR (fun k => k < w.heap.size) w v fs) (hok : ∀ f ∈ fs, Fok f) (hp : Pv w) (ht : Bd.TsAt (fun k => k < w.heap.size) w t c) : Calls Tryz.prog 8 #[v, .agg #[a, b, c, e], .int .i64 s] w (TellsB true w) := by
  obtain ⟨w0, hw0⟩ : ∃ w0, w.alloc (.cells #[a, b, c, e] 55) = w0 := ⟨_, rfl⟩
  obtain ⟨y, hy⟩ : ∃ y, w.heap.size = y := ⟨_, rfl⟩
  have f0 : Fr No w w0 := by rw [← hw0]; exact (Fr.refl No w).alloc _
  have hb0 : Blk w0 y 55 #[a, b, c, e] := by rw [← hw0, ← hy]; exact Blk.new w 55 _
  have HBK := Lib.hid hb0
  have HA := Lib.hid (awake_any w0 (hp.no f0))
  have HS := Lib.hid (fun (w' : World) (f : Fr No w w') => sound_any w' (h.no_lt f))
  have HRd := Lib.hid (fun (w' : World) (f : Fr No w w') => Bd.Reads_any _ t c w' (test_no ht f))
  have HNd := Lib.hid (fun (w' : World) (f : Fr No w w') => Bd.nodes_any _ t c w' 4097 (test_no ht f) (by omega) (by omega))
  have HTS := Lib.hid (fun (w' : World) (f : Fr No w w') => test_no ht f)
  have hL := sound_len fs
  have hm : Mok (soundL fs) := fun f hf => h.mok f (soundL_mem hf).1
  have hfo := sound_fok hok
  have ht1 := thr_sound fs
  have hb36 : ∀ f ∈ soundL fs, 3 ≤ f.dims.length ∧ f.dims.length ≤ 6 := fun f hf => ⟨(soundL_mem hf).2.1, (soundL_mem hf).2.2.1⟩
  obtain ⟨A0, nn, c0, rfl, -⟩ := row_form h
  obtain ⟨l, hl⟩ : ∃ l, soundL fs = l := ⟨_, rfl⟩
  rw [hl] at HS hL hm hfo ht1 hb36
  have HP := Lib.hid hp
  have HF0 := Lib.hid f0
  have HW0 := Lib.hid hw0
  have HY := Lib.hid hy
  have hgr := Bd.nodes_great t
  obtain ⟨nd, hnd⟩ : ∃ nd, Bd.nodesR t 4097 = nd := ⟨_, rfl⟩
  rw [hnd] at HNd hgr
  have hneed := hnd
  obtain ⟨need, hne⟩ : ∃ q, (Bd.ReadsB t).1 = q := ⟨_, rfl⟩
  obtain ⟨mb, hmb⟩ : ∃ q, (Bd.ReadsB t).2 = q := ⟨_, rfl⟩
  have hRB : Bd.greatB t = true → mb = true := fun e => by rw [← hmb]; unfold Bd.ReadsB; rw [if_pos e]
  have hkeep : ∀ n : Nat, n < 8 → mb = false → need &&& n = need → keepL (testM t) (listB (n : Int)) (grp2 n l) = grpL takeA (newA 2) (keyedL (testM t) (listB (n : Int)) l) := fun n hn e1 e2 => keep_grp2 hn (hmb.trans e1) (by rw [hne]; exact e2) hb36
  rw [hne, hmb] at HRd
  by_cases htn : t = .none
  · subst htn
    obtain rfl : c = .pointer none := ht
    have e1 : need = 0 := by rw [← hne]; decide
    have e2 : mb = false := by rw [← hmb]; decide
    subst e1 e2
    have k2 := hb0.cell 2
    clear h hok hp f0 hw0 hy hb0 hm hfo ht1 hb36 hl hgr hnd hneed hne hmb hRB hkeep HTS HBK
    go_enter Tryz.func8, Tryz.ntmps8
    go_upto_region 1 with fail
    rw [HW0.out, HY.out]
    go_upto_region 2 with (go_at_call 10; refine HA.out.mono ?_; rintro e1 w1 ⟨rfl, f1⟩; have H1 := Lib.hid (HF0.out.tr f1); have k3 := (cell_of_heap (f1.block y (Go.World.block_lt_of_cell? w0 _ k2) id)).trans k2; clear f1 k2)
    go_upto_region 4 with (go_at_call 27; refine (HS.out _ H1.out).mono ?_; rintro e1 w2 ⟨A2, n2, c2, rfl, hn2, hf2, f2⟩; have H2 := Lib.hid (H1.out.tr f2); clear hf2 f2 hn2 k3)
    go_upto_region 5 with (go_at_call 28; refine (HRd.out _ H2.out).mono ?_; rintro e1 w3 ⟨rfl, f3⟩; have H3 := Lib.hid (H2.out.tr f3); clear f3)
    go_wp2_with (go_at_call 29; refine (HNd.out _ H3.out).mono ?_; rintro e1 w4 ⟨rfl, f4⟩; have H4 := Lib.hid (H3.out.tr f4); clear f4)
    go_ret
    exact ⟨rfl, H4.out⟩
  · obtain ⟨g, o, rfl⟩ : ∃ g o, c = .pointer (some ⟨g, o, none⟩) := by
      rcases ht.ptr with ⟨e, _⟩ | ⟨_, g, o, e⟩
      · exact absurd e htn
      · exact ⟨g, o, e⟩
    have k2 := hb0.cell 2
    have HTN := Lib.hid htn
    by_cases hmt : mb = true
    · subst hmt
      clear h hok hp f0 hw0 hy hb0 hm hfo ht1 hb36 hl hgr hnd hneed hne hmb hRB hkeep ht HTS HBK htn
      go_enter Tryz.func8, Tryz.ntmps8
      go_upto_region 1 with fail
      rw [HW0.out, HY.out]
      go_upto_region 2 with (go_at_call 10; refine HA.out.mono ?_; rintro e1 w1 ⟨rfl, f1⟩; have H1 := Lib.hid (HF0.out.tr f1); have k3 := (cell_of_heap (f1.block y (Go.World.block_lt_of_cell? w0 _ k2) id)).trans k2; clear f1 k2)
      go_upto_region 4 with (go_at_call 27; refine (HS.out _ H1.out).mono ?_; rintro e1 w2 ⟨A2, n2, c2, rfl, hn2, hf2, f2⟩; have H2 := Lib.hid (H1.out.tr f2); clear hf2 f2 hn2 k3)
      go_upto_region 5 with (go_at_call 28; refine (HRd.out _ H2.out).mono ?_; rintro e1 w3 ⟨rfl, f3⟩; have H3 := Lib.hid (H2.out.tr f3); clear f3)
      go_wp2_with (go_at_call 29; refine (HNd.out _ H3.out).mono ?_; rintro e1 w4 ⟨rfl, f4⟩; have H4 := Lib.hid (H3.out.tr f4); clear f4)
      go_ret
      exact ⟨rfl, H4.out⟩
    · have hmf : mb = false := by simpa using hmt
      subst hmf
      have hfew : nd ≤ 4096 := by
        cases hg : Bd.greatB t with
        | true => exact absurd (hRB hg) (by decide)
        | false => rw [hg] at hgr; have := of_decide_eq_false hgr; omega
      by_cases h7 : 7 < need
      · have h7i : (7 : Int) < (need : Int) := by omega
        clear h hok hp f0 hw0 hy hb0 hm hfo ht1 hb36 hl hgr hnd hneed hne hmb hRB hkeep ht HTS HBK htn hmt
        go_enter Tryz.func8, Tryz.ntmps8
        go_upto_region 1 with fail
        rw [HW0.out, HY.out]
        go_upto_region 2 with (go_at_call 10; refine HA.out.mono ?_; rintro e1 w1 ⟨rfl, f1⟩; have H1 := Lib.hid (HF0.out.tr f1); have k3 := (cell_of_heap (f1.block y (Go.World.block_lt_of_cell? w0 _ k2) id)).trans k2; clear f1 k2)
        go_upto_region 4 with (go_at_call 27; refine (HS.out _ H1.out).mono ?_; rintro e1 w2 ⟨A2, n2, c2, rfl, hn2, hf2, f2⟩; have H2 := Lib.hid (H1.out.tr f2); clear hf2 f2 hn2 k3)
        go_upto_region 5 with (go_at_call 28; refine (HRd.out _ H2.out).mono ?_; rintro e1 w3 ⟨rfl, f3⟩; have H3 := Lib.hid (H2.out.tr f3); clear f3)
        go_wp2_with (go_at_call 29; refine (HNd.out _ H3.out).mono ?_; rintro e1 w4 ⟨rfl, f4⟩; have H4 := Lib.hid (H3.out.tr f4); clear f4)
        go_ret
        exact ⟨rfl, H4.out⟩
      · obtain ⟨yy, n, hn, b1, b2, hmn⟩ := orand7 s (q := need) (by omega)
        have h7i : (need : Int) ≤ 7 := by omega
        have HH := Lib.hid (fun (w' : World) (v' : Value) (h' : FR (fun k => k < w'.heap.size) w' v' l) (hp' : Pv w') => hash_g (n := n) w' hn h' hfo ht1 (by omega) hp')
        have HFl := Lib.hid (fun (w' : World) (v' : Value) (i1 : Bd.TsAt (fun k => k < w'.heap.size) w' t (.pointer (some ⟨g, o, none⟩))) (i2 : RR (fun k => k < w'.heap.size) w' v' (grp2 n l)) => filter_t (f := (n : Int)) w' htn i1 i2 (grp2_rok hfo hm) (Nat.lt_of_le_of_lt (grp2_len n l) (by omega)))
        rw [hkeep n hn rfl hmn] at HFl
        have HSt := Lib.hid (fun (w' : World) (v' : Value) (i1 : Bd.TsAt (fun k => k < w'.heap.size) w' t (.pointer (some ⟨g, o, none⟩))) (i2 : FR (fun k => k < w'.heap.size) w' v' l) => sort_t (s := (n : Int)) (meas := 2) w' htn i1 i2 hfo (by omega))
        obtain ⟨R, hR⟩ : ∃ R, grpL takeA (newA 2) (keyedL (testM t) (listB (n : Int)) l) = R := ⟨_, rfl⟩
        rw [hR] at HFl HSt
        have HSa := Lib.hid (fun (w' : World) (v' u' : Value) (i1 : RR (fun k => k < w'.heap.size) w' v' R) (i2 : RR (fun k => k < w'.heap.size) w' u' R) => sameR_any w' i1 i2)
        rw [(sameRs_iff _ _).2 rfl] at HSa
        have hfi : (nd : Int) ≤ 4096 := hfew
        clear h hok hp f0 hw0 hy hb0 hm hfo ht1 hb36 hl hgr hnd hneed hne hmb hRB hkeep ht HBK htn hmt hR hn hmn h7 hL
        go_enter Tryz.func8, Tryz.ntmps8
        go_upto_region 1 with fail
        rw [HW0.out, HY.out]
        go_upto_region 2 with (go_at_call 10; refine HA.out.mono ?_; rintro e1 w1 ⟨rfl, f1⟩; have H1 := Lib.hid (HF0.out.tr f1); have k3 := (cell_of_heap (f1.block y (Go.World.block_lt_of_cell? w0 _ k2) id)).trans k2; clear f1 k2)
        go_upto_region 4 with (go_at_call 27; refine (HS.out _ H1.out).mono ?_; rintro e1 w2 ⟨A2, n2, c2, rfl, hn2, hf2, f2⟩; have H2 := Lib.hid (H1.out.tr f2); have HL2 := Lib.hid hf2; clear hf2 f2 hn2 k3)
        go_upto_region 5 with (go_at_call 28; refine (HRd.out _ H2.out).mono ?_; rintro e1 w3 ⟨rfl, f3⟩; have H3 := Lib.hid (H2.out.tr f3); have HL3 := Lib.hid (HL2.out.no_lt f3); clear f3)
        go_upto_region 7 with (go_at_call 29; refine (HNd.out _ H3.out).mono ?_; rintro e1 w4 ⟨rfl, f4⟩; have H4 := Lib.hid (H3.out.tr f4); have HL4 := Lib.hid (HL3.out.no_lt f4); clear f4)
        go_wp2_with (first
          | (go_at_call 13; refine (HH.out _ _ HL4.out (HP.out.no H4.out)).mono ?_; rintro e1 w5 ⟨A5, n5, c5, rfl, hn5, hr5, f5⟩; have H5 := Lib.hid (H4.out.tr f5); have HR5 := Lib.hid hr5; have HL5 := Lib.hid (HL4.out.no_lt f5); clear hn5 hr5 f5)
          | (go_at_call 22; refine (HFl.out _ _ (HTS.out _ H5.out) HR5.out).mono ?_; rintro e1 w6 ⟨A6, n6, c6, rfl, hn6, hr6, f6⟩; have H6 := Lib.hid (H5.out.tr f6); have HR6 := Lib.hid hr6; have HL6 := Lib.hid (HL5.out.no_lt f6); clear hn6 hr6 f6)
          | (go_at_call 14; refine (HSt.out _ _ (HTS.out _ H6.out) HL6.out).mono ?_; rintro e1 w7 ⟨A7, n7, c7, rfl, hn7, hr7, f7⟩; have H7 := Lib.hid (H6.out.tr f7); have HR7 := Lib.hid hr7; have HR67 := Lib.hid (HR6.out.no_lt f7); clear hn7 hr7 f7)
          | (go_at_call 24; refine (HSa.out _ _ _ HR67.out HR7.out).mono ?_; rintro e1 w8 ⟨rfl, f8⟩; have H8 := Lib.hid (H7.out.tr f8); clear f8))
        go_ret
        exact ⟨rfl, H8.out⟩
end Go.Proofs.YtlpglijikmnopaaGreatDoor
