/- Match: how many facts have a text. -/
import Derived.Test.YtmaeejojmbibnaaG4
import Derived.Test.YtmaeejojmbibnaaP5
import Derived.Deep.RegionHeld3
import Derived.Deep.DrawnRows
namespace Go.Proofs.Ytmaeejojmbibnaa
open Go.RowKit Go.Maps
set_option linter.unusedVariables false

theorem match_out (w : World) (p : Option Addr) (i : Int) (t : Tx) (to' : Int) (hn : ∀ w, OutP p i w) : Calls Try.prog 26 #[.pointer p, .int .i64 i, encT t, .int .i64 to'] w fun e w' => e = .returned (.int .i64 0) ∧ Fr No w w' := by
  have HN : Hid (∀ w, OutP p i w) := Lib.hid hn
  have HF : Hid (Fr No w (w.alloc (.cells #[.int .i64 i] 3))) := Lib.hid ((Fr.refl No w).alloc _)
  unfold encT
  generalize (⟨t.toArray⟩ : ByteArray) = sz at *
  clear hn
  go_enter Try.func26, Try.ntmps26
  go_wp2_with (go_at_call 42; refine (HN.out _).mono ?_; rintro e w' ⟨rfl, rfl⟩)
  go_ret
  exact ⟨rfl, HF.out⟩
section
variable (s : Nat) (Q : SRp) (S : FS) (B : List (List FactP)) (w : World)
attribute [local go_sem ↓] Go.wp_at_zero Go.wp_at_succ
set_option maxRecDepth 100000 in
set_option maxHeartbeats 4000000 in
theorem match_in (h : SAt w s Q S) (hW : FW S B []) (d : Nat) (hd : d < S.K) (t : Tx) (ht : t.length ≤ maxLen) (b : Int) :
    Calls Try.prog 26 #[.pointer (some ⟨s, 0, none⟩), .int .i64 d, encT t, .int .i64 b] w fun e w' => e = .returned (.int .i64 (mtc B d t b : Nat)) ∧ Fr No w w' := by
  obtain ⟨w0, hw0⟩ : ∃ w0, w.alloc (.cells #[.int .i64 d] 3) = w0 := ⟨_, rfl⟩
  obtain ⟨bd, hbd⟩ : ∃ bd, w.heap.size = bd := ⟨_, rfl⟩
  have f0 : Fr No w w0 := by rw [← hw0]; exact (Fr.refl _ w).alloc _
  have h0 := h.keep f0
  have hb0 : Blk w0 bd 3 #[.int .i64 d] := by rw [← hw0, ← hbd]; exact Blk.new w 3 _
  obtain ⟨gd, cd, edv, cp⟩ := h0.ptr hd
  have hE : ∀ wx, Fr No w0 wx → wx.cell? ⟨s, 0, none⟩ = some (.slice (some ⟨gd, 0, none⟩) S.K cd) ∧ wx.cell? ⟨bd, 0, none⟩ = some (.int .i64 d) ∧ wx.cell? ⟨gd, d, none⟩ = some (.pointer (some ⟨Q.ds d, 0, none⟩)) := fun wx fx => by
    have hx := h0.keep fx
    have c0 := hx.cells.1
    rw [edv] at c0
    refine ⟨c0, (hb0.of (fx.block bd hb0.lt id)).cell 0, ?_⟩
    obtain ⟨g', c', e', cp'⟩ := hx.ptr hd
    rw [edv] at e'
    injection e' with e' _ _
    injection e' with e'
    injection e' with e'
    subst e'
    exact cp'
  have hFD : ∀ wx, Fr No w0 wx → Calls Try.prog 44 #[.pointer (some ⟨Q.ds d, 0, none⟩), encT t] wx (TextP (.int .i64 (onI (num (S.D d) t))) (num (S.D d) t).isSome wx) := fun wx fx => find_any (Q.ds d) (Q.rp d) (.of (S.D d)) wx ((h0.keep fx).dict d hd) t ht
  have HH : Hid (Calls Try.prog 42 #[.pointer (some ⟨s, 0, none⟩), .int .i64 d] w0 fun e w' => e = .returned (.bool true) ∧ w0 = w') := Lib.hid (shas_in s Q S B [] w0 h0 hW d hd)
  have HSP : Hid (∀ wx, Fr No w0 wx → Calls Try.prog 37 #[.pointer (some ⟨s, 0, none⟩), .int .i64 0, .int .i64 b] wx (SpanP 0 (lowS B b) wx)) := Lib.hid fun wx fx => by
    have hq := span_any s Q S B [] wx (h0.keep fx) hW 0 b
    rw [lowS_zero, highS_zero] at hq
    exact hq
  have HE := Lib.hid hE
  have HFD := Lib.hid hFD
  have HMN : Hid (num (S.D d) t = none → mtc B d t b = 0) := Lib.hid fun hv => mtc_none hW hd hv b
  have HF0 := Lib.hid f0
  have HW := Lib.hid hW
  have HAT := Lib.hid h0
  have HB0 := Lib.hid hb0
  have HW0 := Lib.hid hw0
  have HBD := Lib.hid hbd
  have HDK := Lib.hid hd
  have k0 := (hE w0 (Fr.refl _ _)).1
  have k1 := (hE w0 (Fr.refl _ _)).2.1
  have k2 := (hE w0 (Fr.refl _ _)).2.2
  have kd : (0 : Int) ≤ (d : Int) := by omega
  have kd2 : (d : Int) < (S.K : Int) := by omega
  have hk := hW.k
  clear h h0 hb0 hw0 hbd f0 hW hE hFD edv cp hd
  unfold encT at HFD ⊢
  generalize (⟨t.toArray⟩ : ByteArray) = sz at *
  obtain ⟨dd, hdd⟩ : ∃ dd, Q.ds d = dd := ⟨_, rfl⟩
  rw [hdd] at HFD HE k2
  clear hdd
  obtain ⟨o, ho⟩ : ∃ o, num (S.D d) t = o := ⟨_, rfl⟩
  rw [ho] at HFD HMN
  have HO := Lib.hid ho
  clear ho
  obtain ⟨n, hn⟩ : ∃ n, onI o = n := ⟨_, rfl⟩
  obtain ⟨bb, hbb⟩ : ∃ bb, o.isSome = bb := ⟨_, rfl⟩
  rw [hn, hbb] at HFD
  have HN := Lib.hid hn
  have HBB := Lib.hid hbb
  clear hn hbb
  generalize S.K = K at k0 HE kd2 hk
  go_enter Try.func26, Try.ntmps26
  go_upto_region 1 with fail
  rw [HW0.out, HBD.out]
  go_wp2_with (go_at_call 42; refine HH.out.mono ?_; rintro e w' ⟨rfl, rfl⟩)
  go_cut [9, 10] (fun p q wz => ∃ x, p = .pointer (some ⟨x, 0, none⟩) ∧ q = .bool bb ∧ Blk wz x 3 #[.int .i64 n] ∧ Hid (Fr No w0 wz))
  case first =>
    go_region_held3 (fun w' => w'.cell? ⟨s, 0, none⟩ = some (.slice (some ⟨gd, 0, none⟩) K cd) ∧ w'.cell? ⟨bd, 0, none⟩ = some (.int .i64 d) ∧ w'.cell? ⟨gd, d, none⟩ = some (.pointer (some ⟨dd, 0, none⟩)))
      (first | exact HE.out _ (by (repeat (first | exact Fr.refl No _ | refine Fr.drew ?_ | refine Fr.alloc ?_ _))) | go_keep)
      (first
        | (go_at_call 44; (with_reducible refine (HFD.out _ (by (repeat (first | exact Fr.refl No _ | refine Fr.drew ?_ | refine Fr.alloc ?_ _)))).mono ?_); rintro e wa ⟨rfl, rfl⟩))
    all_goals (go_simp; go_wp2_with fail)
    all_goals go_meet
    all_goals exact ⟨_, rfl, rfl, by first | exact Blk.new w0 3 _ | exact (Blk.new w0 3 _).of rfl, Lib.hid (((Fr.refl No w0).alloc _).drew)⟩
  case rest =>
  obtain ⟨x, rfl, rfl, hx, HFC⟩ := hcut
  cases o with
  | none =>
    obtain rfl : false = bb := HBB.out
    go_wp2
    go_ret
    exact ⟨ret_int (by rw [HMN.out (by trivial)]; rfl), HF0.out.trans HFC.out fun _ _ h => h⟩
  | some v =>
    obtain rfl : true = bb := HBB.out
    obtain rfl : (v : Int) = n := HN.out
    obtain ⟨w1, hw1⟩ : ∃ w1, wc.alloc (.cells #[.int .i64 0] 3) = w1 := ⟨_, rfl⟩
    obtain ⟨bm, hbm⟩ : ∃ bm, wc.heap.size = bm := ⟨_, rfl⟩
    have HF1 : Hid (Fr No wc w1) := Lib.hid (by rw [← hw1]; exact (Fr.refl _ wc).alloc _)
    have HBM : Hid (Blk w1 bm 3 #[.int .i64 0]) := Lib.hid (by rw [← hw1, ← hbm]; exact Blk.new wc 3 _)
    have HX := Lib.hid hx
    have HW1 := Lib.hid hw1
    have HBM2 := Lib.hid hbm
    have hlx : x < wc.heap.size := hx.lt
    have HF02 : Hid (Fr No w0 w1) := Lib.hid (HFC.out.trans HF1.out fun _ _ h => h)
    have hv := (num_some HO.out).1
    have hvK := (HW.out.dn d HDK.out).2.1
    have hmt := mtc_some HW.out HDK.out HO.out b
    have hhi : lowS B b ≤ S.n := by rw [HW.out.flat]; exact lowS_le B b
    have HMT := Lib.hid hmt
    have HHI := Lib.hid hhi
    have hbx : bm ≠ x := by omega
    have hbdl : bd < w0.heap.size := HB0.out.lt
    have hbmd : bm ≠ bd := by have := HFC.out.size; omega
    obtain ⟨hi, hhie⟩ : ∃ hi, lowS B b = hi := ⟨_, rfl⟩
    rw [hhie] at HMT HHI HSP
    clear hx hw1 hbm hmt hhi hhie
    clear k0 k1 k2 kd kd2
    go_upto_region 7 with fail
    rw [HW1.out, HBM2.out]
    go_wp2_with fail
    refine (HSP.out _ HF02.out).mono ?_
    rintro e w2 ⟨rfl, f2⟩
    have HF2 := Lib.hid f2
    clear f2
    have HG : S.G ≤ 1001 := by have h1 := HW.out.g; have h2 := HW.out.bn; have h3 := HW.out.b; simp only [List.length_nil] at h2; omega
    have hGn : hi ≤ S.G * 256 := by have h1 := HW.out.g; have h2 := HHI.out; omega
    have HSTEP : ∀ p wx, (SAt wx s Q S ∧ wx.cell? ⟨bm, 0, none⟩ = some (.int .i64 (cntN (S.cn d) v 0 p : Nat)) ∧ wx.frozen? ⟨bm, 0, none⟩ = false ∧ Fr (One bm) w2 wx) → 0 ≤ p → p < hi → Step45 s Q S hi (.pointer (some ⟨bm, 0, none⟩)) (.pointer (some ⟨bd, 0, none⟩)) (.pointer (some ⟨x, 0, none⟩)) (fun p wx => SAt wx s Q S ∧ wx.cell? ⟨bm, 0, none⟩ = some (.int .i64 (cntN (S.cn d) v 0 p : Nat)) ∧ wx.frozen? ⟨bm, 0, none⟩ = false ∧ Fr (One bm) w2 wx) p wx := by
      rintro p wx ⟨ha, hc, hz, hf⟩ _ hp
      unfold Step45
      have hg : p / 256 < S.G := by omega
      have hcx : wx.cell? ⟨x, 0, none⟩ = some (.int .i64 v) := (((HX.out.of (HF1.out.block x hlx id)).of (HF2.out.block x (by have := HF1.out.size; omega) id)).of (hf.block x (by have := HF1.out.size; have := HF2.out.size; omega) (fun e => hbx e.symm))).cell 0
      have hcd : wx.cell? ⟨bd, 0, none⟩ = some (.int .i64 d) := (((HB0.out.of (HF02.out.block bd hbdl id)).of (HF2.out.block bd (by have := HF02.out.size; omega) id)).of (hf.block bd (by have := HF02.out.size; have := HF2.out.size; omega) (fun e => hbmd e.symm))).cell 0
      have hm2 : min (hi - p) (256 - p % 256) ≤ 256 := by omega
      have hle := cntN_le (S.cn d) v 0 p
      have hpn : p ≤ 300000 := by omega
      refine (match1_any wx S (p / 256) (Q.sa (p / 256)) (Q.sb (p / 256)) S.K S.M d v (cntN (S.cn d) v 0 p) (p % 256) (p % 256 + min (hi - p) (256 - p % 256)) bm bd x (ha.sega _ hg) HDK.out rfl HW.out.k.2 (fun q => by have := HW.out.cn4 HDK.out q; omega) (by omega) (by omega) (by omega) (by omega) hc hz hcd hcx).mono ?_
      rintro e w' ⟨rfl, hc', hz', hf'⟩
      have hbmw : ¬ sfoot s Q S bm := fun hk => by
        have h1 := (HAT.out.lt bm hk)
        have h2 := HFC.out.size
        have h3 := HBM2.out
        omega
      refine ⟨rfl, ha.fr hf' fun k hk hs => hbmw (by rwa [show k = bm from hk] at hs), ?_, hz', hf.trans hf' fun _ _ h => h⟩
      rw [hc', Nat.add_sub_cancel_left, cntN_seg, cntN_add, Nat.zero_add]
    go_wp2_with fail
    refine (pieces45 s Q S w2 _ 0 hi _ _ _ (by omega) hGn HG (fun p wx h => h.1) HSTEP ⟨HAT.out.keep (HF02.out.trans HF2.out fun _ _ h => h), (HBM.out.of (HF2.out.block bm HBM.out.lt id)).cell 0, (HBM.out.of (HF2.out.block bm HBM.out.lt id)).frozen 0, Fr.refl _ _⟩).mono ?_
    rintro e w3 ⟨rfl, ha, hc, hz, hf⟩
    rw [HMT.out] at hc
    have HF3 := Lib.hid hf
    clear ha hz hf HSTEP
    go_wp2
    go_ret
    refine ⟨rfl, HF0.out.trans ((HF02.out.trans HF2.out fun _ _ h => h).trans HF3.out fun k hk e => ?_) fun _ _ h => h⟩
    have e' : k = bm := e
    have h2 := HFC.out.size
    have h3 := HBM2.out
    omega
end
end Go.Proofs.Ytmaeejojmbibnaa
