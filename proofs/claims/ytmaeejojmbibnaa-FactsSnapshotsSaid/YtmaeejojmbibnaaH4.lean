/- rows, walked. -/
import Derived.Test.YtmaeejojmbibnaaH3
namespace Go.Proofs.Ytmaeejojmbibnaa
open Go.RowKit Go.Maps
set_option linter.unusedVariables false
section
variable (s : Nat) (Q : SRp) (S : FS) (B : List (List FactP)) (w : World)
attribute [local go_sem ↓] to256 to256' Go.wp_at_zero Go.wp_at_succ
set_option maxRecDepth 100000 in
set_option maxHeartbeats 8000000 in
theorem rows_any (h : SAt w s Q S) (hW : FW S B []) (g lo hi : Nat) (hg : g < S.G) (hlh : lo < hi) (hh : hi ≤ 256) (hn : g * 256 + hi ≤ S.n) :
    Calls Try.prog 40 #[.pointer (some ⟨s, 0, none⟩), .agg #[.slice (some ⟨Q.sa g, 0, none⟩) S.K S.K, .slice (some ⟨Q.sb g, 0, none⟩) S.M S.M], .int .i64 lo, .int .i64 hi] w fun e w' =>
      ∃ b, e = .returned (.slice (some ⟨b, 0, none⟩) (hi - lo) (hi - lo)) ∧ Mk w b (hi - lo) (hi - lo) S.K S.M (TT S (g * 256 + lo)) (MT S (g * 256 + lo)) w' := by
  obtain ⟨K, hK⟩ : ∃ K, S.K = K := ⟨_, rfl⟩
  obtain ⟨M, hM⟩ : ∃ M, S.M = M := ⟨_, rfl⟩
  obtain ⟨n, hne⟩ : ∃ n, hi - lo = n := ⟨_, rfl⟩
  have hk6 := hW.k
  have hm4 := hW.m
  rw [hK] at hk6
  rw [hM] at hm4
  obtain ⟨w0, hw0⟩ : ∃ w0, w.alloc (.cells #[.slice (some ⟨Q.sa g, 0, none⟩) K K, .slice (some ⟨Q.sb g, 0, none⟩) M M] 74) = w0 := ⟨_, rfl⟩
  obtain ⟨y, hy⟩ : ∃ y, w.heap.size = y := ⟨_, rfl⟩
  have f0 : Fr No w w0 := by rw [← hw0]; exact (Fr.refl _ w).alloc _
  have hby : Blk w0 y 74 #[.slice (some ⟨Q.sa g, 0, none⟩) K K, .slice (some ⟨Q.sb g, 0, none⟩) M M] := by rw [← hw0, ← hy]; exact Blk.new w 74 _
  obtain ⟨w1, hw1⟩ : ∃ w1, w0.alloc (.cells (zfacts n) 51) = w1 := ⟨_, rfl⟩
  obtain ⟨b, hb⟩ : ∃ b, w0.heap.size = b := ⟨_, rfl⟩
  have f1 : Fr No w w1 := by rw [← hw1]; exact f0.alloc _
  have hmk : Mk w0 b n 0 K M TZ MZ w1 := ⟨fun _ => 0, fun _ => 0, by rw [← hw1, ← hb]; exact FBlk.start w0 n K M _ _, Bks.nil _ _ _ _ _ _ _ _, by omega, by rw [← hw1]; exact (Fr.refl _ w0).alloc _⟩
  have hmk32 := make32 n (by omega)
  have HM48 := Lib.hid (make48 K (by omega))
  have HM49 := Lib.hid (make49 M (by omega))
  have hsub : (hi : Int) - (lo : Int) = (n : Int) := by omega
  have HAT := Lib.hid h
  have HW := Lib.hid hW
  have HBY := Lib.hid hby
  have HMK := Lib.hid hmk
  have HF0 := Lib.hid f0
  have HW0 := Lib.hid hw0
  have HW1 := Lib.hid hw1
  have HY := Lib.hid hy
  have HB := Lib.hid hb
  have HN := Lib.hid hne
  have HGS := Lib.hid hg
  have HKK := Lib.hid hK
  have HMM := Lib.hid hM
  have hn256 : n ≤ 256 := by omega
  have hn1 : 1 ≤ n := by omega
  rw [hK, hM, hne]
  have hlo : lo + n ≤ 256 := by omega
  have hnn : g * 256 + lo + n ≤ S.n := by omega
  have HNN := Lib.hid hnn
  have hdcell : ∀ wx, Fr No w wx → wx.cell? ⟨s, 0, none⟩ = some Q.dv ∧ wx.cell? ⟨s, 1, none⟩ = some (.int .i64 M) := fun wx fx => by
    have hx := (h.keep fx).cells
    rw [hM] at hx
    exact ⟨hx.1, hx.2.1⟩
  obtain ⟨gd, cd, ed, _⟩ := h.ptr (d := 0) (by omega)
  have HPTR : Hid (∀ wx, Fr No w wx → ∀ d, d < K → wx.cell? ⟨gd, d, none⟩ = some (.pointer (some ⟨Q.ds d, 0, none⟩))) := Lib.hid fun wx fx d hd => by
    obtain ⟨g', c', e', cp'⟩ := (h.keep fx).ptr (d := d) (by rw [hK]; exact hd)
    rw [ed] at e'
    injection e' with e' _ _
    injection e' with e'
    injection e' with e'
    subst e'
    exact cp'
  rw [ed, hK] at hdcell
  have HDC := Lib.hid hdcell
  obtain ⟨sa, hsa⟩ : ∃ sa, Q.sa g = sa := ⟨_, rfl⟩
  obtain ⟨sb, hsb⟩ : ∃ sb, Q.sb g = sb := ⟨_, rfl⟩
  rw [hsa, hsb] at HW0 HBY ⊢
  have HSA := Lib.hid hsa
  have HSB := Lib.hid hsb
  clear hsa hsb
  have HKEEP : Hid (∀ wx, Fr No w0 wx → wx.cell? ⟨y, 0, none⟩ = some (.slice (some ⟨sa, 0, none⟩) K K) ∧ wx.cell? ⟨y, 1, none⟩ = some (.slice (some ⟨sb, 0, none⟩) M M)) := Lib.hid fun wx fx => ⟨(HBY.out.of (fx.block y HBY.out.lt id)).cell 0, (HBY.out.of (fx.block y HBY.out.lt id)).cell 1⟩
  clear h hW hby hmk f0 f1 hw0 hw1 hy hb hne hg hK hM hh hnn hn hdcell ed hlh
  go_enter Try.func40, Try.ntmps40
  go_upto_region 1 with fail
  rw [HW0.out, HY.out]
  go_upto_region 2 with fail
  rw [HW1.out, HB.out]
  go_wp2
  go_loopw [23] (fun iv wr => ∃ i : Nat, i ≤ n ∧ iv = .int .i64 i ∧ Hid (Mk w0 b n i K M TZ MZ wr)) (fun iv _ => n - (intOf iv).toNat)
  case atStart => exact ⟨0, by omega, rfl, HMK⟩
  case round =>
    obtain ⟨i, hi', rfl, HI⟩ := hrel
    by_cases hlt : i < n
    · obtain ⟨da, ma, h1, h2, h3, h4⟩ := HI.out
      obtain ⟨v0, c0, z0⟩ := h1.any (i := i * 2) (by omega)
      obtain ⟨v1, c1, z1⟩ := h1.any (i := i * 2 + 1) (by omega)
      have hbl := h1.lt
      have kA : ∀ wx, Fr No wr wx → (wx.cell? ⟨s, 0, none⟩ = some (.slice (some ⟨gd, 0, none⟩) K cd) ∧ wx.cell? ⟨s, 1, none⟩ = some (.int .i64 M)) ∧ wx.cell? ⟨b, i * 2, none⟩ = some v0 ∧ wx.cell? ⟨b, i * 2 + 1, none⟩ = some v1 ∧ wx.frozen? ⟨b, i * 2, none⟩ = false ∧ wx.frozen? ⟨b, i * 2 + 1, none⟩ = false := fun wx fx => by
        have e := fx.block b hbl id
        refine ⟨HDC.out _ (HF0.out.trans (h4.trans fx fun _ _ h => h) fun _ _ h => h), (cell_of_heap e).trans c0, (cell_of_heap e).trans c1, ?_, ?_⟩
        · simp only [World.frozen?] at z0 ⊢; rw [e]; exact z0
        · simp only [World.frozen?] at z1 ⊢; rw [e]; exact z1
      have a0 := (kA wr (Fr.refl _ _)).1.1
      have a1 := (kA wr (Fr.refl _ _)).1.2
      have b0 : ∀ A, (wr.alloc A).cell? ⟨s, 0, none⟩ = _ := fun A => (kA _ ((Fr.refl No wr).alloc A)).1.1
      have b1 : ∀ A, (wr.alloc A).cell? ⟨s, 1, none⟩ = _ := fun A => (kA _ ((Fr.refl No wr).alloc A)).1.2
      have d0 : ∀ A C, ((wr.alloc A).alloc C).cell? ⟨b, i * 2, none⟩ = _ := fun A C => (kA _ (((Fr.refl No wr).alloc A).alloc C)).2.1
      have d1 : ∀ A C, ((wr.alloc A).alloc C).cell? ⟨b, i * 2 + 1, none⟩ = _ := fun A C => (kA _ (((Fr.refl No wr).alloc A).alloc C)).2.2.1
      have e0 : ∀ A C, ((wr.alloc A).alloc C).frozen? ⟨b, i * 2, none⟩ = _ := fun A C => (kA _ (((Fr.refl No wr).alloc A).alloc C)).2.2.2.1
      have e1 : ∀ A C, ((wr.alloc A).alloc C).frozen? ⟨b, i * 2 + 1, none⟩ = _ := fun A C => (kA _ (((Fr.refl No wr).alloc A).alloc C)).2.2.2.2
      have m48 := HM48.out
      have m49 := HM49.out
      have HNX := Lib.hid (HI.out.next hlt)
      clear h1 h2 h3 h4 kA hbl c0 c1 z0 z1
      go_upto_region 5 with fail
      go_region
      all_goals go_wp2_with fail
      all_goals go_roundw
      case rel => exact ⟨i + 1, by omega, by go_num, Lib.hid HNX.out.1⟩
      case measure => simp [intOf]; omega
      case rel => exact ⟨i + 1, by omega, by go_num, Lib.hid HNX.out.2⟩
      case measure => simp [intOf]; omega
    · obtain rfl : n = i := by omega
      have HI2 : Hid (Mk w0 b n n K M (TW S (g * 256 + lo) 0 0) MZ wr) := Lib.hid (HI.out.congr (fun j d _ _ => TW_zero S _ j d) (fun _ _ _ _ => rfl))
      have hy0 : wr.cell? ⟨y, 0, none⟩ = some (.slice (some ⟨sa, 0, none⟩) K K) := by
        obtain ⟨da, ma, h1, h2, h3, h4⟩ := HI.out
        exact HKEEP.out wr h4 |>.1
      clear HI
      go_wp2
      clear hy0
      go_loopw [45] (fun dv wr => ∃ d : Nat, d ≤ K ∧ dv = .int .i64 d ∧ Hid (Mk w0 b n n K M (TW S (g * 256 + lo) d 0) MZ wr)) (fun dv _ => K - (intOf dv).toNat)
      case atStart => exact ⟨0, by omega, rfl, HI2⟩
      case round =>
        obtain ⟨d, hd, rfl, HI⟩ := hrel
        by_cases hdk : d < K
        · have hfr : Fr No w wr := by
            obtain ⟨da, ma, h1, h2, h3, h4⟩ := HI.out
            exact HF0.out.trans h4 fun _ _ h => h
          have hcol := (HAT.out.keep hfr).sega g HGS.out
          have esa : Q.sa g = sa := HSA.out
          rw [esa] at hcol
          have hrd := rd_col hcol (by rw [HKK.out]; exact hdk)
          have hld := load256 ⟨sa, d * 256, none⟩ wr hrd.1
          rw [hrd.2] at hld
          obtain ⟨CA, hCA⟩ : ∃ CA, ((List.range 256).map (dcol S g d)).toArray = CA := ⟨_, rfl⟩
          rw [hCA] at hld
          have hsz : CA.size = 256 := by rw [← hCA]; simp
          have h1c : CA.all (·.oneCell') = true := by rw [← hCA]; simp [dcol, Value.oneCell']
          obtain ⟨z83, h83⟩ := zero_of_info (P := Try.prog) (t := 83) (v := .agg (Array.replicate 256 (.int .u16 0))) (n := 256) (by kernel_rfl)
          have hst : ∀ wx : World, (storeCells ⟨wx.heap.size, 0, none⟩ CA.toList 0).run Try.prog (wx.alloc (.cells (Array.replicate 256 (.int .u16 0)) 83)) = .ok () (wx.alloc (.cells CA 83)) := fun wx => run_storeCells_new wx 83 _ CA (by rw [h83, hsz]) (by simp [hsz]) h1c
          obtain ⟨ZA, hZA⟩ : ∃ ZA, Array.replicate 256 (Value.int .u16 0) = ZA := ⟨_, rfl⟩
          rw [hZA] at hst z83
          have HCA := Lib.hid hCA
          have HFR := Lib.hid hfr
          obtain ⟨x, hx⟩ : ∃ x, wr.heap.size = x := ⟨_, rfl⟩
          obtain ⟨w2, hw2⟩ : ∃ w2, wr.alloc (.cells CA 83) = w2 := ⟨_, rfl⟩
          have HBX : Hid (Blk w2 x 83 CA) := Lib.hid (by rw [← hw2, ← hx]; exact Blk.new wr 83 _)
          have HMK2 : Hid (Mk w0 b n n K M (TW S (g * 256 + lo) d 0) MZ w2) := Lib.hid (by rw [← hw2]; exact HI.out.keep ((Fr.refl No wr).alloc _))
          have HX := Lib.hid hx
          have HW2 := Lib.hid hw2
          clear hcol hrd esa hCA hfr hZA h83 hx hw2
          go_upto_region 10 with fail
          rw [HW2.out, HX.out]
          clear hld hst z83 hsz h1c
          go_wp2
          go_loopw [52] (fun iv wz => ∃ i : Nat, i ≤ n ∧ iv = .int .i64 i ∧ Hid (Mk w0 b n n K M (TW S (g * 256 + lo) d i) MZ wz ∧ Blk wz x 83 CA)) (fun iv _ => n - (intOf iv).toNat)
          case atStart => exact ⟨0, by omega, rfl, Lib.hid ⟨HMK2.out, HBX.out⟩⟩
          case round =>
            obtain ⟨i, hi2, rfl, HJ⟩ := hrel
            by_cases hin : i < n
            · obtain ⟨a, ca, ⟨va, cva⟩, za, hm2, ⟨csa, ba⟩, nab, fa⟩ := HJ.out.1.text hin hdk
              have hfz : Fr No w wr := by
                obtain ⟨da, ma, h1, h2, h3, h4⟩ := HJ.out.1
                exact HF0.out.trans h4 fun _ _ h => h
              have hp0 := (HDC.out wr hfz).1
              have hp1 := HPTR.out wr hfz d hdk
              have hcx : wr.cell? ⟨x, lo + i, none⟩ = some (.int .u16 (S.cn d (g * 256 + (lo + i)) : Nat)) := by
                rw [HJ.out.2.cell, ← HCA.out]
                simp [dcol, show lo + i < 256 by omega]
              have hcn : S.cn d (g * 256 + (lo + i)) < (S.D d).length := HW.out.cb d (by rw [HKK.out]; exact hdk) _ (by have := HNN.out; omega)
              have HTX : Hid (∀ wx, Fr No w wx → Calls Try.prog 52 #[.pointer (some ⟨Q.ds d, 0, none⟩), .int .i64 (S.cn d (g * 256 + (lo + i)) : Nat)] wx (TextP (encT (txt (S.D d) (S.cn d (g * 256 + (lo + i))))) true wx)) := Lib.hid fun wx fx => text_in (Q.ds d) (Q.rp d) (.of (S.D d)) wx ((HAT.out.keep fx).dict d (by rw [HKK.out]; exact hdk)) _ hcn
              have hc4 := HW.out.cn4 (d := d) (by rw [HKK.out]; exact hdk) (g * 256 + (lo + i))
              have eTT : TT S (g * 256 + lo) i d = encT (txt (S.D d) (S.cn d (g * 256 + (lo + i)))) := by unfold TT; rw [Nat.add_assoc]
              rw [eTT] at hm2 fa
              unfold encT at HTX hm2 fa
              generalize (⟨(txt (S.D d) (S.cn d (g * 256 + (lo + i)))).toArray⟩ : ByteArray) = sz at *
              generalize S.cn d (g * 256 + (lo + i)) = cv at *
              obtain ⟨dd, hdd⟩ : ∃ dd, Q.ds d = dd := ⟨_, rfl⟩
              rw [hdd] at hp1 HTX
              have HM2 := Lib.hid hm2
              have HFZ := Lib.hid hfz
              have HBX2 : Hid (Blk (wr.setCell ⟨a, d, none⟩ (.string sz)) x 83 CA) := Lib.hid (HJ.out.2.of (fa.block x HJ.out.2.lt fun e => Blk.ne_ HJ.out.2 ba (by decide) e))
              have hfz2 : Fr No w (wr.setCell ⟨a, d, none⟩ (.string sz)) := by
                obtain ⟨da, ma, h1, h2, h3, h4⟩ := hm2
                exact HF0.out.trans h4 fun _ _ h => h
              have hbl : b < wr.heap.size := World.block_lt_of_cell? _ _ ca
              have HKP : Hid ((wr.setCell ⟨a, d, none⟩ (.string sz)).cell? ⟨b, i * 2, none⟩ = some (.slice (some ⟨a, 0, none⟩) K K) ∧ (wr.setCell ⟨a, d, none⟩ (.string sz)).cell? ⟨s, 0, none⟩ = some (.slice (some ⟨gd, 0, none⟩) K cd) ∧ (wr.setCell ⟨a, d, none⟩ (.string sz)).cell? ⟨gd, d, none⟩ = some (.pointer (some ⟨dd, 0, none⟩)) ∧ (wr.setCell ⟨a, d, none⟩ (.string sz)).cell? ⟨x, lo + i, none⟩ = some (.int .u16 cv)) :=
                Lib.hid ⟨(cell_of_heap (fa.block b hbl fun e => nab (Eq.symm e))).trans ca, (HDC.out _ hfz2).1, hdd ▸ HPTR.out _ hfz2 d hdk, (cell_of_heap (fa.block x HJ.out.2.lt fun e => Blk.ne_ HJ.out.2 ba (by decide) e)).trans hcx⟩
              clear eTT hm2 hfz hfz2 ba fa hcn hbl nab hdd
              have i1 : (0 : Int) ≤ (i : Int) := by omega
              have i2 : (i : Int) < (n : Int) := by omega
              have i3 : (0 : Int) ≤ (d : Int) := by omega
              have i4 : (d : Int) < (K : Int) := by omega
              have i5 : (0 : Int) ≤ (lo : Int) + (i : Int) := by omega
              have i6 : (lo : Int) + (i : Int) < 256 := by omega
              have i7 : ((lo : Int) + (i : Int)).toNat = lo + i := by omega
              have i8 : IntKind.i64.wrap ((lo : Int) + (i : Int)) = (lo : Int) + (i : Int) := by rw [IntKind.wrap_i64]; omega
              have i9 : (cv : Int) < 4096 := by omega
              have i10 : (0 : Int) ≤ (cv : Int) := by omega
              have i11 : IntKind.i64.wrap (cv : Int) = (cv : Int) := by rw [IntKind.wrap_i64]; omega
              go_upto_region 13 with fail
              go_region_held3 (fun w' => w'.cell? ⟨b, i * 2, none⟩ = some (.slice (some ⟨a, 0, none⟩) K K) ∧ w'.cell? ⟨s, 0, none⟩ = some (.slice (some ⟨gd, 0, none⟩) K cd) ∧ w'.cell? ⟨gd, d, none⟩ = some (.pointer (some ⟨dd, 0, none⟩)) ∧ w'.cell? ⟨x, lo + i, none⟩ = some (.int .u16 cv))
                (first | exact HKP.out | go_keep)
                ((go_at_call 52; (with_reducible refine (HTX.out _ (by first | exact HFZ.out | exact HFZ.out.drew)).mono ?_); rintro e wa ⟨rfl, rfl⟩))
              all_goals (go_simp; go_wp2_with fail)
              all_goals go_roundw
              all_goals first
                | exact ⟨i + 1, by omega, by go_num, Lib.hid ⟨HM2.out.keep (Fr.refl _ _).drew, HBX2.out.of rfl⟩⟩
                | (simp [intOf]; omega)
            · obtain rfl : i = n := by omega
              have HEND : Hid (Mk w0 b i i K M (TW S (g * 256 + lo) (d + 1) 0) MZ wr) := Lib.hid (HJ.out.1.congr (fun j e hj _ => TW_turn S _ _ _ _ _ hj) (fun _ _ _ _ => rfl))
              go_wp2
              go_roundw
              case rel => exact ⟨d + 1, by omega, by go_num, HEND⟩
              case measure => simp [intOf]; omega
        · obtain rfl : K = d := by omega
          have HI3 : Hid (Mk w0 b n n K M (TW S (g * 256 + lo) K 0) (MW S (g * 256 + lo) 0 0) wr) := Lib.hid (HI.out.congr (fun _ _ _ _ => rfl) (fun j d _ _ => MW_zero S _ j d))
          have hy1 : wr.cell? ⟨y, 1, none⟩ = some (.slice (some ⟨sb, 0, none⟩) M M) := by
            obtain ⟨da, ma, h1, h2, h3, h4⟩ := HI.out
            exact HKEEP.out wr h4 |>.2
          clear HI
          go_wp2
          clear hy1
          go_loopw [84] (fun dv wr => ∃ d : Nat, d ≤ M ∧ dv = .int .i64 d ∧ Hid (Mk w0 b n n K M (TW S (g * 256 + lo) K 0) (MW S (g * 256 + lo) d 0) wr)) (fun dv _ => M - (intOf dv).toNat)
          case atStart => exact ⟨0, by omega, rfl, HI3⟩
          case round =>
            obtain ⟨d, hd, rfl, HI⟩ := hrel
            by_cases hdk : d < M
            · have hfr : Fr No w wr := by
                obtain ⟨da, ma, h1, h2, h3, h4⟩ := HI.out
                exact HF0.out.trans h4 fun _ _ h => h
              have hcol := (HAT.out.keep hfr).segb g HGS.out
              have esa : Q.sb g = sb := HSB.out
              rw [esa] at hcol
              have hrd := rd_col hcol (by rw [HMM.out]; exact hdk)
              have hld := load256 ⟨sb, d * 256, none⟩ wr hrd.1
              rw [hrd.2] at hld
              obtain ⟨CA, hCA⟩ : ∃ CA, ((List.range 256).map (mcol S g d)).toArray = CA := ⟨_, rfl⟩
              rw [hCA] at hld
              have hsz : CA.size = 256 := by rw [← hCA]; simp
              have h1c : CA.all (·.oneCell') = true := by rw [← hCA]; simp [mcol, Value.oneCell']
              obtain ⟨z83, h83⟩ := zero_of_info (P := Try.prog) (t := 106) (v := .agg (Array.replicate 256 (.int .i64 0))) (n := 256) (by kernel_rfl)
              have hst : ∀ wx : World, (storeCells ⟨wx.heap.size, 0, none⟩ CA.toList 0).run Try.prog (wx.alloc (.cells (Array.replicate 256 (.int .i64 0)) 106)) = .ok () (wx.alloc (.cells CA 106)) := fun wx => run_storeCells_new wx 106 _ CA (by rw [h83, hsz]) (by simp [hsz]) h1c
              obtain ⟨ZA, hZA⟩ : ∃ ZA, Array.replicate 256 (Value.int .i64 0) = ZA := ⟨_, rfl⟩
              rw [hZA] at hst z83
              have HCA := Lib.hid hCA
              obtain ⟨x, hx⟩ : ∃ x, wr.heap.size = x := ⟨_, rfl⟩
              obtain ⟨w2, hw2⟩ : ∃ w2, wr.alloc (.cells CA 106) = w2 := ⟨_, rfl⟩
              have HBX : Hid (Blk w2 x 106 CA) := Lib.hid (by rw [← hw2, ← hx]; exact Blk.new wr 106 _)
              have HMK2 : Hid (Mk w0 b n n K M (TW S (g * 256 + lo) K 0) (MW S (g * 256 + lo) d 0) w2) := Lib.hid (by rw [← hw2]; exact HI.out.keep ((Fr.refl No wr).alloc _))
              have HX := Lib.hid hx
              have HW2 := Lib.hid hw2
              clear hcol hrd esa hCA hfr hZA h83 hx hw2
              go_upto_region 19 with fail
              rw [HW2.out, HX.out]
              clear hld hst z83 hsz h1c
              go_wp2
              go_loopw [91] (fun iv wz => ∃ i : Nat, i ≤ n ∧ iv = .int .i64 i ∧ Hid (Mk w0 b n n K M (TW S (g * 256 + lo) K 0) (MW S (g * 256 + lo) d i) wz ∧ Blk wz x 106 CA)) (fun iv _ => n - (intOf iv).toNat)
              case atStart => exact ⟨0, by omega, rfl, Lib.hid ⟨HMK2.out, HBX.out⟩⟩
              case round =>
                obtain ⟨i, hi2, rfl, HJ⟩ := hrel
                by_cases hin : i < n
                · obtain ⟨a, ca, ⟨va, cva⟩, za, hm2, ⟨csa, ba⟩, nab, fa⟩ := HJ.out.1.numb hin hdk
                  have hcx : wr.cell? ⟨x, lo + i, none⟩ = some (.int .i64 (S.mn d (g * 256 + (lo + i)))) := by
                    rw [HJ.out.2.cell, ← HCA.out]
                    simp [mcol, show lo + i < 256 by omega]
                  have eTT : MT S (g * 256 + lo) i d = .int .i64 (S.mn d (g * 256 + (lo + i))) := by unfold MT; rw [Nat.add_assoc]
                  rw [eTT] at hm2 fa
                  generalize S.mn d (g * 256 + (lo + i)) = mv at *
                  have HM2 := Lib.hid hm2
                  have hbl : b < wr.heap.size := World.block_lt_of_cell? _ _ ca
                  have HBX2 : Hid (Blk (wr.setCell ⟨a, d, none⟩ (.int .i64 mv)) x 106 CA) := Lib.hid (HJ.out.2.of (fa.block x HJ.out.2.lt fun e => Blk.ne_ HJ.out.2 ba (by decide) e))
                  have HKP : Hid ((wr.setCell ⟨a, d, none⟩ (.int .i64 mv)).cell? ⟨b, i * 2 + 1, none⟩ = some (.slice (some ⟨a, 0, none⟩) M M) ∧ (wr.setCell ⟨a, d, none⟩ (.int .i64 mv)).cell? ⟨x, lo + i, none⟩ = some (.int .i64 mv)) :=
                    Lib.hid ⟨(cell_of_heap (fa.block b hbl fun e => nab (Eq.symm e))).trans ca, (cell_of_heap (fa.block x HJ.out.2.lt fun e => Blk.ne_ HJ.out.2 ba (by decide) e)).trans hcx⟩
                  clear eTT hm2 ba fa hbl nab
                  have i1 : (0 : Int) ≤ (i : Int) := by omega
                  have i2 : (i : Int) < (n : Int) := by omega
                  have i3 : (0 : Int) ≤ (d : Int) := by omega
                  have i4 : (d : Int) < (M : Int) := by omega
                  have i5 : (0 : Int) ≤ (lo : Int) + (i : Int) := by omega
                  have i6 : (lo : Int) + (i : Int) < 256 := by omega
                  have i7 : ((lo : Int) + (i : Int)).toNat = lo + i := by omega
                  have i8 : IntKind.i64.wrap ((lo : Int) + (i : Int)) = (lo : Int) + (i : Int) := by rw [IntKind.wrap_i64]; omega
                  go_upto_region 22 with fail
                  go_region_held3 (fun w' => w'.cell? ⟨b, i * 2 + 1, none⟩ = some (.slice (some ⟨a, 0, none⟩) M M) ∧ w'.cell? ⟨x, lo + i, none⟩ = some (.int .i64 mv))
                    (first | exact HKP.out | go_keep)
                    (fail)
                  all_goals (go_simp; go_wp2_with fail)
                  all_goals go_roundw
                  all_goals first
                    | exact ⟨i + 1, by omega, by go_num, Lib.hid ⟨HM2.out.keep (Fr.refl _ _).drew, HBX2.out.of rfl⟩⟩
                    | (simp [intOf]; omega)
                · obtain rfl : i = n := by omega
                  have HEND : Hid (Mk w0 b i i K M (TW S (g * 256 + lo) K 0) (MW S (g * 256 + lo) (d + 1) 0) wr) := Lib.hid (HJ.out.1.congr (fun _ _ _ _ => rfl) (fun j e hj _ => MW_turn S _ _ _ _ _ hj))
                  go_wp2
                  go_roundw
                  case rel => exact ⟨d + 1, by omega, by go_num, HEND⟩
                  case measure => simp [intOf]; omega
            · obtain rfl : M = d := by omega
              have HEND : Hid (Mk w b n n K M (TT S (g * 256 + lo)) (MT S (g * 256 + lo)) wr) := Lib.hid ((HI.out.congr (fun j e _ he => TW_end S _ _ j e he) (fun j e _ he => MW_end S _ _ j e he)).base HF0.out)
              clear HI
              go_wp2
              go_ret
              exact ⟨b, rfl, HEND.out⟩
end
end Go.Proofs.Ytmaeejojmbibnaa
