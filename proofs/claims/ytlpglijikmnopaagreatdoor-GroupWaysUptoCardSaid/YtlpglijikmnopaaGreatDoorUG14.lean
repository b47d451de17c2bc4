/- The iterator: keys and numbers, fact by fact. -/
import Derived.Test.YtlpglijikmnopaaGreatDoorUG13
namespace Go.Proofs.YtlpglijikmnopaaGreatDoor
open Go.RowKit Go.Maps Go.Sort Go.Proofs Go.Shelf
set_option linter.unusedVariables false
attribute [local go_sem] Oper.semAt_some

/-- What is handed out: a key, and numbers, with the values that say them. -/
structure Yd where
  k : Ky
  ms : List Int
  kv : Value
  mv : Value
def ydE (x : Yd) : Array Value := #[x.kv, x.mv]
def ydR (b B : Nat) (x : Yd) (W : World) : Prop := KRz (fun j => B ≤ j) W x.kv x.k ∧ IR (fun j => j < b) W x.mv x.ms ∧ Kok x.k
def Fok (f : Fc) : Prop := ∀ t ∈ f.dims, t.length ≤ 2097152
theorem namesL_mem {l : List Tx} {d : List Nat} {t : Tx} (h : t ∈ namesL l d) : t ∈ l := by
  unfold namesL at h
  obtain ⟨i, _, hi⟩ := List.mem_filterMap.1 h
  exact List.mem_of_getElem? hi
theorem Fok.key {f : Fc} (h : Fok f) {d : List Nat} (hd : d.length ≤ 1000) : Kok (namesL f.dims d) := ⟨Nat.le_trans (namesL_len _ _) (by omega), fun t ht => h t (namesL_mem ht)⟩
theorem roundIn_any {F : Fence} (hd : F.depth = none) {m m' : Nat} {P : Program} {l : Nat} {f : FuncId} {tmps : Array Value} {assign body : Code} {w : World} {R : Ending → World → Prop} (h : RoundIn F m P l f tmps assign body w R) : RoundIn F m' P l f tmps assign body w R :=
  ⟨h.1, fun c cs _ => h.2 c cs (fun _ hs => by rw [hd] at hs; cases hs)⟩
set_option maxRecDepth 100000 in
set_option maxHeartbeats 4000000 in
theorem keyed1_any {n b x y z : Nat} {Gm Kd : Nat → Prop} {fv dv wv : Value} {fs : List Fc} {d : List Nat} {M : Fc → Bool} {w0 w : World} (hx : Blk w x 22 #[fv]) (hy : Blk w y 53 #[dv]) (hz : Blk w z 23 #[wv]) (hd : RowE Kd w 1 (natG Kd w) dv d) (hf : FR (fun j => j < b) w fv fs)
    (hM : MeantC wv M b w0) (hw0 : Below b w0 w) (hG : ∀ k, Gm k → b ≤ k ∧ k ≠ x ∧ k ≠ y ∧ k ≠ z ∧ ¬ Kd k) (hdl : d.length ≤ 1000) (hdr : ∀ n, lastOk d n = true → ∀ i ∈ d, i < n) (hok : ∀ f ∈ fs, Fok f) (hbw : b ≤ w.heap.size) (hwv : ∃ p, wv = .pointer p) :
    SeqM n 70 #[.pointer (some ⟨x, 0, none⟩), .pointer (some ⟨y, 0, none⟩), .pointer (some ⟨z, 0, none⟩)] ydE (ydR b) Gm (fun xs => xs.map (fun u => (u.k, u.ms)) = keyedL M d fs) fs.length w := by
  intro l J W hW hJ hY h0
  obtain ⟨p, rfl⟩ := hwv
  obtain ⟨A, c, rfl, hc1, hc2⟩ : ∃ A c, fv = .slice A fs.length c ∧ fs.length ≤ c ∧ c ≤ maxLen := by obtain ⟨A, c, e, h1, h2, _⟩ := hf; exact ⟨A, c, e, h1, h2⟩
  obtain ⟨D, dn, dc, rfl, hdn⟩ := row_form hd
  obtain ⟨N, hN⟩ : ∃ N, fs.length = N := ⟨_, rfl⟩
  rw [hN] at hx hf hc1
  have HN := Lib.hid hN
  have HFW : Hid (∀ w', Fr Gm W w' → Fr Gm w w') := Lib.hid fun w' f' => hW.any.trans f' fun _ _ h => h
  have HX : Hid (∀ w', Fr Gm W w' → Blk w' x 22 #[.slice A N c] ∧ Blk w' y 53 #[.slice D dn dc] ∧ Blk w' z 23 #[.pointer p] ∧ RowE Kd w' 1 (natG Kd w') (.slice D dn dc) d ∧ FR (fun j => j < b) w' (.slice A N c) fs ∧ Below b w0 w') := Lib.hid fun w' f' => by
    have f := HFW.out w' f'
    exact ⟨hx.of (f.block x hx.lt fun h => (hG x h).2.1 rfl), hy.of (f.block y hy.lt fun h => (hG y h).2.2.1 rfl), hz.of (f.block z hz.lt fun h => (hG z h).2.2.2.1 rfl),
      hd.mono (fun k hk hlt => ⟨hk, f.block k hlt fun h => (hG k h).2.2.2.2 hk⟩) (fun _ _ h => h),
      RowE.mono hf (fun k hk hlt => ⟨hk, f.block k hlt fun h => by have := (hG k h).1; omega⟩) (fun _ _ h => fcG_elem.mono _ _ _ _ _ _ h fun k hk hlt => ⟨hk, f.block k hlt fun h => by have := (hG k h).1; omega⟩),
      hw0.trans (f.below_of hbw fun k hk => (hG k hk).1)⟩
  have HM := Lib.hid hM
  have HJ := Lib.hid hJ
  have HY := Lib.hid hY
  have H0 := Lib.hid h0
  have HDR := Lib.hid hdr
  have HOK := Lib.hid hok
  have HBW : Hid (b ≤ W.heap.size) := Lib.hid (by have := hW.size; omega)
  have HDN := Lib.hid hdn
  have hdn1 : dn ≤ 1000 := by omega
  obtain ⟨hx0, -, -, -, -, -⟩ := HX.out W (Fr.refl _ _)
  have x0 := hx0.cell 0
  unfold maxLen at hc2
  clear hx hy hz hd hf hM hw0 hJ hY h0 hdr hok hdn hN hx0 hW hbw
  refine callsIn_of_wp Tryz.func70 rfl trivial ?_ rfl
  simp only [Tryz.ntmps70, List.size_toArray, List.length_cons, List.length_nil, Nat.reduceAdd, Nat.reduceSub, Array.replicate_succ, Array.replicate_zero, List.push_toArray, List.append_toArray, List.nil_append, List.cons_append]
  gi_wp2
  gi_loopw [6, 9] (fun r6 r9 wr => Hid (∃ (j : Nat) (ys : List Yd), r9 = .int .i64 (j : Nat) ∧ j ≤ N ∧ ys.map (fun u => (u.k, u.ms)) = keyedL M d (fs.take j) ∧ J ys wr ∧ Fr Gm W wr)) (fun _ r9 _ => N - (intOf r9).toNat)
  case atStart => exact Lib.hid ⟨0, [], rfl, by omega, by simp [keyedL], H0.out, Fr.refl _ _⟩
  case round =>
    obtain ⟨j, ys, rfl, hjN, hys, hj, hf⟩ := hrel.out
    clear hrel
    have HYS := Lib.hid hys
    have HJJ := Lib.hid hj
    have HF := Lib.hid hf
    clear hys hj hf
    by_cases hlt : j < N
    · have hjl : j < fs.length := by rw [HN.out]; exact hlt
      obtain ⟨hx1, hy1, hz1, hd1, hf1, hb1⟩ := HX.out wr HF.out
      have HST := Lib.hid (keyedL_step (M := M) (d := d) hjl)
      obtain ⟨g, off, dv, mv, rfl, hgb, hgl, cd, cm, hkr, hir⟩ := hf1.at_ hjl
      have hfo := HOK.out fs[j] (List.getElem_mem _)
      obtain ⟨f, hfj⟩ : ∃ f, fs[j] = f := ⟨_, rfl⟩
      rw [hfj] at HST hkr hir hfo
      obtain ⟨Da, dl, dc', rfl, -⟩ : ∃ A l c, dv = .slice A l c ∧ True := by obtain ⟨A, c, e, _⟩ := hkr.form; exact ⟨A, _, c, e, trivial⟩
      obtain ⟨Ma, ml, mc', rfl, -⟩ : ∃ A l c, mv = .slice A l c ∧ True := by obtain ⟨A, c, e, _⟩ := hir.form; exact ⟨A, _, c, e, trivial⟩
      obtain ⟨q, hq⟩ : ∃ q, wr.heap.size = q := ⟨_, rfl⟩
      obtain ⟨w1, hw1⟩ : ∃ w1, wr.alloc (.cells #[.slice Da dl dc', .slice Ma ml mc'] 63) = w1 := ⟨_, rfl⟩
      have f1 : Fr No wr w1 := by rw [← hw1]; exact (Fr.refl No wr).alloc _
      have hq1 : Blk w1 q 63 #[.slice Da dl dc', .slice Ma ml mc'] := by rw [← hw1, ← hq]; exact Blk.new wr 63 _
      have HHA := Lib.hid (fun w' (f' : Fr No w1 w') => hasAll_any (mv := .slice Ma ml mc') w' (hkr.no (f1.trans f' fun _ _ h => h)) (RowE.at_ natG_elem hd1 (f1.trans f' fun _ _ h => h)) (by have := HDN.out; omega))
      have HMM := Lib.hid (fun w' (f' : Fr No w1 w') => HM.out _ w' _ _ f ((hb1.trans (f1.below.mono (by have := HF.out.size; have := HBW.out; omega))).trans (f'.below.mono (by have := f1.size; have := HF.out.size; have := HBW.out; omega))) (hkr.no (f1.trans f' fun _ _ h => h)) (hir.no (f1.trans f' fun _ _ h => h)))
      have HTX : Hid (∀ b1, lastOk d f.dims.length = b1 → b1 = true → ∀ w', Fr No w1 w' → Calls Tryz.prog 51 #[.slice Da dl dc', .slice D dn dc] w' (TellsRz (namesL f.dims d) w')) := Lib.hid fun b1 h1 h2 w' f' => textsZ_any w' (hkr.no (f1.trans f' fun _ _ h => h)) (RowE.at_ natG_elem hd1 (f1.trans f' fun _ _ h => h)) (HDR.out _ (h1.trans h2)) (by have := HDN.out; omega)
      have HQ1 := Lib.hid hq1
      have HF1 := Lib.hid f1
      have HW1 := Lib.hid hw1
      have HQ := Lib.hid hq
      have HIR := Lib.hid hir
      have HFO := Lib.hid hfo
      have HY1 := Lib.hid hy1
      have HZ1 := Lib.hid hz1
      have y1 := (hy1.no f1).cell 0
      have z1 := (hz1.no f1).cell 0
      have q0 := hq1.cell 0
      have q1 := hq1.cell 1
      have hqlt := hq1.lt
      have hylt := (hy1.no f1).lt
      have hzlt := (hz1.no f1).lt
      obtain ⟨b1, hb1'⟩ : ∃ b, lastOk d f.dims.length = b := ⟨_, rfl⟩
      obtain ⟨b2, hb2'⟩ : ∃ b, M f = b := ⟨_, rfl⟩
      rw [hb1', hb2'] at HST
      rw [hb1'] at HHA
      rw [hb2'] at HMM
      have HB1 := Lib.hid hb1'
      clear hx1 hy1 hz1 hd1 hf1 hb1 hgb hgl hkr hir hfo hfj hq1 f1 hb1' hb2' x0
      cases b1 with
      | false =>
        have HN2 : Hid (keyedL M d (fs.take (j + 1)) = keyedL M d (fs.take j)) := Lib.hid (by rw [HST.out]; simp)
        gi_wp2_with (refine ⟨trivial, fun h => (by cases h), ?_⟩; gi_at_call 71; refine (callsIn_wide.2 (HHA.out _ (Fr.refl _ _))).mono ?_; rintro e w3 ⟨rfl, f3⟩; have HF3 := Lib.hid f3; clear f3)
        have HJ3 : Hid (J ys w3 ∧ Fr Gm W w3) := Lib.hid ⟨HJ.out _ _ _ HJJ.out (HF1.out.trans HF3.out fun _ _ h => h), HF.out.trans (HF1.out.trans HF3.out fun _ _ h => h) fun _ _ h => h.elim⟩
        refine ⟨trivial, ?_⟩
        gi_wp2
        exact ⟨Lib.hid ⟨j + 1, ys, by go_num, by omega, by rw [HN2.out]; exact HYS.out, HJ3.out.1, HJ3.out.2⟩, by show N - (Int.toNat ((j : Int) + 1)) < N - Int.toNat (j : Int); omega⟩
      | true =>
        have HTT := Lib.hid (fun w' (f' : Fr No w1 w') => HTX.out true HB1.out rfl w' f')
        clear HTX
        cases b2 with
        | false =>
          have HN2 : Hid (keyedL M d (fs.take (j + 1)) = keyedL M d (fs.take j)) := Lib.hid (by rw [HST.out]; simp)
          gi_wp2_with (first
            | (refine ⟨trivial, fun h => (by cases h), ?_⟩; gi_at_call 71; refine (callsIn_wide.2 (HHA.out _ (Fr.refl _ _))).mono ?_; rintro e w3 ⟨rfl, f3⟩; have HF3 := Lib.hid f3; have z3 := (HZ1.out.no (HF1.out.trans f3 fun _ _ h => h)).cell 0; have q03 := (HQ1.out.no f3).cell 0; have q13 := (HQ1.out.no f3).cell 1; have hq3 := (HQ1.out.no f3).lt; have hz3 := (HZ1.out.no (HF1.out.trans f3 fun _ _ h => h)).lt; clear f3)
            | (refine ⟨trivial, fun h => (by cases h), ?_⟩; gi_at_call 54; refine (callsIn_wide.2 (HMM.out _ HF3.out)).mono ?_; rintro e w4 ⟨rfl, f4⟩; have HF4 := Lib.hid f4; clear f4))
          have HJ3 : Hid (J ys w4 ∧ Fr Gm W w4) := Lib.hid ⟨HJ.out _ _ _ HJJ.out (HF1.out.trans (HF3.out.trans HF4.out fun _ _ h => h) fun _ _ h => h), HF.out.trans (HF1.out.trans (HF3.out.trans HF4.out fun _ _ h => h) fun _ _ h => h) fun _ _ h => h.elim⟩
          gi_wp2
          exact ⟨Lib.hid ⟨j + 1, ys, by go_num, by omega, by rw [HN2.out]; exact HYS.out, HJ3.out.1, HJ3.out.2⟩, by show N - (Int.toNat ((j : Int) + 1)) < N - Int.toNat (j : Int); omega⟩
        | true =>
          have hmx : Tryz.prog.follows .mixedOrders = true := by kernel_rfl
          have HN2 : Hid (keyedL M d (fs.take (j + 1)) = keyedL M d (fs.take j) ++ [(namesL f.dims d, f.meas)]) := Lib.hid (by rw [HST.out]; simp)
          have HYN : Hid (ys.length < N) := Lib.hid (by
            have e1 := congrArg List.length HYS.out
            rw [List.length_map] at e1
            have e2 : (keyedL M d (fs.take j)).length ≤ j := by
              unfold keyedL
              rw [List.length_map]
              exact Nat.le_trans (List.length_filter_le _ _) (List.length_take_le _ _)
            omega)
          have HKK : Hid (Kok (namesL f.dims d)) := Lib.hid (HFO.out.key hdl)
          gi_wp2_with (first
            | (refine ⟨trivial, fun h => (by cases h), ?_⟩; gi_at_call 71; refine (callsIn_wide.2 (HHA.out _ (Fr.refl _ _))).mono ?_; rintro e w3 ⟨rfl, f3⟩; have HF3 := Lib.hid f3; have z3 := (HZ1.out.no (HF1.out.trans f3 fun _ _ h => h)).cell 0; have q03 := (HQ1.out.no f3).cell 0; have q13 := (HQ1.out.no f3).cell 1; have hq3 := (HQ1.out.no f3).lt; have hz3 := (HZ1.out.no (HF1.out.trans f3 fun _ _ h => h)).lt; clear f3)
            | (refine ⟨trivial, fun h => (by cases h), ?_⟩; gi_at_call 54; refine (callsIn_wide.2 (HMM.out _ HF3.out)).mono ?_; rintro e w4 ⟨rfl, f4⟩; have HF4 := Lib.hid (HF3.out.trans f4 fun _ _ h => h); clear f4))
          gi_wp2
          have q04 := (HQ1.out.no HF4.out).cell 0
          have q14 := (HQ1.out.no HF4.out).cell 1
          have y4 := (HY1.out.no (HF1.out.trans HF4.out fun _ _ h => h)).cell 0
          have hq4 := (HQ1.out.no HF4.out).lt
          have hy4 := (HY1.out.no (HF1.out.trans HF4.out fun _ _ h => h)).lt
          have HF5 : Hid (Fr No w1 w4.drew) := Lib.hid HF4.out.drew
          clear y1 z1 q0 q1 z3 q03 q13
          gi_region_with_o (first
            | (refine ⟨trivial, fun h => (by cases h), ?_⟩; gi_at_call 51; refine (callsIn_wide.2 (HTT.out _ HF5.out)).mono ?_; rintro e w6 ⟨kv, rfl, hkv, f6⟩
               have HF6 : Hid (Fr No wr w6) := Lib.hid (HF1.out.trans (HF5.out.trans f6 fun _ _ h => h) fun _ _ h => h)
               have q16 := (HQ1.out.no (HF5.out.trans f6 fun _ _ h => h)).cell 1
               have q06 := (HQ1.out.no (HF5.out.trans f6 fun _ _ h => h)).cell 0
               have hq6 := (HQ1.out.no (HF5.out.trans f6 fun _ _ h => h)).lt
               have HRD : Hid (ydR b w4.heap.size ⟨namesL f.dims d, f.meas, kv, .slice Ma ml mc'⟩ w6) := Lib.hid ⟨hkv, HIR.out.no HF6.out, HKK.out⟩
               obtain ⟨fn, tm, asg, bod, hyr, hR⟩ := HY.out ys ⟨namesL f.dims d, f.meas, kv, .slice Ma ml mc'⟩ w4.drew w6 (HJ.out _ _ _ HJJ.out (HF1.out.trans HF5.out fun _ _ h => h)) f6 HRD.out (by rw [HN.out]; exact HYN.out)
               dsimp only [ydE] at hyr
               have hR2 := roundIn_any (m' := n - 1) rfl hR
               clear hkv f6 hR)
            | (refine ⟨fun h => (by cases h), ?_⟩; refine hR2.mono ?_; rintro e w7 ⟨rfl, hJ7, f7⟩; have HJ7 : Hid (J (ys ++ [⟨namesL f.dims d, f.meas, kv, .slice Ma ml mc'⟩]) w7 ∧ Fr Gm W w7) := Lib.hid ⟨hJ7, (HF.out.trans HF6.out fun _ _ h => h.elim).trans f7 fun _ _ h => h⟩; clear hJ7 f7))
          all_goals (try gi_wp2)
          all_goals exact ⟨Lib.hid ⟨j + 1, ys ++ [⟨namesL f.dims d, f.meas, kv, .slice Ma ml mc'⟩], by go_num, by omega, by rw [HN2.out, List.map_append, HYS.out]; rfl, HJ7.out.1, HJ7.out.2⟩, by show N - (Int.toNat ((j : Int) + 1)) < N - Int.toNat (j : Int); omega⟩
    · have hje : j = N := by omega
      subst hje
      have HT : Hid (fs.take j = fs) := Lib.hid (List.take_of_length_le (by rw [HN.out]; exact Nat.le_refl _))
      gi_wp2
      go_end0
      exact ⟨⟨_, rfl⟩, ys, by rw [HYS.out, HT.out], HJJ.out⟩
end Go.Proofs.YtlpglijikmnopaaGreatDoor
