/- FactsMany, walked. -/
import Derived.Test.YtmaeejojmbibnaaJ4
import Derived.Test.YtmaeejojmbibnaaP7
import Derived.Test.YtmaeejojmbibnaaJ6
namespace Go.Proofs.Ytmaeejojmbibnaa
open Go.RowKit Go.Maps
set_option linter.unusedVariables false

theorem Fr.cell_no {w w' : World} (f : Fr No w w') {a o : Nat} {v : Value} (h : w.cell? ⟨a, o, none⟩ = some v) : w'.cell? ⟨a, o, none⟩ = some v :=
  (cell_of_heap (f.block a (World.block_lt_of_cell? _ _ h) id)).trans h
theorem conv1 (w : World) (g r : Nat) (hr : r < 3) (h : Blk w g 5 #[.int .u8 (97 + (r : Int))]) : (convert 47 9 (.slice (some ⟨g, 0, none⟩) 1 1)).run Try.prog w = .ok (.string ⟨[UInt8.ofNat (97 + r)].toArray⟩) w := by
  have h2 := run_convert_bytes_arg (P := Try.prog) w 47 5 Try.underlying47 Try.underlying5 g 0 1 1 [97 + (r : Int)] rfl (fun j hj => by
    obtain rfl : j = 0 := by omega
    exact h.cell 0) 9 Try.underlying9
  refine h2.trans ?_
  have e : (97 + (r : Int)) = ((97 + r : Nat) : Int) := by omega
  have e3 : strOfNums [97 + (r : Int)] = ⟨[UInt8.ofNat (97 + r)].toArray⟩ := by
    rw [e]
    simp only [strOfNums, List.map_cons, List.map_nil, Int.toNat_natCast]
  rw [e3]
set_option maxRecDepth 100000 in
set_option maxHeartbeats 8000000 in
theorem factsMany_any (bs : Int) (hbs : i64 bs) (sz : ByteArray) (hs : sz.size ≤ maxLen) (w : World) : Calls Try.prog 5 #[.int .i64 bs, .string sz] w fun e w' => e = .returned (.bool true) ∧ Below w.heap.size w w' := by
  obtain ⟨B, hB⟩ : ∃ B, w.heap.size = B := ⟨_, rfl⟩
  have HB := Lib.hid hB
  clear hB
  unfold maxLen at hs
  obtain ⟨i0, hi0, hz0, hz1, hz2⟩ := info_parts info51
  obtain ⟨q, hq⟩ : ∃ q, bs.tmod 31 = q := ⟨_, rfl⟩
  have hq1 : -30 ≤ q ∧ q ≤ 30 := by
    have h1 := Int.tmod_lt_of_pos bs (show (0 : Int) < 31 by omega)
    have h2 := Int.lt_tmod_of_pos bs (show (0 : Int) < 31 by omega)
    omega
  have HQ := Lib.hid hq
  clear hq hbs
  go_enter Try.func5, Try.ntmps5
  go_wp2_with fail
  refine (awake_any w).mono ?_
  rintro e w1 ⟨rfl, b1⟩
  have B1 : Hid (Fr No w w1) := Lib.hid (Fr.of_below b1)
  clear b1
  go_wp2_with fail
  refine (m_new (Bel B) 1 2 (by omega) (by omega) w1 fun k hk => by have h1 := HB.out; have h2 := B1.out.size; unfold Bel at hk; omega).mono ?_
  rintro e w2 ⟨s, rfl, h2, f2⟩
  have HS : Hid (Kp w B s 1 2 (BM [] 0) w2) := Lib.hid ⟨h2, (B1.out.nn f2).any⟩
  clear h2 f2 B1
  go_upto_if 23 with fail
  go_cut [1] (fun bv wx => ∃ b : List UInt8, bv = .string ⟨b.toArray⟩ ∧ b.length ≤ 60 ∧ wx = w2)
  case first =>
    go_wp2
    all_goals go_meet
    · refine ⟨(sz.extract 0 60).data.toList, rfl, ?_, rfl⟩
      rw [len_bytes, ByteArray.size_extract]; omega
    · refine ⟨sz.data.toList, rfl, ?_, rfl⟩
      rw [len_bytes]; omega
  case rest =>
  obtain ⟨b, rfl, hb, rfl⟩ := hcut
  clear hs
  go_upto_region 7 with fail
  have hq := HQ.out
  go_upto_if 35 with fail
  clear hq
  go_cut [8] (fun nv wx => ∃ n : Nat, n ≤ 30 ∧ nv = .int .i64 n ∧ wx = wc)
  case first =>
    by_cases hneg : q < 0
    · obtain ⟨n, rfl⟩ : ∃ n : Nat, q = -(n : Int) := ⟨(-q).toNat, by omega⟩
      have hn30 : n ≤ 30 := by omega
      go_wp2
      go_meet
      exact ⟨n, hn30, by simp, rfl⟩
    · obtain ⟨n, rfl⟩ : ∃ n : Nat, q = (n : Int) := ⟨q.toNat, by omega⟩
      have hn30 : n ≤ 30 := by omega
      go_wp2
      go_meet
      exact ⟨n, hn30, rfl, rfl⟩
  case rest =>
  obtain ⟨n, hn30, rfl, rfl⟩ := hcut
  clear hq1 HQ
  go_wp2
  go_loopw [9] (fun iv wr => ∃ i : Nat, iv = .int .i64 i ∧ i ≤ n ∧ Hid (Kp w B s 1 2 (BM b i) wr)) (fun iv _ => n - (intOf iv).toNat)
  case atStart => exact ⟨0, rfl, by omega, HS⟩
  case round =>
    obtain ⟨i, rfl, hi, HI⟩ := hrel
    clear HS
    by_cases hlt : i < n
    · obtain ⟨wS, hwS⟩ : ∃ wS, wS = wr := ⟨_, rfl⟩
      subst hwS
      obtain ⟨h0, hh0⟩ : ∃ h0, wS.heap.size = h0 := ⟨_, rfl⟩
      have HH0 := Lib.hid hh0
      have HLF : Hid (LF h0 wS (.slice none 0 0) ((batM b i).take 0)) := Lib.hid (LF2.nil h0 h0 wS)
      clear hh0
      have hib : decide (i < n) = true := by simp; omega
      go_wp2
      go_loopw [10, 11] (fun lv kv wz => ∃ (k : Nat) (A : Option Addr) (c : Nat), k ≤ 64 ∧ kv = .int .i64 k ∧ lv = .slice A k c ∧ Hid (LF h0 wz (.slice A k c) ((batM b i).take k) ∧ Fr No wS wz)) (fun _ kv _ => 64 - (intOf kv).toNat)
      case atStart => exact ⟨0, none, 0, by omega, rfl, rfl, Lib.hid ⟨HLF.out, Fr.refl _ _⟩⟩
      case round =>
        obtain ⟨k, A, c, hk, rfl, rfl, HK⟩ := hrel
        by_cases hlk : k < 64
        · obtain ⟨r, hr⟩ : ∃ r : Nat, k % 3 = r := ⟨_, rfl⟩
          have hr3 : r < 3 := by omega
          have hrem : (k : Int) % 3 = (r : Int) := by omega
          obtain ⟨p, hp⟩ : ∃ p : Nat, i * 64 + k = p := ⟨_, rfl⟩
          have hpI : (i : Int) * 64 + (k : Int) = (p : Int) := by omega
          have hp2 : p ≤ 2000 := by omega
          have hpr : p % 64 % 3 = r := by
            have : p % 64 = k := by omega
            rw [this]; exact hr
          obtain ⟨wa, hwa⟩ : ∃ wa, wr.alloc (.cells #[.int .u8 (97 + (r : Int))] 5) = wa := ⟨_, rfl⟩
          obtain ⟨g, hg⟩ : ∃ g, wr.heap.size = g := ⟨_, rfl⟩
          have hbk : Blk wa g 5 #[.int .u8 (97 + (r : Int))] := by rw [← hwa, ← hg]; exact Blk.new wr 5 _
          have hfa : Fr No wr wa := by rw [← hwa]; exact (Fr.refl No wr).alloc _
          obtain ⟨gb, hgb⟩ : ∃ gb, wa.heap.size = gb := ⟨_, rfl⟩
          have hconv := conv1 wa g r hr3 hbk
          have hcat := cat2 b [UInt8.ofNat (97 + r)] (by simp; omega)
          have ht : tM b p = b ++ [UInt8.ofNat (97 + r)] := by unfold tM; rw [hpr]
          obtain ⟨wd, hwd⟩ : ∃ wd, ((wa.alloc (.cells #[.string ⟨(b ++ [UInt8.ofNat (97 + r)]).toArray⟩] 9)).alloc (.cells #[.int .i64 (p : Int), .int .i64 (-(p : Int))] 2)).alloc (.cells #[.slice (some ⟨gb, 0, none⟩) 1 1, .slice (some ⟨gb + 1, 0, none⟩) 2 2] 51) = wd := ⟨_, rfl⟩
          have hh0 : h0 ≤ gb := by have h1 := HK.out.2.size; have h2 := HH0.out; have h3 := hfa.size; omega
          obtain ⟨fd, bd, rd, rm, hsd⟩ := fact_blocks h0 wa wd gb [b ++ [UInt8.ofNat (97 + r)]] [(p : Int), -(p : Int)] hwd hgb hh0 (fun t ht => by rw [List.mem_singleton.1 ht]; unfold maxLen; simp; omega) (fun n hn => by simp only [List.mem_cons, List.not_mem_nil, or_false] at hn; rcases hn with rfl | rfl <;> (unfold i64; omega)) (by simp) (by simp)
          rw [← ht] at rd
          have hLd := HK.out.1.keep (hfa.nn fd)
          obtain ⟨xs, ho, hop⟩ := hLd.open
          have hlen : ((batM b i).take k).length = k := by rw [List.length_take, batM_len]; omega
          rw [hlen] at ho
          have hnx : (batM b i).take (k + 1) = (batM b i).take k ++ [fM b p] := by
            rw [List.take_succ_eq_append_getElem (by rw [batM_len]; exact hlk)]
            simp [batM, hp]
          have HEND : Hid (∀ w3 g' cap, wd.grownBy w3 (Value.slice A k c).ownBlock → w3.ownsRow h0 51 2 (.slice (some ⟨g', 0, none⟩) (k + 1) cap) (k + 1) (xs ++ [.slice (some ⟨gb, 0, none⟩) 1 1, .slice (some ⟨gb + 1, 0, none⟩) 2 2]) → LF h0 w3 (.slice (some ⟨g', 0, none⟩) (k + 1) cap) ((batM b i).take (k + 1)) ∧ Fr No wS w3) := Lib.hid fun w3 g' cap hgr ho3 => by
            rw [hnx]
            refine ⟨LF2.push (v := .slice A k c) (f := fM b p) hop (by rw [hlen]; exact ho) (by omega) rd rm (Fr.refl No wd) hgr (by rw [hlen]; exact ho3), ((HK.out.2.nn (hfa.nn fd)).any.grown (F := Ge h0) hgr fun j hj hlt => ?_).mono fun j hj hx => ?_⟩
            · exact (ho.lt j hj).1
            · have hx' : h0 ≤ j := hx
              have := HH0.out
              omega
          have HO := Lib.hid ho
          have HCV := Lib.hid hconv
          have HCT := Lib.hid hcat
          have HWA := Lib.hid hwa
          have HG := Lib.hid hg
          have HGB := Lib.hid hgb
          have HWD := Lib.hid hwd
          have HBD := Lib.hid bd
          have HSD := Lib.hid hsd
          have hbase : h0 ≤ wd.heap.size := by omega
          clear ho hconv hcat hwa hg hgb hwd bd hsd hbk hfa fd rd rm hLd hop hlen hnx hh0 HLF ht hr hp hpr
          generalize UInt8.ofNat (97 + r) = c8 at *
          generalize b ++ [c8] = tk at *
          go_upto_region 18 with fail
          have hconv := HCV.out
          have hcat := HCT.out
          have hwa := HWA.out
          have hg := HG.out
          have hgb := HGB.out
          have hwd := HWD.out
          go_wp2_with (at_builtin; refine wpList_append_lies _ (by rfl) _ _ 32 (by rfl) h0 51 i0 _ 2 48 Try.underlying32 hi0 hz0 hz1 hz2 rfl (by omega) (.slice A k c) _ _ (by rfl) HO.out ⟨gb + 1 + 1, 0, none⟩ 1 1 [.slice (some ⟨gb, 0, none⟩) 1 1, .slice (some ⟨gb + 1, 0, none⟩) 2 2] (by rfl) (by rfl) (World.news_of_block (cs := #[.slice (some ⟨gb, 0, none⟩) 1 1, .slice (some ⟨gb + 1, 0, none⟩) 2 2]) (t := 51) (fr := (0, 0)) HBD.out) (by simp [Value.oneCell']) (by omega) (by unfold maxLen; omega) (by omega) hbase _ rfl ?_; intro g' cap w3 hown3 hgrow hat hlt; have HE2 := Lib.hid (HEND.out w3 g' cap hgrow hown3); clear hgrow hown3 hat hlt)
          go_roundw
          case rel => exact ⟨k + 1, _, _, by omega, by go_num, rfl, HE2⟩
          case measure => simp [intOf]; omega
        · obtain rfl : k = 64 := by omega
          have htk : (batM b i).take 64 = batM b i := List.take_of_length_le (by rw [batM_len]; omega)
          have hlf := HK.out.1
          rw [htk] at hlf
          have hl : Facts (Since wS wr) wr (.slice A 64 c) (batM b i) := Facts.of hlf.facts (Nat.le_refl _) fun j hj _ => ⟨⟨by have := HH0.out; have := hj.1; omega, hj.2⟩, rfl⟩
          have hap := a_append HI.out.1 HK.out.2 hl (by rw [BM_len]; omega) (many_chk hb (by omega))
          rw [BM_len, ← BM_succ] at hap
          have HAP := Lib.hid hap
          have HF : Hid (Fr (Ge B) w wr) := Lib.hid (HI.out.2.gno HK.out.2)
          clear htk hlf hl hap HLF
          go_wp2_with fail
          refine HAP.out.mono ?_
          rintro e w4 ⟨rfl, h4, f4⟩
          have HK4 : Hid (Kp w B s 1 2 (BM b (i + 1)) w4) := Lib.hid ⟨h4, HF.out.gt f4⟩
          clear h4 f4 HAP
          go_wp2
          go_roundw
          case rel => exact ⟨i + 1, by go_num, by omega, HK4⟩
          case measure => simp [intOf]; omega
    · obtain rfl : i = n := by omega
      have HEN := Lib.hid (many_end b i)
      have hsc := m_scan HI.out.1 0 (i : Nat)
      rw [(many_end b i).1] at hsc
      unfold ScanT at hsc
      rw [BM_flat_len] at hsc
      have HSC := Lib.hid hsc
      clear hsc
      go_wp2_with fail
      refine HSC.out.mono ?_
      rintro e w3 ⟨A, c, rfl, ht, f3⟩
      obtain ⟨n, hn⟩ : ∃ n, n = i := ⟨_, rfl⟩
      subst hn
      obtain ⟨N, hN⟩ : ∃ N, 64 * n = N := ⟨_, rfl⟩
      have HNN := Lib.hid hN
      rw [hN] at ht ⊢
      have hN2 : N ≤ 2000 := by omega
      have HTF := Lib.hid ht
      have HF3 : Hid (Fr (Ge B) w w3) := Lib.hid (HI.out.2.gno f3)
      have HK3 : Hid (St (Bel B) s 1 2 (BM b n) w3) := Lib.hid (HI.out.1.keep f3)
      clear ht f3 hN HSC
      have hget : ∀ i, i < N → fat (BM b n).flatten i = fM b i := fun i hi => by
        unfold fat
        rw [BM_flat, List.getD_eq_getElem?_getD, List.getElem?_map, List.getElem?_range (by have := HNN.out; omega)]; rfl
      have HGET := Lib.hid hget
      clear hget
      go_wp2
      go_loopw [14] (fun iv wz => ∃ i : Nat, i ≤ N ∧ iv = .int .i64 i ∧ Hid (Fr No w3 wz)) (fun iv _ => N - (intOf iv).toNat)
      case atStart => exact ⟨0, by omega, rfl, Lib.hid (Fr.refl _ _)⟩
      case round =>
        obtain ⟨i, hi2, rfl, HJ⟩ := hrel
        by_cases hlt2 : i < N
        · have htf := HTF.out.keep HJ.out
          obtain ⟨g, c', a, m, e1, k0, k1, k2, k3⟩ := TF.cell (i := i) htf (by rw [BM_flat_len]; have := HNN.out; omega)
          injection e1 with e1 e1b e1c
          subst e1
          clear e1b e1c
          obtain ⟨r, hr⟩ : ∃ r : Nat, i % 64 % 3 = r := ⟨_, rfl⟩
          obtain ⟨q64, hq64⟩ : ∃ q64 : Nat, i % 64 = q64 := ⟨_, rfl⟩
          have hr3 : r < 3 := by omega
          have k2' := k2 0 (by omega)
          have k30 := k3 0 (by omega)
          have k31 := k3 1 (by omega)
          rw [HGET.out i hlt2] at k2' k30 k31
          have et : (fM b i).dim 0 = b ++ [UInt8.ofNat (97 + r)] := by show tM b i = _; unfold tM; rw [hr]
          have e0 : (fM b i).mea 0 = (i : Int) := rfl
          have e2 : (fM b i).mea 1 = -(i : Int) := rfl
          rw [et] at k2'
          rw [e0] at k30
          rw [e2] at k31
          unfold encT at k2'
          have hbk := Blk.new wr 5 #[.int .u8 (97 + (r : Int))]
          have hcv := conv1 (wr.alloc (.cells #[.int .u8 (97 + (r : Int))] 5)).drew wr.heap.size r hr3 (hbk.of rfl)
          have hct := cat2 b [UInt8.ofNat (97 + r)] (by simp; omega)
          have HSS : Hid (∀ wx, Fr No wr wx → wx.cell? ⟨g, i * 2, none⟩ = some (.slice (some ⟨a, 0, none⟩) 1 1) ∧ wx.cell? ⟨g, i * 2 + 1, none⟩ = some (.slice (some ⟨m, 0, none⟩) 2 2) ∧ wx.cell? ⟨a, 0, none⟩ = some (.string ⟨(b ++ [UInt8.ofNat (97 + r)]).toArray⟩) ∧ wx.cell? ⟨m, 0, none⟩ = some (.int .i64 (i : Int)) ∧ wx.cell? ⟨m, 1, none⟩ = some (.int .i64 (-(i : Int)))) := Lib.hid fun wx fx => ⟨fx.cell_no k0, fx.cell_no k1, fx.cell_no k2', fx.cell_no k30, fx.cell_no k31⟩
          have r1 : (0 : Int) ≤ (i : Int) := by omega
          have r2 : (i : Int) < (N : Int) := by omega
          have r3 : (i : Int) % 64 = (q64 : Int) := by omega
          have r4 : (q64 : Int) % 3 = (r : Int) := by omega
          have r3' : (i : Int).tmod 64 = (q64 : Int) := by rw [Int.tmod_eq_emod_of_nonneg (by omega)]; exact r3
          have r4' : (q64 : Int).tmod 3 = (r : Int) := by rw [Int.tmod_eq_emod_of_nonneg (by omega)]; exact r4
          have r5 : IntKind.i64.wrap (97 + (r : Int)) = 97 + (r : Int) := by rw [IntKind.wrap_i64]; omega
          have r6 : IntKind.i64.wrap (-(i : Int)) = -(i : Int) := by rw [IntKind.wrap_i64]; omega
          have r7 : IntKind.u8.wrap (97 + (r : Int)) = 97 + (r : Int) := by
            have : (97 + (r : Int)) = ((97 + r : Nat) : Int) := by omega
            rw [this]
            simp [IntKind.wrap, IntKind.signed, IntKind.bits]
            omega
          have r8 : IntKind.i64.wrap (q64 : Int) = (q64 : Int) := by rw [IntKind.wrap_i64]; omega
          have r9 : IntKind.i64.wrap (r : Int) = (r : Int) := by rw [IntKind.wrap_i64]; omega
          clear htf k0 k1 k2 k3 k2' k30 k31 hbk et e0 e2 hr hq64
          generalize UInt8.ofNat (97 + r) = c8 at *
          obtain ⟨tz, htz⟩ : ∃ tz : ByteArray, (⟨(b ++ [c8]).toArray⟩ : ByteArray) = tz := ⟨_, rfl⟩
          rw [htz] at hct HSS
          clear htz
          go_upto_region 24 with fail
          refine wp_region_held_drew (S := fun w' => w'.cell? ⟨g, i * 2, none⟩ = some (.slice (some ⟨a, 0, none⟩) 1 1) ∧ w'.cell? ⟨g, i * 2 + 1, none⟩ = some (.slice (some ⟨m, 0, none⟩) 2 2) ∧ w'.cell? ⟨a, 0, none⟩ = some (.string tz) ∧ w'.cell? ⟨m, 0, none⟩ = some (.int .i64 (i : Int)) ∧ w'.cell? ⟨m, 1, none⟩ = some (.int .i64 (-(i : Int)))) (by kernel_rfl) (HSS.out _ (by (repeat (first | exact Fr.refl No _ | refine Fr.drew ?_ | refine Fr.alloc ?_ _)))) (fun hHeld => ?_)
          refine wpAnyH_take (i := 0) (oi := ({ dst := some 80, op := Go.Op.move (Go.Operand.tmp 13), type := 32, pos := "law.go:205", after := #[], guard := none } : Go.Oper)) (v := ?_) rfl (by kernel_rfl) (by kernel_rfl) (by kernel_rfl) (fun _ _ _ h => h) (Or.inl ⟨by rfl, ?_⟩) (by assumption) ?_
          rotate_left 1
          · intro w hSw; (try dsimp only at hSw); first | (go_simp; done) | (go_simp; with_reducible rfl)
          try simp only [Act.put, List.setIfInBounds_toArray, List.set_cons_zero, List.set_cons_succ]
          refine wpAnyH_take (i := 1) (oi := ({ dst := some 81, op := Go.Op.move (Go.Operand.tmp 14), type := 3, pos := "law.go:205", after := #[], guard := none } : Go.Oper)) (v := ?_) rfl (by kernel_rfl) (by kernel_rfl) (by kernel_rfl) (fun _ _ _ h => h) (Or.inl ⟨by rfl, ?_⟩) (by assumption) ?_
          rotate_left 1
          · intro w hSw; (try dsimp only at hSw); first | (go_simp; done) | (go_simp; with_reducible rfl)
          try simp only [Act.put, List.setIfInBounds_toArray, List.set_cons_zero, List.set_cons_succ]
          refine wpAnyH_take (i := 2) (oi := ({ dst := some 82, op := Go.Op.indexAddr 32 (Go.Operand.tmp 80) (Go.Operand.tmp 81), type := 0, pos := "law.go:205", after := #[{ on := 0, ground := Go.Ground.data }, { on := 1, ground := Go.Ground.data }], guard := none } : Go.Oper)) (v := ?_) rfl (by kernel_rfl) (by kernel_rfl) (by kernel_rfl) (fun _ _ _ h => h) (Or.inl ⟨by rfl, ?_⟩) (by assumption) ?_
          rotate_left 1
          · intro w hSw; (try dsimp only at hSw); first | (go_simp; done) | (go_simp; with_reducible rfl)
          try simp only [Act.put, List.setIfInBounds_toArray, List.set_cons_zero, List.set_cons_succ]
          refine wpAnyH_take (i := 3) (oi := ({ dst := some 83, op := Go.Op.fieldAddr 51 (Go.Operand.tmp 82) 1, type := 0, pos := "law.go:205", after := #[{ on := 2, ground := Go.Ground.data }], guard := none } : Go.Oper)) (v := ?_) rfl (by kernel_rfl) (by kernel_rfl) (by kernel_rfl) (fun _ _ _ h => h) (Or.inl ⟨by rfl, ?_⟩) (by assumption) ?_
          rotate_left 1
          · intro w hSw; (try dsimp only at hSw); first | (go_simp; done) | (go_simp; with_reducible rfl)
          try simp only [Act.put, List.setIfInBounds_toArray, List.set_cons_zero, List.set_cons_succ]
          refine wpAnyH_take (i := 4) (oi := ({ dst := some 84, op := Go.Op.load 49 (Go.Operand.tmp 83), type := 49, pos := "law.go:205", after := #[{ on := 3, ground := Go.Ground.data }], guard := none } : Go.Oper)) (v := ?_) rfl (by kernel_rfl) (by kernel_rfl) (by kernel_rfl) (fun _ _ _ h => h) (Or.inl ⟨by rfl, ?_⟩) (by assumption) ?_
          rotate_left 1
          · intro w hSw; (try dsimp only at hSw); first | (go_simp; done) | (go_simp; with_reducible rfl)
          try simp only [Act.put, List.setIfInBounds_toArray, List.set_cons_zero, List.set_cons_succ]
          refine wpAnyH_take (i := 5) (oi := ({ dst := some 85, op := Go.Op.indexAddr 49 (Go.Operand.tmp 84) (Go.Operand.const (Go.Value.int Go.IntKind.i64 0)), type := 0, pos := "law.go:205", after := #[{ on := 4, ground := Go.Ground.data }], guard := none } : Go.Oper)) (v := ?_) rfl (by kernel_rfl) (by kernel_rfl) (by kernel_rfl) (fun _ _ _ h => h) (Or.inl ⟨by rfl, ?_⟩) (by assumption) ?_
          rotate_left 1
          · intro w hSw; (try dsimp only at hSw); first | (go_simp; done) | (go_simp; with_reducible rfl)
          try simp only [Act.put, List.setIfInBounds_toArray, List.set_cons_zero, List.set_cons_succ]
          refine wpAnyH_take (i := 6) (oi := ({ dst := some 86, op := Go.Op.load 2 (Go.Operand.tmp 85), type := 2, pos := "law.go:205", after := #[{ on := 5, ground := Go.Ground.data }], guard := none } : Go.Oper)) (v := ?_) rfl (by kernel_rfl) (by kernel_rfl) (by kernel_rfl) (fun _ _ _ h => h) (Or.inl ⟨by rfl, ?_⟩) (by assumption) ?_
          rotate_left 1
          · intro w hSw; (try dsimp only at hSw); first | (go_simp; done) | (go_simp; with_reducible rfl)
          try simp only [Act.put, List.setIfInBounds_toArray, List.set_cons_zero, List.set_cons_succ]
          refine wpAnyH_take (i := 7) (oi := ({ dst := some 87, op := Go.Op.move (Go.Operand.tmp 14), type := 3, pos := "law.go:205", after := #[], guard := none } : Go.Oper)) (v := ?_) rfl (by kernel_rfl) (by kernel_rfl) (by kernel_rfl) (fun _ _ _ h => h) (Or.inl ⟨by rfl, ?_⟩) (by assumption) ?_
          rotate_left 1
          · intro w hSw; (try dsimp only at hSw); first | (go_simp; done) | (go_simp; with_reducible rfl)
          try simp only [Act.put, List.setIfInBounds_toArray, List.set_cons_zero, List.set_cons_succ]
          refine wpAnyH_take (i := 8) (oi := ({ dst := some 88, op := Go.Op.binOp Go.BinOp.neq 2 (Go.Operand.tmp 86) (Go.Operand.tmp 87) 2, type := 4, pos := "law.go:205", after := #[{ on := 6, ground := Go.Ground.data }, { on := 7, ground := Go.Ground.data }], guard := none } : Go.Oper)) (v := ?_) rfl (by kernel_rfl) (by kernel_rfl) (by kernel_rfl) (fun _ _ _ h => h) (Or.inl ⟨by rfl, ?_⟩) (by assumption) ?_
          rotate_left 1
          · intro w hSw; (try dsimp only at hSw); first | (go_simp; done) | (go_simp; with_reducible rfl)
          try simp only [Act.put, List.setIfInBounds_toArray, List.set_cons_zero, List.set_cons_succ]
          refine wpAnyH_take (i := 9) (oi := ({ dst := some 89, op := Go.Op.move (Go.Operand.tmp 88), type := 4, pos := "law.go:205", after := #[{ on := 8, ground := Go.Ground.data }], guard := none } : Go.Oper)) (v := ?_) rfl (by kernel_rfl) (by kernel_rfl) (by kernel_rfl) (fun _ _ _ h => h) (Or.inl ⟨by rfl, ?_⟩) (by assumption) ?_
          rotate_left 1
          · intro w hSw; (try dsimp only at hSw); first | (go_simp; done) | (go_simp; with_reducible rfl)
          try simp only [Act.put, List.setIfInBounds_toArray, List.set_cons_zero, List.set_cons_succ]
          refine wpAnyH_take (i := 10) (oi := ({ dst := some 90, op := Go.Op.move (Go.Operand.tmp 13), type := 32, pos := "law.go:205", after := #[{ on := 9, ground := Go.Ground.guard }], guard := some (9, false) } : Go.Oper)) (v := ?_) rfl (by kernel_rfl) (by kernel_rfl) (by kernel_rfl) (fun _ _ _ h => h) (Or.inl ⟨by rfl, ?_⟩) (by assumption) ?_
          rotate_left 1
          · intro w hSw; (try dsimp only at hSw); first | (go_simp; done) | (go_simp; with_reducible rfl)
          try simp only [Act.put, List.setIfInBounds_toArray, List.set_cons_zero, List.set_cons_succ]
          refine wpAnyH_take (i := 11) (oi := ({ dst := some 91, op := Go.Op.move (Go.Operand.tmp 14), type := 3, pos := "law.go:205", after := #[{ on := 9, ground := Go.Ground.guard }], guard := some (9, false) } : Go.Oper)) (v := ?_) rfl (by kernel_rfl) (by kernel_rfl) (by kernel_rfl) (fun _ _ _ h => h) (Or.inl ⟨by rfl, ?_⟩) (by assumption) ?_
          rotate_left 1
          · intro w hSw; (try dsimp only at hSw); first | (go_simp; done) | (go_simp; with_reducible rfl)
          try simp only [Act.put, List.setIfInBounds_toArray, List.set_cons_zero, List.set_cons_succ]
          refine wpAnyH_take (i := 12) (oi := ({ dst := some 92, op := Go.Op.indexAddr 32 (Go.Operand.tmp 90) (Go.Operand.tmp 91), type := 0, pos := "law.go:205", after := #[{ on := 10, ground := Go.Ground.data }, { on := 11, ground := Go.Ground.data }, { on := 9, ground := Go.Ground.guard }], guard := some (9, false) } : Go.Oper)) (v := ?_) rfl (by kernel_rfl) (by kernel_rfl) (by kernel_rfl) (fun _ _ _ h => h) (Or.inl ⟨by rfl, ?_⟩) (by assumption) ?_
          rotate_left 1
          · intro w hSw; (try dsimp only at hSw); first | (go_simp; done) | (go_simp; with_reducible rfl)
          try simp only [Act.put, List.setIfInBounds_toArray, List.set_cons_zero, List.set_cons_succ]
          refine wpAnyH_take (i := 13) (oi := ({ dst := some 93, op := Go.Op.fieldAddr 51 (Go.Operand.tmp 92) 1, type := 0, pos := "law.go:205", after := #[{ on := 12, ground := Go.Ground.data }, { on := 9, ground := Go.Ground.guard }], guard := some (9, false) } : Go.Oper)) (v := ?_) rfl (by kernel_rfl) (by kernel_rfl) (by kernel_rfl) (fun _ _ _ h => h) (Or.inl ⟨by rfl, ?_⟩) (by assumption) ?_
          rotate_left 1
          · intro w hSw; (try dsimp only at hSw); first | (go_simp; done) | (go_simp; with_reducible rfl)
          try simp only [Act.put, List.setIfInBounds_toArray, List.set_cons_zero, List.set_cons_succ]
          refine wpAnyH_take (i := 14) (oi := ({ dst := some 94, op := Go.Op.load 49 (Go.Operand.tmp 93), type := 49, pos := "law.go:205", after := #[{ on := 13, ground := Go.Ground.data }, { on := 9, ground := Go.Ground.guard }], guard := some (9, false) } : Go.Oper)) (v := ?_) rfl (by kernel_rfl) (by kernel_rfl) (by kernel_rfl) (fun _ _ _ h => h) (Or.inl ⟨by rfl, ?_⟩) (by assumption) ?_
          rotate_left 1
          · intro w hSw; (try dsimp only at hSw); first | (go_simp; done) | (go_simp; with_reducible rfl)
          try simp only [Act.put, List.setIfInBounds_toArray, List.set_cons_zero, List.set_cons_succ]
          refine wpAnyH_take (i := 15) (oi := ({ dst := some 95, op := Go.Op.indexAddr 49 (Go.Operand.tmp 94) (Go.Operand.const (Go.Value.int Go.IntKind.i64 1)), type := 0, pos := "law.go:205", after := #[{ on := 14, ground := Go.Ground.data }, { on := 9, ground := Go.Ground.guard }], guard := some (9, false) } : Go.Oper)) (v := ?_) rfl (by kernel_rfl) (by kernel_rfl) (by kernel_rfl) (fun _ _ _ h => h) (Or.inl ⟨by rfl, ?_⟩) (by assumption) ?_
          rotate_left 1
          · intro w hSw; (try dsimp only at hSw); first | (go_simp; done) | (go_simp; with_reducible rfl)
          try simp only [Act.put, List.setIfInBounds_toArray, List.set_cons_zero, List.set_cons_succ]
          refine wpAnyH_take (i := 16) (oi := ({ dst := some 96, op := Go.Op.load 2 (Go.Operand.tmp 95), type := 2, pos := "law.go:205", after := #[{ on := 15, ground := Go.Ground.data }, { on := 9, ground := Go.Ground.guard }], guard := some (9, false) } : Go.Oper)) (v := ?_) rfl (by kernel_rfl) (by kernel_rfl) (by kernel_rfl) (fun _ _ _ h => h) (Or.inl ⟨by rfl, ?_⟩) (by assumption) ?_
          rotate_left 1
          · intro w hSw; (try dsimp only at hSw); first | (go_simp; done) | (go_simp; with_reducible rfl)
          try simp only [Act.put, List.setIfInBounds_toArray, List.set_cons_zero, List.set_cons_succ]
          refine wpAnyH_take (i := 17) (oi := ({ dst := some 97, op := Go.Op.move (Go.Operand.tmp 14), type := 3, pos := "law.go:205", after := #[{ on := 9, ground := Go.Ground.guard }], guard := some (9, false) } : Go.Oper)) (v := ?_) rfl (by kernel_rfl) (by kernel_rfl) (by kernel_rfl) (fun _ _ _ h => h) (Or.inl ⟨by rfl, ?_⟩) (by assumption) ?_
          rotate_left 1
          · intro w hSw; (try dsimp only at hSw); first | (go_simp; done) | (go_simp; with_reducible rfl)
          try simp only [Act.put, List.setIfInBounds_toArray, List.set_cons_zero, List.set_cons_succ]
          refine wpAnyH_take (i := 18) (oi := ({ dst := some 98, op := Go.Op.unOp Go.UnOp.neg 2 (Go.Operand.tmp 97), type := 2, pos := "law.go:205", after := #[{ on := 17, ground := Go.Ground.data }, { on := 9, ground := Go.Ground.guard }], guard := some (9, false) } : Go.Oper)) (v := ?_) rfl (by kernel_rfl) (by kernel_rfl) (by kernel_rfl) (fun _ _ _ h => h) (Or.inl ⟨by rfl, ?_⟩) (by assumption) ?_
          rotate_left 1
          · intro w hSw; (try dsimp only at hSw); first | (go_simp; done) | (go_simp; with_reducible rfl)
          try simp only [Act.put, List.setIfInBounds_toArray, List.set_cons_zero, List.set_cons_succ]
          refine wpAnyH_take (i := 19) (oi := ({ dst := some 99, op := Go.Op.binOp Go.BinOp.neq 2 (Go.Operand.tmp 96) (Go.Operand.tmp 98) 2, type := 4, pos := "law.go:205", after := #[{ on := 16, ground := Go.Ground.data }, { on := 18, ground := Go.Ground.data }, { on := 9, ground := Go.Ground.guard }], guard := some (9, false) } : Go.Oper)) (v := ?_) rfl (by kernel_rfl) (by kernel_rfl) (by kernel_rfl) (fun _ _ _ h => h) (Or.inl ⟨by rfl, ?_⟩) (by assumption) ?_
          rotate_left 1
          · intro w hSw; (try dsimp only at hSw); first | (go_simp; done) | (go_simp; with_reducible rfl)
          try simp only [Act.put, List.setIfInBounds_toArray, List.set_cons_zero, List.set_cons_succ]
          refine wpAnyH_take (i := 20) (oi := ({ dst := some 100, op := Go.Op.pick (Go.Operand.tmp 89) (Go.Operand.const (Go.Value.bool true)) (Go.Operand.tmp 99), type := 4, pos := "law.go:205", after := #[{ on := 9, ground := Go.Ground.data }, { on := 19, ground := Go.Ground.data }], guard := none } : Go.Oper)) (v := ?_) rfl (by kernel_rfl) (by kernel_rfl) (by kernel_rfl) (fun _ _ _ h => h) (Or.inl ⟨by rfl, ?_⟩) (by assumption) ?_
          rotate_left 1
          · intro w hSw; (try dsimp only at hSw); first | (go_simp; done) | (go_simp; with_reducible rfl)
          try simp only [Act.put, List.setIfInBounds_toArray, List.set_cons_zero, List.set_cons_succ]
          refine wpAnyH_take (i := 21) (oi := ({ dst := some 101, op := Go.Op.move (Go.Operand.tmp 100), type := 4, pos := "law.go:205", after := #[{ on := 20, ground := Go.Ground.data }, { on := 9, ground := Go.Ground.chain }], guard := none } : Go.Oper)) (v := ?_) rfl (by kernel_rfl) (by kernel_rfl) (by kernel_rfl) (fun _ _ _ h => h) (Or.inl ⟨by rfl, ?_⟩) (by assumption) ?_
          rotate_left 1
          · intro w hSw; (try dsimp only at hSw); first | (go_simp; done) | (go_simp; with_reducible rfl)
          try simp only [Act.put, List.setIfInBounds_toArray, List.set_cons_zero, List.set_cons_succ]
          refine wpAnyH_take (i := 22) (oi := ({ dst := some 102, op := Go.Op.move (Go.Operand.tmp 13), type := 32, pos := "law.go:205", after := #[{ on := 21, ground := Go.Ground.guard }], guard := some (21, false) } : Go.Oper)) (v := ?_) rfl (by kernel_rfl) (by kernel_rfl) (by kernel_rfl) (fun _ _ _ h => h) (Or.inl ⟨by rfl, ?_⟩) (by assumption) ?_
          rotate_left 1
          · intro w hSw; (try dsimp only at hSw); first | (go_simp; done) | (go_simp; with_reducible rfl)
          try simp only [Act.put, List.setIfInBounds_toArray, List.set_cons_zero, List.set_cons_succ]
          refine wpAnyH_take (i := 23) (oi := ({ dst := some 103, op := Go.Op.move (Go.Operand.tmp 14), type := 3, pos := "law.go:205", after := #[{ on := 21, ground := Go.Ground.guard }], guard := some (21, false) } : Go.Oper)) (v := ?_) rfl (by kernel_rfl) (by kernel_rfl) (by kernel_rfl) (fun _ _ _ h => h) (Or.inl ⟨by rfl, ?_⟩) (by assumption) ?_
          rotate_left 1
          · intro w hSw; (try dsimp only at hSw); first | (go_simp; done) | (go_simp; with_reducible rfl)
          try simp only [Act.put, List.setIfInBounds_toArray, List.set_cons_zero, List.set_cons_succ]
          refine wpAnyH_take (i := 24) (oi := ({ dst := some 104, op := Go.Op.indexAddr 32 (Go.Operand.tmp 102) (Go.Operand.tmp 103), type := 0, pos := "law.go:205", after := #[{ on := 22, ground := Go.Ground.data }, { on := 23, ground := Go.Ground.data }, { on := 21, ground := Go.Ground.guard }], guard := some (21, false) } : Go.Oper)) (v := ?_) rfl (by kernel_rfl) (by kernel_rfl) (by kernel_rfl) (fun _ _ _ h => h) (Or.inl ⟨by rfl, ?_⟩) (by assumption) ?_
          rotate_left 1
          · intro w hSw; (try dsimp only at hSw); first | (go_simp; done) | (go_simp; with_reducible rfl)
          try simp only [Act.put, List.setIfInBounds_toArray, List.set_cons_zero, List.set_cons_succ]
          refine wpAnyH_take (i := 25) (oi := ({ dst := some 105, op := Go.Op.fieldAddr 51 (Go.Operand.tmp 104) 0, type := 0, pos := "law.go:205", after := #[{ on := 24, ground := Go.Ground.data }, { on := 21, ground := Go.Ground.guard }], guard := some (21, false) } : Go.Oper)) (v := ?_) rfl (by kernel_rfl) (by kernel_rfl) (by kernel_rfl) (fun _ _ _ h => h) (Or.inl ⟨by rfl, ?_⟩) (by assumption) ?_
          rotate_left 1
          · intro w hSw; (try dsimp only at hSw); first | (go_simp; done) | (go_simp; with_reducible rfl)
          try simp only [Act.put, List.setIfInBounds_toArray, List.set_cons_zero, List.set_cons_succ]
          refine wpAnyH_take (i := 26) (oi := ({ dst := some 106, op := Go.Op.load 48 (Go.Operand.tmp 105), type := 48, pos := "law.go:205", after := #[{ on := 25, ground := Go.Ground.data }, { on := 21, ground := Go.Ground.guard }], guard := some (21, false) } : Go.Oper)) (v := ?_) rfl (by kernel_rfl) (by kernel_rfl) (by kernel_rfl) (fun _ _ _ h => h) (Or.inl ⟨by rfl, ?_⟩) (by assumption) ?_
          rotate_left 1
          · intro w hSw; (try dsimp only at hSw); first | (go_simp; done) | (go_simp; with_reducible rfl)
          try simp only [Act.put, List.setIfInBounds_toArray, List.set_cons_zero, List.set_cons_succ]
          refine wpAnyH_take (i := 27) (oi := ({ dst := some 107, op := Go.Op.indexAddr 48 (Go.Operand.tmp 106) (Go.Operand.const (Go.Value.int Go.IntKind.i64 0)), type := 0, pos := "law.go:205", after := #[{ on := 26, ground := Go.Ground.data }, { on := 21, ground := Go.Ground.guard }], guard := some (21, false) } : Go.Oper)) (v := ?_) rfl (by kernel_rfl) (by kernel_rfl) (by kernel_rfl) (fun _ _ _ h => h) (Or.inl ⟨by rfl, ?_⟩) (by assumption) ?_
          rotate_left 1
          · intro w hSw; (try dsimp only at hSw); first | (go_simp; done) | (go_simp; with_reducible rfl)
          try simp only [Act.put, List.setIfInBounds_toArray, List.set_cons_zero, List.set_cons_succ]
          refine wpAnyH_take (i := 28) (oi := ({ dst := some 108, op := Go.Op.load 9 (Go.Operand.tmp 107), type := 9, pos := "law.go:205", after := #[{ on := 27, ground := Go.Ground.data }, { on := 21, ground := Go.Ground.guard }], guard := some (21, false) } : Go.Oper)) (v := ?_) rfl (by kernel_rfl) (by kernel_rfl) (by kernel_rfl) (fun _ _ _ h => h) (Or.inl ⟨by rfl, ?_⟩) (by assumption) ?_
          rotate_left 1
          · intro w hSw; (try dsimp only at hSw); first | (go_simp; done) | (go_simp; with_reducible rfl)
          try simp only [Act.put, List.setIfInBounds_toArray, List.set_cons_zero, List.set_cons_succ]
          refine wpAnyH_take (i := 29) (oi := ({ dst := some 109, op := Go.Op.move (Go.Operand.tmp 1), type := 9, pos := "law.go:205", after := #[{ on := 21, ground := Go.Ground.guard }], guard := some (21, false) } : Go.Oper)) (v := ?_) rfl (by kernel_rfl) (by kernel_rfl) (by kernel_rfl) (fun _ _ _ h => h) (Or.inl ⟨by rfl, ?_⟩) (by assumption) ?_
          rotate_left 1
          · intro w hSw; (try dsimp only at hSw); first | (go_simp; done) | (go_simp; with_reducible rfl)
          try simp only [Act.put, List.setIfInBounds_toArray, List.set_cons_zero, List.set_cons_succ]
          refine wpAnyH_take (i := 30) (oi := ({ dst := some 110, op := Go.Op.move (Go.Operand.tmp 14), type := 3, pos := "law.go:205", after := #[{ on := 21, ground := Go.Ground.guard }], guard := some (21, false) } : Go.Oper)) (v := ?_) rfl (by kernel_rfl) (by kernel_rfl) (by kernel_rfl) (fun _ _ _ h => h) (Or.inl ⟨by rfl, ?_⟩) (by assumption) ?_
          rotate_left 1
          · intro w hSw; (try dsimp only at hSw); first | (go_simp; done) | (go_simp; with_reducible rfl)
          try simp only [Act.put, List.setIfInBounds_toArray, List.set_cons_zero, List.set_cons_succ]
          refine wpAnyH_take (i := 31) (oi := ({ dst := some 111, op := Go.Op.binOp Go.BinOp.rem 3 (Go.Operand.tmp 110) (Go.Operand.const (Go.Value.int Go.IntKind.i64 64)) 3, type := 3, pos := "law.go:205", after := #[{ on := 30, ground := Go.Ground.data }, { on := 21, ground := Go.Ground.guard }], guard := some (21, false) } : Go.Oper)) (v := ?_) rfl (by kernel_rfl) (by kernel_rfl) (by kernel_rfl) (fun _ _ _ h => h) (Or.inl ⟨by rfl, ?_⟩) (by assumption) ?_
          rotate_left 1
          · intro w hSw; (try dsimp only at hSw); first | (go_simp; done) | (go_simp; with_reducible rfl)
          try simp only [Act.put, List.setIfInBounds_toArray, List.set_cons_zero, List.set_cons_succ]
          refine wpAnyH_take (i := 32) (oi := ({ dst := some 112, op := Go.Op.binOp Go.BinOp.rem 3 (Go.Operand.tmp 111) (Go.Operand.const (Go.Value.int Go.IntKind.i64 3)) 3, type := 3, pos := "law.go:205", after := #[{ on := 31, ground := Go.Ground.data }, { on := 21, ground := Go.Ground.guard }], guard := some (21, false) } : Go.Oper)) (v := ?_) rfl (by kernel_rfl) (by kernel_rfl) (by kernel_rfl) (fun _ _ _ h => h) (Or.inl ⟨by rfl, ?_⟩) (by assumption) ?_
          rotate_left 1
          · intro w hSw; (try dsimp only at hSw); first | (go_simp; done) | (go_simp; with_reducible rfl)
          try simp only [Act.put, List.setIfInBounds_toArray, List.set_cons_zero, List.set_cons_succ]
          refine wpAnyH_take (i := 33) (oi := ({ dst := some 113, op := Go.Op.binOp Go.BinOp.add 3 (Go.Operand.const (Go.Value.int Go.IntKind.i64 97)) (Go.Operand.tmp 112) 3, type := 3, pos := "law.go:205", after := #[{ on := 32, ground := Go.Ground.data }, { on := 21, ground := Go.Ground.guard }], guard := some (21, false) } : Go.Oper)) (v := ?_) rfl (by kernel_rfl) (by kernel_rfl) (by kernel_rfl) (fun _ _ _ h => h) (Or.inl ⟨by rfl, ?_⟩) (by assumption) ?_
          rotate_left 1
          · intro w hSw; (try dsimp only at hSw); first | (go_simp; done) | (go_simp; with_reducible rfl)
          try simp only [Act.put, List.setIfInBounds_toArray, List.set_cons_zero, List.set_cons_succ]
          refine wpAnyH_take (i := 34) (oi := ({ dst := some 114, op := Go.Op.convert 3 5 (Go.Operand.tmp 113), type := 5, pos := "law.go:205", after := #[{ on := 33, ground := Go.Ground.data }, { on := 21, ground := Go.Ground.guard }], guard := some (21, false) } : Go.Oper)) (v := ?_) rfl (by kernel_rfl) (by kernel_rfl) (by kernel_rfl) (fun _ _ _ h => h) (Or.inl ⟨by rfl, ?_⟩) (by assumption) ?_
          rotate_left 1
          · intro w hSw; (try dsimp only at hSw); first | (go_simp; done) | (go_simp; with_reducible rfl)
          try simp only [Act.put, List.setIfInBounds_toArray, List.set_cons_zero, List.set_cons_succ]
          refine wpAnyH_ready (rs := [35]) (by kernel_rfl) (by simp) ?_
          refine AllReadyH.cons (o := ({ dst := some 115, op := Go.Op.buildSlice 47 1 #[(0, Go.Operand.tmp 114)], type := 47, pos := "law.go:205", after := #[{ on := 34, ground := Go.Ground.data }, { on := 21, ground := Go.Ground.guard }], guard := some (21, false) } : Go.Oper)) rfl (fun K hK => ?_) AllReadyH.nil
          go_simp
          refine hK.out _ _ (HSS.out _ (by (repeat (first | exact Fr.refl No _ | refine Fr.drew ?_ | refine Fr.alloc ?_ _)))) (fun hHeld1 => ?_)
          clear hK K
          try simp only [Act.put, List.setIfInBounds_toArray, List.set_cons_zero, List.set_cons_succ]
          refine wpAnyH_ready (rs := [36]) (by kernel_rfl) (by simp) ?_
          refine AllReadyH.cons (o := ({ dst := some 116, op := Go.Op.convert 47 9 (Go.Operand.tmp 115), type := 9, pos := "law.go:205", after := #[{ on := 35, ground := Go.Ground.data }, { on := 21, ground := Go.Ground.guard }], guard := some (21, false) } : Go.Oper)) rfl (fun K hK => ?_) AllReadyH.nil
          go_simp
          refine hK.out _ _ (HSS.out _ (by (repeat (first | exact Fr.refl No _ | refine Fr.drew ?_ | refine Fr.alloc ?_ _)))) (fun hHeld2 => ?_)
          clear hK K
          try simp only [Act.put, List.setIfInBounds_toArray, List.set_cons_zero, List.set_cons_succ]
          refine wpAnyH_take (i := 37) (oi := ({ dst := some 117, op := Go.Op.binOp Go.BinOp.add 9 (Go.Operand.tmp 109) (Go.Operand.tmp 116) 9, type := 9, pos := "law.go:205", after := #[{ on := 29, ground := Go.Ground.data }, { on := 36, ground := Go.Ground.data }, { on := 21, ground := Go.Ground.guard }], guard := some (21, false) } : Go.Oper)) (v := ?_) rfl (by kernel_rfl) (by kernel_rfl) (by kernel_rfl) (fun _ _ _ h => h) (Or.inl ⟨by rfl, ?_⟩) (by assumption) ?_
          rotate_left 1
          · intro w hSw; (try dsimp only at hSw); first | (go_simp; done) | (go_simp; with_reducible rfl)
          try simp only [Act.put, List.setIfInBounds_toArray, List.set_cons_zero, List.set_cons_succ]
          refine wpAnyH_take (i := 38) (oi := ({ dst := some 118, op := Go.Op.binOp Go.BinOp.neq 9 (Go.Operand.tmp 108) (Go.Operand.tmp 117) 9, type := 4, pos := "law.go:205", after := #[{ on := 28, ground := Go.Ground.data }, { on := 37, ground := Go.Ground.data }, { on := 21, ground := Go.Ground.guard }], guard := some (21, false) } : Go.Oper)) (v := ?_) rfl (by kernel_rfl) (by kernel_rfl) (by kernel_rfl) (fun _ _ _ h => h) (Or.inl ⟨by rfl, ?_⟩) (by assumption) ?_
          rotate_left 1
          · intro w hSw; (try dsimp only at hSw); first | (go_simp; done) | (go_simp; with_reducible rfl)
          try simp only [Act.put, List.setIfInBounds_toArray, List.set_cons_zero, List.set_cons_succ]
          refine wpAnyH_take (i := 39) (oi := ({ dst := some 119, op := Go.Op.pick (Go.Operand.tmp 101) (Go.Operand.const (Go.Value.bool true)) (Go.Operand.tmp 118), type := 4, pos := "law.go:205", after := #[{ on := 21, ground := Go.Ground.data }, { on := 38, ground := Go.Ground.data }], guard := none } : Go.Oper)) (v := ?_) rfl (by kernel_rfl) (by kernel_rfl) (by kernel_rfl) (fun _ _ _ h => h) (Or.inl ⟨by rfl, ?_⟩) (by assumption) ?_
          rotate_left 1
          · intro w hSw; (try dsimp only at hSw); first | (go_simp; done) | (go_simp; with_reducible rfl)
          try simp only [Act.put, List.setIfInBounds_toArray, List.set_cons_zero, List.set_cons_succ]
          refine wpAnyH_done (by kernel_rfl) ?_ _
          have HJ2 : Hid (Fr No w3 (wr.alloc (.cells #[.int .u8 (97 + (r : Int))] 5)).drew) := Lib.hid ((HJ.out.alloc _).drew)
          clear hcv hct r3 r4 r3' r4' r5 r6 r7 r8 r9
          go_wp2
          go_roundw
          case rel => exact ⟨i + 1, by omega, by go_num, HJ2⟩
          case measure => simp [intOf]; omega
        · obtain rfl : i = N := by omega
          obtain ⟨sg, hsg⟩ : ∃ sg, (i + 255) / 256 = sg := ⟨_, rfl⟩
          have hseg : ((i : Int) + 255) / 256 = (sg : Int) := by omega
          have hNI : 64 * (n : Int) = (i : Int) := by have := HNN.out; omega
          obtain ⟨mm, hmm⟩ : ∃ mm, 22 * n = mm := ⟨_, rfl⟩
          have hMI : 22 * (n : Int) = (mm : Int) := by omega
          have HST := Lib.hid (HK3.out.keep HJ.out)
          have hsq := m_segments HST.out
          rw [BM_flat_len, HNN.out, hsg] at hsq
          have HSQ := Lib.hid hsq
          have hvl := m_values HST.out 0 (by omega)
          have HVL := Lib.hid hvl
          have hmt := m_match HST.out 0 (by omega) (b ++ [97]) (by simp; unfold maxLen; omega) (n : Nat)
          rw [HEN.out.2, hmm] at hmt
          unfold encT at hmt
          have HMT := Lib.hid hmt
          have HC1 := Lib.hid (cat2 b [97] (by simp; omega))
          have HFE : Hid (Fr (Ge B) w wr) := Lib.hid (HF3.out.gno HJ.out)
          have HNN2 := Lib.hid hsg
          clear hsq hvl hmt hsg hmm
          by_cases hn0 : 0 < n
          · have HV2 : Hid (Calls Try.prog 25 #[.pointer (some ⟨s, 0, none⟩), .int .i64 0] wr fun e w' => e = .returned (.int .i64 3) ∧ wr = w') := Lib.hid (by
              have h := HVL.out
              rw [many_vals b hn0] at h
              exact h)
            have hcat := HC1.out
            go_wp2_with fail
            refine HSQ.out.mono ?_
            rintro e w' ⟨rfl, rfl⟩
            go_wp2_with fail
            refine HV2.out.mono ?_
            rintro e w' ⟨rfl, rfl⟩
            go_wp2_with fail
            refine HMT.out.mono ?_
            rintro e w7 ⟨rfl, f7⟩
            have HF8 : Hid (Fr (Ge B) w w7) := Lib.hid (HFE.out.gno f7)
            clear f7
            go_wp2
            go_ret
            exact ⟨rfl, HF8.out.gbel HB.out⟩
          · obtain rfl : n = 0 := by omega
            obtain rfl : mm = 0 := by omega
            have HV2 : Hid (Calls Try.prog 25 #[.pointer (some ⟨s, 0, none⟩), .int .i64 0] wr fun e w' => e = .returned (.int .i64 0) ∧ wr = w') := HVL
            have hcat := HC1.out
            go_wp2_with fail
            refine HSQ.out.mono ?_
            rintro e w' ⟨rfl, rfl⟩
            go_wp2_with fail
            refine HV2.out.mono ?_
            rintro e w' ⟨rfl, rfl⟩
            go_wp2_with fail
            refine HMT.out.mono ?_
            rintro e w7 ⟨rfl, f7⟩
            have HF8 : Hid (Fr (Ge B) w w7) := Lib.hid (HFE.out.gno f7)
            clear f7
            go_wp2
            go_ret
            exact ⟨rfl, HF8.out.gbel HB.out⟩
end Go.Proofs.Ytmaeejojmbibnaa
