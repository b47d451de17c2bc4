/- AccumParts, walked. -/
import Derived.Test.YtgjpdagbbljmpaaE2
import Derived.Test.YtgjpdagbbljmpaaB11
import Derived.Deep.RegionWith
import Derived.Deep.RegionHeld3
namespace Go.Proofs.Ytgjpdagbbljmpaa
open Go.RowKit Go.Maps Go.Sort
set_option linter.unusedVariables false

theorem Blk.new_drew (w : World) (t : TypeId) (cs : Array Value) : Blk (w.alloc (.cells cs t)).drew w.heap.size t cs := Blk.new w t cs
theorem AO.set2 {w : World} {n : Int} {v : Value} {P : List (Int × Int)} {z o o' : Nat} {cs : Array Value} (h : AO w n v P) (hz : Blk w z 53 cs) (u u' : Value) : AO ((w.setCell ⟨z, o, none⟩ u).setCell ⟨z, o', none⟩ u') n v P :=
  (h.set hz (by decide) u).set (hz.set_ o u) (by decide) u'
set_option maxRecDepth 100000 in
set_option maxHeartbeats 4000000 in
theorem parts_law {K K2 : Nat → Prop} (ps : List (Int × Int)) (ks : List Int) (v kv : Value) (w : World) (h : RowE K w 2 (pairG K w) v ps) (hk : RowE K2 w 1 (intG K2 w) kv ks) : Calls Try.prog 8 #[v, kv] w (TellsB true w) := by
  obtain ⟨A, ca, rfl, -, hca, hok, hat⟩ := row_pair h
  obtain ⟨B, cb, rfl, -, hcb, hbt⟩ := row_int hk
  obtain ⟨N, hN⟩ : ∃ N, ps.length = N := ⟨_, rfl⟩
  obtain ⟨M, hM⟩ : ∃ M, ks.length = M := ⟨_, rfl⟩
  have HAT : Hid (∀ w', Fr No w w' → ∀ j (hj : j < ps.length), ∃ g off, A = some ⟨g, off, none⟩ ∧ w'.cell? ⟨g, off + j * 2, none⟩ = some (.int .i64 ps[j].1) ∧ w'.cell? ⟨g, off + j * 2 + 1, none⟩ = some (.int .i64 ps[j].2)) := Lib.hid fun w' f j hj => by
    obtain ⟨g, off, e, hg, h1, h2⟩ := hat j hj
    exact ⟨g, off, e, (cell_of_heap (f.block g hg id)).trans h1, (cell_of_heap (f.block g hg id)).trans h2⟩
  have HBT : Hid (∀ w', Fr No w w' → ∀ j (hj : j < ks.length), ∃ g off, B = some ⟨g, off, none⟩ ∧ w'.cell? ⟨g, off + j, none⟩ = some (.int .i64 ks[j]) ∧ i64 ks[j]) := Lib.hid fun w' f j hj => by
    obtain ⟨g, off, e, hg, h1, h2⟩ := hbt j hj
    exact ⟨g, off, e, (cell_of_heap (f.block g hg id)).trans h1, h2⟩
  have HOK := Lib.hid hok
  have HN := Lib.hid hN
  have HM := Lib.hid hM
  have hNb : N ≤ 9223372036854775807 := by have := (row_form h); obtain ⟨a, n, c, e, h1⟩ := this; obtain ⟨a', c', e', h2, h3, -⟩ := row_pair h; unfold maxLen at h3; omega
  rw [hN, hM]
  clear h hk hca hcb hok hat hbt hN hM
  go_enter Try.func8, Try.ntmps8
  go_upto_region 2 with (go_at_call 10; refine (awake_any _).mono ?_; rintro e w1 ⟨rfl, f1⟩; have HF1 := Lib.hid f1; clear f1)
  go_upto_region 3 with (go_at_call 27; refine (new_ao _).mono ?_; rintro e w2 ⟨n0, A0, d0, rfl, ha, f2⟩; have HA2 := Lib.hid ha; have HF2 := Lib.hid (HF1.out.trans f2 fun _ _ h => h); clear ha f2)
  obtain ⟨y, hy⟩ : ∃ y, w2.heap.size = y := ⟨_, rfl⟩
  obtain ⟨w3, hw3⟩ : ∃ wa, w2.alloc (.cells #[.int .i64 n0, .slice A0 2 d0] 39) = wa := ⟨_, rfl⟩
  rw [hw3, hy]
  have HY3 : Hid (Blk w3 y 39 #[.int .i64 n0, .slice A0 2 d0]) := Lib.hid (by rw [← hw3, ← hy]; exact Blk.new w2 39 _)
  have HF23 : Hid (Fr No w2 w3) := Lib.hid (by rw [← hw3]; exact (Fr.refl No w2).alloc _)
  have HF3 : Hid (Fr No w w3) := Lib.hid (HF2.out.trans HF23.out fun _ _ h => h)
  have HYN : Hid (w.heap.size ≤ y) := Lib.hid (by rw [← hy]; exact HF2.out.size)
  have HA3 : Hid (AO w3 n0 (.slice A0 2 d0) []) := Lib.hid (HA2.out.no HF23.out)
  obtain ⟨z, hz⟩ : ∃ z, w3.heap.size = z := ⟨_, rfl⟩
  obtain ⟨w4, hw4⟩ : ∃ wa, w3.alloc (.cells (quad 0 0 0 0 (.slice none 0 0) (.slice none 0 0) (.slice none 0 0) (.slice none 0 0)) 53) = wa := ⟨_, rfl⟩
  have HZ4 : Hid (Blk w4 z 53 (quad 0 0 0 0 (.slice none 0 0) (.slice none 0 0) (.slice none 0 0) (.slice none 0 0))) := Lib.hid (by rw [← hw4, ← hz]; exact Blk.new w3 53 _)
  have HF34 : Hid (Fr No w3 w4) := Lib.hid (by rw [← hw4]; exact (Fr.refl No w3).alloc _)
  have HF4 : Hid (Fr No w w4) := Lib.hid (HF3.out.trans HF34.out fun _ _ h => h)
  have HZN : Hid (w.heap.size ≤ z ∧ y ≠ z) := Lib.hid ⟨by rw [← hz]; exact HF3.out.size, by have := HY3.out.lt; omega⟩
  have HY4 : Hid (Blk w4 y 39 #[.int .i64 n0, .slice A0 2 d0] ∧ AO w4 n0 (.slice A0 2 d0) []) := Lib.hid ⟨HY3.out.no HF34.out, HA3.out.no HF34.out⟩
  have HW4 := Lib.hid hw4
  have HZS := Lib.hid hz
  clear hy hw3 hz hw4 HA2 HF2 HF1 HF23 HA3 HY3 HF3 HF34
  go_upto_region 4 with fail
  rw [HW4.out, HZS.out]
  go_wp2_with fail
  go_loopg [8] 4 (fun k r8 wr => Hid (∃ (j : Nat) (m0 m1 m2 m3 : Int) (v0 v1 v2 v3 : Value), r8 = .int .i64 (j : Nat) ∧ j + k = 4 ∧ Blk wr z 53 (quad m0 m1 m2 m3 v0 v1 v2 v3) ∧ (0 < j → AO wr m0 v0 []) ∧ (1 < j → AO wr m1 v1 []) ∧ (2 < j → AO wr m2 v2 []) ∧ (3 < j → AO wr m3 v3 []) ∧
    Blk wr y 39 #[.int .i64 n0, .slice A0 2 d0] ∧ AO wr n0 (.slice A0 2 d0) [] ∧ Fr No w wr))
  case atStart => exact Lib.hid ⟨0, 0, 0, 0, 0, _, _, _, _, rfl, rfl, HZ4.out, by omega, by omega, by omega, by omega, HY4.out.1, HY4.out.2, HF4.out⟩
  case round =>
  obtain ⟨j, m0, m1, m2, m3, v0, v1, v2, v3, rfl, hjk, hb, h0, h1, h2, h3, hy, ha, hf⟩ := hrel.out
  clear hrel
  have HB := Lib.hid hb
  have H0 := Lib.hid h0
  have H1 := Lib.hid h1
  have H2 := Lib.hid h2
  have H3 := Lib.hid h3
  have HY := Lib.hid hy
  have HA := Lib.hid ha
  have HF := Lib.hid hf
  clear hb h0 h1 h2 h3 hy ha hf
  have hj4 : j = 0 ∨ j = 1 ∨ j = 2 ∨ j = 3 ∨ j = 4 := by omega
  rcases hj4 with rfl | rfl | rfl | rfl | rfl
  · go_upto_region 6 with (go_at_call 27; refine (new_ao _).mono ?_; rintro e wn ⟨nn, An, dn, rfl, han, fn⟩; have HAN := Lib.hid han; have HFN := Lib.hid fn; clear han fn; obtain ⟨⟨c0, c1, c2, c3, c4, c5, c6, c7⟩, z0, z1, z2, z3, z4, z5, z6, z7⟩ := blk8 (HB.out.no HFN.out))
    clear c0 c1 c2 c3 c4 c5 c6 c7 z0 z1 z2 z3 z4 z5 z6 z7
    go_wp2_with fail
    obtain ⟨g1, rfl⟩ : ∃ g1, gk = g1 + 1 := ⟨gk - 1, by omega⟩
    go_roundg g1
    case rel =>
      have hbn := HB.out.no HFN.out
      exact Lib.hid ⟨1, nn, m1, m2, m3, .slice An 2 dn, v1, v2, v3, by first | rfl | go_num, by omega, (hbn.set_ 0 _).set_ 1 _, fun _ => HAN.out.set2 hbn _ _, fun h => absurd h (by omega), fun h => absurd h (by omega), fun h => absurd h (by omega), ((HY.out.no HFN.out).set_other HZN.out.2 _).set_other HZN.out.2 _, (HA.out.no HFN.out).set2 hbn _ _, ((HF.out.trans HFN.out fun _ _ h => h).set_new HZN.out.1 _).set_new HZN.out.1 _⟩
    all_goals omega
  · go_upto_region 6 with (go_at_call 27; refine (new_ao _).mono ?_; rintro e wn ⟨nn, An, dn, rfl, han, fn⟩; have HAN := Lib.hid han; have HFN := Lib.hid fn; clear han fn; obtain ⟨⟨c0, c1, c2, c3, c4, c5, c6, c7⟩, z0, z1, z2, z3, z4, z5, z6, z7⟩ := blk8 (HB.out.no HFN.out))
    clear c0 c1 c2 c3 c4 c5 c6 c7 z0 z1 z2 z3 z4 z5 z6 z7
    go_wp2_with fail
    obtain ⟨g1, rfl⟩ : ∃ g1, gk = g1 + 1 := ⟨gk - 1, by omega⟩
    go_roundg g1
    case rel =>
      have hbn := HB.out.no HFN.out
      exact Lib.hid ⟨2, m0, nn, m2, m3, v0, .slice An 2 dn, v2, v3, by first | rfl | go_num, by omega, (hbn.set_ 2 _).set_ 3 _, fun _ => ((H0.out (by omega)).no HFN.out).set2 hbn _ _, fun _ => HAN.out.set2 hbn _ _, fun h => absurd h (by omega), fun h => absurd h (by omega), ((HY.out.no HFN.out).set_other HZN.out.2 _).set_other HZN.out.2 _, (HA.out.no HFN.out).set2 hbn _ _, ((HF.out.trans HFN.out fun _ _ h => h).set_new HZN.out.1 _).set_new HZN.out.1 _⟩
    all_goals omega
  · go_upto_region 6 with (go_at_call 27; refine (new_ao _).mono ?_; rintro e wn ⟨nn, An, dn, rfl, han, fn⟩; have HAN := Lib.hid han; have HFN := Lib.hid fn; clear han fn; obtain ⟨⟨c0, c1, c2, c3, c4, c5, c6, c7⟩, z0, z1, z2, z3, z4, z5, z6, z7⟩ := blk8 (HB.out.no HFN.out))
    clear c0 c1 c2 c3 c4 c5 c6 c7 z0 z1 z2 z3 z4 z5 z6 z7
    go_wp2_with fail
    obtain ⟨g1, rfl⟩ : ∃ g1, gk = g1 + 1 := ⟨gk - 1, by omega⟩
    go_roundg g1
    case rel =>
      have hbn := HB.out.no HFN.out
      exact Lib.hid ⟨3, m0, m1, nn, m3, v0, v1, .slice An 2 dn, v3, by first | rfl | go_num, by omega, (hbn.set_ 4 _).set_ 5 _, fun _ => ((H0.out (by omega)).no HFN.out).set2 hbn _ _, fun _ => ((H1.out (by omega)).no HFN.out).set2 hbn _ _, fun _ => HAN.out.set2 hbn _ _, fun h => absurd h (by omega), ((HY.out.no HFN.out).set_other HZN.out.2 _).set_other HZN.out.2 _, (HA.out.no HFN.out).set2 hbn _ _, ((HF.out.trans HFN.out fun _ _ h => h).set_new HZN.out.1 _).set_new HZN.out.1 _⟩
    all_goals omega
  · go_upto_region 6 with (go_at_call 27; refine (new_ao _).mono ?_; rintro e wn ⟨nn, An, dn, rfl, han, fn⟩; have HAN := Lib.hid han; have HFN := Lib.hid fn; clear han fn; obtain ⟨⟨c0, c1, c2, c3, c4, c5, c6, c7⟩, z0, z1, z2, z3, z4, z5, z6, z7⟩ := blk8 (HB.out.no HFN.out))
    clear c0 c1 c2 c3 c4 c5 c6 c7 z0 z1 z2 z3 z4 z5 z6 z7
    go_wp2_with fail
    obtain ⟨g1, rfl⟩ : ∃ g1, gk = g1 + 1 := ⟨gk - 1, by omega⟩
    go_roundg g1
    case rel =>
      have hbn := HB.out.no HFN.out
      exact Lib.hid ⟨4, m0, m1, m2, nn, v0, v1, v2, .slice An 2 dn, by first | rfl | go_num, by omega, (hbn.set_ 6 _).set_ 7 _, fun _ => ((H0.out (by omega)).no HFN.out).set2 hbn _ _, fun _ => ((H1.out (by omega)).no HFN.out).set2 hbn _ _, fun _ => ((H2.out (by omega)).no HFN.out).set2 hbn _ _, fun _ => HAN.out.set2 hbn _ _, ((HY.out.no HFN.out).set_other HZN.out.2 _).set_other HZN.out.2 _, (HA.out.no HFN.out).set2 hbn _ _, ((HF.out.trans HFN.out fun _ _ h => h).set_new HZN.out.1 _).set_new HZN.out.1 _⟩
    all_goals omega
  · have HA0 := Lib.hid (H0.out (by omega))
    have HA1 := Lib.hid (H1.out (by omega))
    have HA2 := Lib.hid (H2.out (by omega))
    have HA3 := Lib.hid (H3.out (by omega))
    rename World => wq
    obtain ⟨NK, hNK⟩ : ∃ n, min N 200 = n := ⟨_, rfl⟩
    have hNK1 : NK ≤ N := by omega
    have hNK2 : NK ≤ 200 := by omega
    have HNK := Lib.hid hNK
    clear H0 H1 H2 H3 hjk hNK
    go_wp2_with fail
    go_loopg [9] NK (fun k r9 wr => Hid (∃ (j : Nat) (m0 m1 m2 m3 a : Int) (v0 v1 v2 v3 va : Value) (P0 P1 P2 P3 : List (Int × Int)), r9 = .int .i64 (j : Nat) ∧ j + k = NK ∧ (P0 ++ P1 ++ (P2 ++ P3)).Perm (ps.take j) ∧ Blk wr z 53 (quad m0 m1 m2 m3 v0 v1 v2 v3) ∧ AO wr m0 v0 P0 ∧ AO wr m1 v1 P1 ∧ AO wr m2 v2 P2 ∧ AO wr m3 v3 P3 ∧
      Blk wr y 39 #[.int .i64 a, va] ∧ AO wr a va (ps.take j) ∧ Fr No w wr))
    case atStart => exact Lib.hid ⟨0, m0, m1, m2, m3, n0, v0, v1, v2, v3, .slice A0 2 d0, [], [], [], [], rfl, by omega, List.Perm.refl _, HB.out, HA0.out, HA1.out, HA2.out, HA3.out, HY.out, HA.out, HF.out⟩
    case round =>
    clear HA0 HA1 HA2 HA3 HB HY HA HF
    obtain ⟨j, k0, k1, k2, k3, a, u0, u1, u2, u3, va, P0, P1, P2, P3, rfl, hjk, hperm, hb, h0, h1, h2, h3, hy, ha, hf⟩ := hrel.out
    clear hrel
    have HP := Lib.hid hperm
    have HB := Lib.hid hb
    have H0 := Lib.hid h0
    have H1 := Lib.hid h1
    have H2 := Lib.hid h2
    have H3 := Lib.hid h3
    have HY := Lib.hid hy
    have HA := Lib.hid ha
    have HF := Lib.hid hf
    clear hperm hb h0 h1 h2 h3 hy ha hf
    have hlen : (P0 ++ P1 ++ (P2 ++ P3)).length ≤ 200 := by rw [HP.out.length_eq, List.length_take]; omega
    rw [List.length_append, List.length_append, List.length_append] at hlen
    have HLEN := Lib.hid hlen
    clear hlen
    by_cases hj : j < NK
    · have hjN : (j : Int) < (N : Int) := by omega
      have hj2 : (j : Int) < 200 := by omega
      have hjl : j < ps.length := by have := HN.out; omega
      obtain ⟨g, off, rfl, hx, hx'⟩ := HAT.out _ HF.out j hjl
      have hxx := HOK.out _ (List.getElem_mem hjl)
      have HTKE : Hid (ps.take (j + 1) = ps.take j ++ [ps[j]]) := Lib.hid (take_snoc' hjl)
      obtain ⟨⟨x1, x2⟩, hp⟩ : ∃ x, ps[j] = x := ⟨_, rfl⟩
      rw [hp] at hx hx' hxx HTKE
      have HXX := Lib.hid hxx
      have c0 : wr.drew.cell? ⟨g, off + j * 2, none⟩ = some (.int .i64 x1) := hx
      have c1 : wr.drew.cell? ⟨g, off + j * 2 + 1, none⟩ = some (.int .i64 x2) := hx'
      clear hp hxx hx hx'
      obtain ⟨gm, hgm⟩ : ∃ gm, wr.heap.size = gm := ⟨_, rfl⟩
      have HGM := Lib.hid hgm
      clear hgm
      go_upto_if 38 with fail
      go_cut [10] from 25 to 68 (fun r10 wx => (∃ q : Nat, q < 4 ∧ r10 = .int .i64 (q : Nat)) ∧ wr = wx)
      case first =>
        by_cases hjM : j < M
        · have hjMi : (j : Int) < (M : Int) := by omega
          have hd : decide ((j : Int) < (M : Int)) = true := decide_eq_true hjMi
          obtain ⟨g2, o2, rfl, hc, hi⟩ := HBT.out _ HF.out j (by have := HM.out; omega)
          obtain ⟨t, ht⟩ : ∃ t, ks[j]'(by have := HM.out; omega) = t := ⟨_, rfl⟩
          rw [ht] at hc
          obtain ⟨r, hr⟩ : ∃ r, Int.tmod t 4 = r := ⟨_, rfl⟩
          have hr1 : -3 ≤ r ∧ r ≤ 3 := by
            have h1 := Int.tmod_lt_of_pos t (show (0 : Int) < 4 by decide)
            have h2 := Int.lt_tmod_of_pos t (show (0 : Int) < 4 by decide)
            omega
          by_cases hs : r < 0
          · have hd2 : decide (r < 0) = true := decide_eq_true hs
            have e1 : IntKind.i64.wrap (-r) = (((-r).toNat : Nat) : Int) := by rw [IntKind.wrap_i64]; omega
            go_wp2_with fail
            go_meet
            have e2 : max (-r) 0 = (((-r).toNat : Nat) : Int) := by omega
            exact ⟨⟨(-r).toNat, by omega, by first | rfl | rw [e2] | rw [e1] | simp⟩, rfl⟩
          · have hd2 : decide (r < 0) = false := decide_eq_false hs
            go_wp2_with fail
            go_meet
            have e1 : ((r.toNat : Nat) : Int) = r := by omega
            exact ⟨⟨r.toNat, by omega, by rw [e1]⟩, rfl⟩
        · have hjMi : ¬ (j : Int) < (M : Int) := by omega
          have hd : decide ((j : Int) < (M : Int)) = false := decide_eq_false hjMi
          go_wp2_with fail
          go_meet
          exact ⟨⟨0, by decide, rfl⟩, rfl⟩
      case rest =>
      obtain ⟨⟨q, hq, rfl⟩, rfl⟩ := hcut
      go_upto_region 16 with fail
      go_cut [11] from 25 to 68 (fun r11 wx => r11 = .slice (some ⟨gm, 0, none⟩) 2 2 ∧ Hid (Blk wx gm 2 #[.int .i64 x1, .int .i64 x2] ∧ Fr No wr wx))
      case first =>
        go_region_with fail
        all_goals
          go_wp2_with fail
          go_meet
          exact ⟨by rw [HGM.out], Lib.hid ⟨by rw [← HGM.out]; exact Blk.new wr 2 _, ((Fr.refl No wr).alloc _).drew⟩⟩
      case rest =>
      obtain ⟨rfl, HC⟩ := hcut
      clear c0 c1
      have HA2 := Lib.hid (HA.out.no HC.out.2)
      have HY2 := Lib.hid (HY.out.no HC.out.2)
      obtain ⟨Aa, da, rfl⟩ := HA.out.form
      rename World => w6
      obtain ⟨y0, y1, -, -⟩ := blk2 HY2.out
      go_upto_region 17 with fail
      go_upto_region 18 with (go_at_call 22; refine (take_ao HA2.out (by rw [List.length_take]; omega) HXX.out.1 HXX.out.2 HC.out.1).mono ?_; rintro e w7 ⟨n7, A7, d7, rfl, h7, f7⟩; obtain ⟨q0, q1, z0, z1⟩ := blk2 (HY2.out.no f7); have H7 := Lib.hid h7; have HF7 := Lib.hid f7; clear h7 f7)
      clear y0 y1 q0 q1 z0 z1
      obtain ⟨w8, hw8⟩ : ∃ wx, (w7.setCell ⟨y, 0, none⟩ (.int .i64 n7)).setCell ⟨y, 1, none⟩ (.slice A7 2 d7) = wx := ⟨_, rfl⟩
      rw [hw8]
      have hf7 : Fr No wr w7 := HC.out.2.trans HF7.out fun _ _ h => h
      have hy7 := HY.out.no hf7
      have HY8 : Hid (Blk w8 y 39 #[.int .i64 n7, .slice A7 2 d7]) := Lib.hid (by rw [← hw8]; exact (hy7.set_ 0 _).set_ 1 _)
      have hset : ∀ {n : Int} {v : Value} {P : List (Int × Int)}, AO w7 n v P → AO w8 n v P := fun h => by rw [← hw8]; exact (h.set hy7 (by decide) _).set (hy7.set_ 0 _) (by decide) _
      have HA8 := Lib.hid (hset H7.out)
      have H08 := Lib.hid (hset (H0.out.no hf7))
      have H18 := Lib.hid (hset (H1.out.no hf7))
      have H28 := Lib.hid (hset (H2.out.no hf7))
      have H38 := Lib.hid (hset (H3.out.no hf7))
      have HB8 : Hid (Blk w8 z 53 (quad k0 k1 k2 k3 u0 u1 u2 u3)) := Lib.hid (by rw [← hw8]; exact ((HB.out.no hf7).set_other (fun e => HZN.out.2 e.symm) _).set_other (fun e => HZN.out.2 e.symm) _)
      have HC8 : Hid (Blk w8 gm 2 #[.int .i64 x1, .int .i64 x2]) := Lib.hid (by
        have hg := HC.out.1.no HF7.out
        rw [← hw8]; exact (hg.set_other (Blk.ne_ hg hy7 (by decide)) _).set_other (Blk.ne_ hg hy7 (by decide)) _)
      have HF8 : Hid (Fr No w w8) := Lib.hid (by rw [← hw8]; exact ((HF.out.trans hf7 fun _ _ h => h).set_new HYN.out _).set_new HYN.out _)
      clear hw8 hf7 hy7 hset
      obtain ⟨Au0, du0, rfl⟩ := H0.out.form
      obtain ⟨Au1, du1, rfl⟩ := H1.out.form
      obtain ⟨Au2, du2, rfl⟩ := H2.out.form
      obtain ⟨Au3, du3, rfl⟩ := H3.out.form
      clear HA HY H0 H1 H2 H3 HB HA2 HY2 HC H7
      obtain ⟨g1, rfl⟩ : ∃ g1, gk = g1 + 1 := ⟨gk - 1, by omega⟩
      have hq4 : q = 0 ∨ q = 1 ∨ q = 2 ∨ q = 3 := by omega
      rcases hq4 with rfl | rfl | rfl | rfl
      · obtain ⟨⟨c0, c1, c2, c3, c4, c5, c6, c7⟩, -⟩ := blk8 HB8.out
        go_upto_region 10 with (go_at_call 22; refine (take_ao H08.out (by have := HLEN.out; omega) HXX.out.1 HXX.out.2 HC8.out).mono ?_; rintro e w9 ⟨n9, A9, d9, rfl, h9, f9⟩; obtain ⟨⟨e0, e1, e2, e3, e4, e5, e6, e7⟩, z0, z1, z2, z3, z4, z5, z6, z7⟩ := blk8 (HB8.out.no f9); have H9 := Lib.hid h9; have HF9 := Lib.hid f9; clear h9 f9)
        clear c0 c1 c2 c3 c4 c5 c6 c7 e0 e1 e2 e3 e4 e5 e6 e7 z0 z1 z2 z3 z4 z5 z6 z7
        go_wp2_with fail
        go_roundg g1
        case rel =>
          have hbn := HB8.out.no HF9.out
          have hpm : ((P0 ++ [(x1, x2)]) ++ (P1) ++ ((P2) ++ (P3))).Perm (ps.take (j + 1)) := by
            rw [HTKE.out]
            refine List.Perm.trans ?_ (HP.out.append_right [(x1, x2)])
            exact List.perm_iff_count.2 fun a => by simp only [List.count_append]; omega
          exact Lib.hid ⟨j + 1, n9, k1, k2, k3, n7, .slice A9 2 d9, _, _, _, .slice A7 2 d7, P0 ++ [(x1, x2)], P1, P2, P3, by go_num, by omega, hpm, (hbn.set_ 0 _).set_ 1 _, H9.out.set2 hbn _ _, (H18.out.no HF9.out).set2 hbn _ _, (H28.out.no HF9.out).set2 hbn _ _, (H38.out.no HF9.out).set2 hbn _ _, ((HY8.out.no HF9.out).set_other HZN.out.2 _).set_other HZN.out.2 _, by rw [HTKE.out]; exact (HA8.out.no HF9.out).set2 hbn _ _, ((HF8.out.trans HF9.out fun _ _ h => h).set_new HZN.out.1 _).set_new HZN.out.1 _⟩
        all_goals omega
      · obtain ⟨⟨c0, c1, c2, c3, c4, c5, c6, c7⟩, -⟩ := blk8 HB8.out
        go_upto_region 10 with (go_at_call 22; refine (take_ao H18.out (by have := HLEN.out; omega) HXX.out.1 HXX.out.2 HC8.out).mono ?_; rintro e w9 ⟨n9, A9, d9, rfl, h9, f9⟩; obtain ⟨⟨e0, e1, e2, e3, e4, e5, e6, e7⟩, z0, z1, z2, z3, z4, z5, z6, z7⟩ := blk8 (HB8.out.no f9); have H9 := Lib.hid h9; have HF9 := Lib.hid f9; clear h9 f9)
        clear c0 c1 c2 c3 c4 c5 c6 c7 e0 e1 e2 e3 e4 e5 e6 e7 z0 z1 z2 z3 z4 z5 z6 z7
        go_wp2_with fail
        go_roundg g1
        case rel =>
          have hbn := HB8.out.no HF9.out
          have hpm : ((P0) ++ (P1 ++ [(x1, x2)]) ++ ((P2) ++ (P3))).Perm (ps.take (j + 1)) := by
            rw [HTKE.out]
            refine List.Perm.trans ?_ (HP.out.append_right [(x1, x2)])
            exact List.perm_iff_count.2 fun a => by simp only [List.count_append]; omega
          exact Lib.hid ⟨j + 1, k0, n9, k2, k3, n7, _, .slice A9 2 d9, _, _, .slice A7 2 d7, P0, P1 ++ [(x1, x2)], P2, P3, by go_num, by omega, hpm, (hbn.set_ 2 _).set_ 3 _, (H08.out.no HF9.out).set2 hbn _ _, H9.out.set2 hbn _ _, (H28.out.no HF9.out).set2 hbn _ _, (H38.out.no HF9.out).set2 hbn _ _, ((HY8.out.no HF9.out).set_other HZN.out.2 _).set_other HZN.out.2 _, by rw [HTKE.out]; exact (HA8.out.no HF9.out).set2 hbn _ _, ((HF8.out.trans HF9.out fun _ _ h => h).set_new HZN.out.1 _).set_new HZN.out.1 _⟩
        all_goals omega
      · obtain ⟨⟨c0, c1, c2, c3, c4, c5, c6, c7⟩, -⟩ := blk8 HB8.out
        go_upto_region 10 with (go_at_call 22; refine (take_ao H28.out (by have := HLEN.out; omega) HXX.out.1 HXX.out.2 HC8.out).mono ?_; rintro e w9 ⟨n9, A9, d9, rfl, h9, f9⟩; obtain ⟨⟨e0, e1, e2, e3, e4, e5, e6, e7⟩, z0, z1, z2, z3, z4, z5, z6, z7⟩ := blk8 (HB8.out.no f9); have H9 := Lib.hid h9; have HF9 := Lib.hid f9; clear h9 f9)
        clear c0 c1 c2 c3 c4 c5 c6 c7 e0 e1 e2 e3 e4 e5 e6 e7 z0 z1 z2 z3 z4 z5 z6 z7
        go_wp2_with fail
        go_roundg g1
        case rel =>
          have hbn := HB8.out.no HF9.out
          have hpm : ((P0) ++ (P1) ++ ((P2 ++ [(x1, x2)]) ++ (P3))).Perm (ps.take (j + 1)) := by
            rw [HTKE.out]
            refine List.Perm.trans ?_ (HP.out.append_right [(x1, x2)])
            exact List.perm_iff_count.2 fun a => by simp only [List.count_append]; omega
          exact Lib.hid ⟨j + 1, k0, k1, n9, k3, n7, _, _, .slice A9 2 d9, _, .slice A7 2 d7, P0, P1, P2 ++ [(x1, x2)], P3, by go_num, by omega, hpm, (hbn.set_ 4 _).set_ 5 _, (H08.out.no HF9.out).set2 hbn _ _, (H18.out.no HF9.out).set2 hbn _ _, H9.out.set2 hbn _ _, (H38.out.no HF9.out).set2 hbn _ _, ((HY8.out.no HF9.out).set_other HZN.out.2 _).set_other HZN.out.2 _, by rw [HTKE.out]; exact (HA8.out.no HF9.out).set2 hbn _ _, ((HF8.out.trans HF9.out fun _ _ h => h).set_new HZN.out.1 _).set_new HZN.out.1 _⟩
        all_goals omega
      · obtain ⟨⟨c0, c1, c2, c3, c4, c5, c6, c7⟩, -⟩ := blk8 HB8.out
        go_upto_region 10 with (go_at_call 22; refine (take_ao H38.out (by have := HLEN.out; omega) HXX.out.1 HXX.out.2 HC8.out).mono ?_; rintro e w9 ⟨n9, A9, d9, rfl, h9, f9⟩; obtain ⟨⟨e0, e1, e2, e3, e4, e5, e6, e7⟩, z0, z1, z2, z3, z4, z5, z6, z7⟩ := blk8 (HB8.out.no f9); have H9 := Lib.hid h9; have HF9 := Lib.hid f9; clear h9 f9)
        clear c0 c1 c2 c3 c4 c5 c6 c7 e0 e1 e2 e3 e4 e5 e6 e7 z0 z1 z2 z3 z4 z5 z6 z7
        go_wp2_with fail
        go_roundg g1
        case rel =>
          have hbn := HB8.out.no HF9.out
          have hpm : ((P0) ++ (P1) ++ ((P2) ++ (P3 ++ [(x1, x2)]))).Perm (ps.take (j + 1)) := by
            rw [HTKE.out]
            refine List.Perm.trans ?_ (HP.out.append_right [(x1, x2)])
            exact List.perm_iff_count.2 fun a => by simp only [List.count_append]; omega
          exact Lib.hid ⟨j + 1, k0, k1, k2, n9, n7, _, _, _, .slice A9 2 d9, .slice A7 2 d7, P0, P1, P2, P3 ++ [(x1, x2)], by go_num, by omega, hpm, (hbn.set_ 6 _).set_ 7 _, (H08.out.no HF9.out).set2 hbn _ _, (H18.out.no HF9.out).set2 hbn _ _, (H28.out.no HF9.out).set2 hbn _ _, H9.out.set2 hbn _ _, ((HY8.out.no HF9.out).set_other HZN.out.2 _).set_other HZN.out.2 _, by rw [HTKE.out]; exact (HA8.out.no HF9.out).set2 hbn _ _, ((HF8.out.trans HF9.out fun _ _ h => h).set_new HZN.out.1 _).set_new HZN.out.1 _⟩
        all_goals omega
    · have hcond : ((j : Int) < (N : Int) ∧ ¬ (j : Int) < 200) ∨ ¬ (j : Int) < (N : Int) := by have := HNK.out; omega
      obtain ⟨Au0, du0, rfl⟩ := H0.out.form
      obtain ⟨Au1, du1, rfl⟩ := H1.out.form
      obtain ⟨Au2, du2, rfl⟩ := H2.out.form
      obtain ⟨Au3, du3, rfl⟩ := H3.out.form
      obtain ⟨Aa, da, rfl⟩ := HA.out.form
      have HS8 := Lib.hid fun w' (f : Fr No wr w') => (blk8 (HB.out.no f)).1
      have HL := Lib.hid ((Fr.refl No wr).drew)
      have hlen4 := HLEN.out
      have hsz := HL.out.size
      clear hj
      rcases hcond with ⟨hjN, hj2⟩ | hjN
      all_goals
        go_upto_region 19 with fail
        go_cut [12] (fun r wx => ∃ t, r = .pointer (some ⟨t, 0, none⟩) ∧ Hid (wr.heap.size ≤ t ∧ Fr No wr wx ∧ ∃ n A c, Blk wx t 39 #[.int .i64 n, .slice A 2 c] ∧ AO wx n (.slice A 2 c) (P0 ++ P1 ++ (P2 ++ P3))))
        case first =>
          go_region_held3 (fun w' => w'.cell? ⟨z, 0, none⟩ = some (.int .i64 k0) ∧ w'.cell? ⟨z, 1, none⟩ = some (.slice Au0 2 du0) ∧ w'.cell? ⟨z, 2, none⟩ = some (.int .i64 k1) ∧ w'.cell? ⟨z, 3, none⟩ = some (.slice Au1 2 du1) ∧ w'.cell? ⟨z, 4, none⟩ = some (.int .i64 k2) ∧ w'.cell? ⟨z, 5, none⟩ = some (.slice Au2 2 du2) ∧ w'.cell? ⟨z, 6, none⟩ = some (.int .i64 k3) ∧ w'.cell? ⟨z, 7, none⟩ = some (.slice Au3 2 du3))
            (with_reducible first | exact HS8.out _ HL.out | exact HS8.out _ (HL.out.alloc _) | exact HS8.out _ (((Fr.refl No wr).alloc _).drew) | exact HS8.out _ ((HL.out.set_new (by first | omega | (simp; omega)) _).set_new (by first | omega | (simp; omega)) _) | exact HS8.out _ (((HL.out.alloc _).set_new (by first | omega | (simp; omega)) _).set_new (by first | omega | (simp; omega)) _))
            (first
            | (go_at_call 23; refine (merge_ao (by with_reducible first | exact H0.out.no (by with_reducible first | exact HL.out | exact HL.out.alloc _ | exact ((Fr.refl No wr).alloc _).drew) | exact H1.out.no (by with_reducible first | exact HL.out | exact HL.out.alloc _ | exact ((Fr.refl No wr).alloc _).drew) | exact H2.out.no (by with_reducible first | exact HL.out | exact HL.out.alloc _ | exact ((Fr.refl No wr).alloc _).drew) | exact H3.out.no (by with_reducible first | exact HL.out | exact HL.out.alloc _ | exact ((Fr.refl No wr).alloc _).drew) | exact HU.out.no (by with_reducible first | exact Fr.refl No _ | exact (Fr.refl No _).alloc _) | exact HV.out.no (by with_reducible first | exact Fr.refl No _ | exact (Fr.refl No _).alloc _)) (by with_reducible first | exact H0.out.no (by with_reducible first | exact HL.out | exact HL.out.alloc _ | exact ((Fr.refl No wr).alloc _).drew) | exact H1.out.no (by with_reducible first | exact HL.out | exact HL.out.alloc _ | exact ((Fr.refl No wr).alloc _).drew) | exact H2.out.no (by with_reducible first | exact HL.out | exact HL.out.alloc _ | exact ((Fr.refl No wr).alloc _).drew) | exact H3.out.no (by with_reducible first | exact HL.out | exact HL.out.alloc _ | exact ((Fr.refl No wr).alloc _).drew) | exact HU.out.no (by with_reducible first | exact Fr.refl No _ | exact (Fr.refl No _).alloc _) | exact HV.out.no (by with_reducible first | exact Fr.refl No _ | exact (Fr.refl No _).alloc _)) (by first | omega | (simp only [List.length_append]; omega))).mono ?_; rintro e w5 ⟨n5, A5, d5, rfl, h5, f5⟩; (first | (have HU := Lib.hid (HU.out.no (by with_reducible first | exact f5 | exact ((Fr.refl No _).alloc _).trans f5 fun _ _ h => h)); have HV := Lib.hid h5) | (have HU := Lib.hid h5)); (first | (with_reducible have HT := Lib.hid (HT.out.no f5); obtain ⟨t0, t1, tz0, tz1⟩ := blk2 HT.out) | (with_reducible have HT := Lib.hid ((Blk.new _ 39 #[.int .i64 0, .slice none 0 0]).no f5); obtain ⟨t0, t1, tz0, tz1⟩ := blk2 HT.out) | (with_reducible have HT := Lib.hid ((Blk.new_drew _ 39 #[.int .i64 0, .slice none 0 0]).no f5); obtain ⟨t0, t1, tz0, tz1⟩ := blk2 HT.out) | skip); have HL := Lib.hid (Fr.trans (by with_reducible first | exact HL.out | exact HL.out.alloc _ | exact ((Fr.refl No wr).alloc _).drew) f5 fun _ _ h => h); have hsz := HL.out.size; clear h5 f5))
          all_goals (go_simp; go_wp2_with fail)
          all_goals go_meet
          all_goals first
            | exact ⟨_, rfl, Lib.hid ⟨hsz, HL.out.alloc _, n5, A5, d5, Blk.new _ 39 _, HV.out.no ((Fr.refl No _).alloc _)⟩⟩
            | exact ⟨_, rfl, Lib.hid ⟨by omega, (HL.out.set_new (by omega) _).set_new (by omega) _, n5, A5, d5, (HT.out.set_ 0 _).set_ 1 _, (HV.out.set HT.out (by decide) _).set (HT.out.set_ 0 _) (by decide) _⟩⟩
        case rest =>
        obtain ⟨ta, rfl, HC1⟩ := hcut
        rename World => ws
        have hfs := HC1.out.2.1
        have HBs := Lib.hid (HB.out.no hfs)
        have HYs := Lib.hid (HY.out.no hfs)
        have HAs := Lib.hid (HA.out.no hfs)
        have H0 := Lib.hid (H0.out.no hfs)
        have H1 := Lib.hid (H1.out.no hfs)
        have H2 := Lib.hid (H2.out.no hfs)
        have H3 := Lib.hid (H3.out.no hfs)
        have HFs := Lib.hid (HF.out.trans hfs fun _ _ h => h)
        have HS8 := Lib.hid fun w' (f : Fr No ws w') => (blk8 (HBs.out.no f)).1
        clear hfs HL hsz
        have HL := Lib.hid ((Fr.refl No ws).drew)
        have hsz := HL.out.size
        go_upto_region 20 with fail
        go_cut [13] (fun r wx => ∃ t, r = .pointer (some ⟨t, 0, none⟩) ∧ Hid (ws.heap.size ≤ t ∧ Fr No ws wx ∧ ∃ n A c, Blk wx t 39 #[.int .i64 n, .slice A 2 c] ∧ AO wx n (.slice A 2 c) (P3 ++ (P1 ++ (P2 ++ P0)))))
        case first =>
          go_region_held3 (fun w' => w'.cell? ⟨z, 0, none⟩ = some (.int .i64 k0) ∧ w'.cell? ⟨z, 1, none⟩ = some (.slice Au0 2 du0) ∧ w'.cell? ⟨z, 2, none⟩ = some (.int .i64 k1) ∧ w'.cell? ⟨z, 3, none⟩ = some (.slice Au1 2 du1) ∧ w'.cell? ⟨z, 4, none⟩ = some (.int .i64 k2) ∧ w'.cell? ⟨z, 5, none⟩ = some (.slice Au2 2 du2) ∧ w'.cell? ⟨z, 6, none⟩ = some (.int .i64 k3) ∧ w'.cell? ⟨z, 7, none⟩ = some (.slice Au3 2 du3))
            (with_reducible first | exact HS8.out _ HL.out | exact HS8.out _ (HL.out.alloc _) | exact HS8.out _ (((Fr.refl No ws).alloc _).drew) | exact HS8.out _ ((HL.out.set_new (by first | omega | (simp; omega)) _).set_new (by first | omega | (simp; omega)) _) | exact HS8.out _ (((HL.out.alloc _).set_new (by first | omega | (simp; omega)) _).set_new (by first | omega | (simp; omega)) _))
            (first
            | (go_at_call 23; refine (merge_ao (by with_reducible first | exact H0.out.no (by with_reducible first | exact HL.out | exact HL.out.alloc _ | exact ((Fr.refl No ws).alloc _).drew) | exact H1.out.no (by with_reducible first | exact HL.out | exact HL.out.alloc _ | exact ((Fr.refl No ws).alloc _).drew) | exact H2.out.no (by with_reducible first | exact HL.out | exact HL.out.alloc _ | exact ((Fr.refl No ws).alloc _).drew) | exact H3.out.no (by with_reducible first | exact HL.out | exact HL.out.alloc _ | exact ((Fr.refl No ws).alloc _).drew) | exact HU.out.no (by with_reducible first | exact Fr.refl No _ | exact (Fr.refl No _).alloc _) | exact HV.out.no (by with_reducible first | exact Fr.refl No _ | exact (Fr.refl No _).alloc _)) (by with_reducible first | exact H0.out.no (by with_reducible first | exact HL.out | exact HL.out.alloc _ | exact ((Fr.refl No ws).alloc _).drew) | exact H1.out.no (by with_reducible first | exact HL.out | exact HL.out.alloc _ | exact ((Fr.refl No ws).alloc _).drew) | exact H2.out.no (by with_reducible first | exact HL.out | exact HL.out.alloc _ | exact ((Fr.refl No ws).alloc _).drew) | exact H3.out.no (by with_reducible first | exact HL.out | exact HL.out.alloc _ | exact ((Fr.refl No ws).alloc _).drew) | exact HU.out.no (by with_reducible first | exact Fr.refl No _ | exact (Fr.refl No _).alloc _) | exact HV.out.no (by with_reducible first | exact Fr.refl No _ | exact (Fr.refl No _).alloc _)) (by first | omega | (simp only [List.length_append]; omega))).mono ?_; rintro e w5 ⟨n5, A5, d5, rfl, h5, f5⟩; (first | (have HU := Lib.hid (HU.out.no (by with_reducible first | exact f5 | exact ((Fr.refl No _).alloc _).trans f5 fun _ _ h => h)); have HV := Lib.hid h5) | (have HU := Lib.hid h5)); (first | (with_reducible have HT := Lib.hid (HT.out.no f5); obtain ⟨t0, t1, tz0, tz1⟩ := blk2 HT.out) | (with_reducible have HT := Lib.hid ((Blk.new _ 39 #[.int .i64 0, .slice none 0 0]).no f5); obtain ⟨t0, t1, tz0, tz1⟩ := blk2 HT.out) | (with_reducible have HT := Lib.hid ((Blk.new_drew _ 39 #[.int .i64 0, .slice none 0 0]).no f5); obtain ⟨t0, t1, tz0, tz1⟩ := blk2 HT.out) | skip); have HL := Lib.hid (Fr.trans (by with_reducible first | exact HL.out | exact HL.out.alloc _ | exact ((Fr.refl No ws).alloc _).drew) f5 fun _ _ h => h); have hsz := HL.out.size; clear h5 f5))
          all_goals (go_simp; go_wp2_with fail)
          all_goals go_meet
          all_goals first
            | exact ⟨_, rfl, Lib.hid ⟨hsz, HL.out.alloc _, n5, A5, d5, Blk.new _ 39 _, HV.out.no ((Fr.refl No _).alloc _)⟩⟩
            | exact ⟨_, rfl, Lib.hid ⟨by omega, (HL.out.set_new (by omega) _).set_new (by omega) _, n5, A5, d5, (HT.out.set_ 0 _).set_ 1 _, (HV.out.set HT.out (by decide) _).set (HT.out.set_ 0 _) (by decide) _⟩⟩
        case rest =>
        obtain ⟨tb, rfl, HC2⟩ := hcut
        rename World => wz
        obtain ⟨-, hfz, nb, Ab, db, hbb, hab⟩ := HC2.out
        obtain ⟨-, -, na, Ac, dc, hba, haa⟩ := HC1.out
        have HBA := Lib.hid (hba.no hfz)
        have HAA := Lib.hid (haa.no hfz)
        have HBB := Lib.hid hbb
        have HAB := Lib.hid hab
        have HYz := Lib.hid (HYs.out.no hfz)
        have HAz := Lib.hid (HAs.out.no hfz)
        have HFz := Lib.hid (HFs.out.trans hfz fun _ _ h => h)
        clear hfz hbb hab hba haa HC1 HC2 HL hsz HS8 HBs HYs HAs H0 H1 H2 H3
        obtain ⟨x0, x1, -, -⟩ := blk2 HBA.out
        obtain ⟨y0, y1, -, -⟩ := blk2 HYz.out
        go_upto_region 21 with fail
        go_upto_region 22 with (go_at_call 24; refine (same_ao HAA.out HAz.out HP.out).mono ?_; rintro e wu ⟨rfl, fu⟩; have HU := Lib.hid fu; clear fu)
        clear x0 x1 y0 y1
        obtain ⟨x0, x1, -, -⟩ := blk2 (HBB.out.no HU.out)
        obtain ⟨y0, y1, -, -⟩ := blk2 (HYz.out.no HU.out)
        go_upto_region 23 with (go_at_call 24; refine (same_ao (HAB.out.no HU.out) (HAz.out.no HU.out) (List.Perm.trans (List.perm_iff_count.2 fun a => by simp only [List.count_append]; omega) HP.out)).mono ?_; rintro e wv ⟨rfl, fv⟩; have HV := Lib.hid (HU.out.trans fv fun _ _ h => h); clear fv)
        clear x0 x1 y0 y1
        obtain ⟨y0, y1, -, -⟩ := blk2 (HYz.out.no HV.out)
        go_wp2_with (go_at_call 30; refine (valid_ao (HAz.out.no HV.out)).mono ?_; rintro e wx ⟨rfl, fx⟩; have HX := Lib.hid (HV.out.trans fx fun _ _ h => h); clear fx)
        go_ret
        exact ⟨by first | rfl | simp, HFz.out.trans HX.out fun _ _ h => h⟩
end Go.Proofs.Ytgjpdagbbljmpaa
