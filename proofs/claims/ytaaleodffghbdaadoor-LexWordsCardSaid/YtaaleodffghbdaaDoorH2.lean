/- LexWords: the reference's reader of a text in quotes. -/
import Derived.Test.YtaaleodffghbdaaDoorH1
namespace Go.Proofs.YtaaleodffghbdaaDoor
open Go.RowKit Go.Maps
set_option linter.unusedVariables false

theorem succ_lt {a b : Nat} (h : a + 1 < b) : (a : Int) + 1 < (b : Int) := by omega
set_option maxRecDepth 100000 in
set_option maxHeartbeats 8000000 in
theorem refQuoted_any (s : ByteArray) (p : Nat) (w : World) (hs : s.size ≤ 4096) (hp : p < s.size) : Calls Tryd.prog 38 #[.string s, .int .i64 (p : Nat)] w (RefP p (quotedT (s.data.toList.drop p)) w) := by
  have hd1 : (s.data.toList.drop p).drop 1 = s.data.toList.drop (p + 1) := by rw [List.drop_drop]
  obtain ⟨T, hT⟩ : ∃ T, quotedT (s.data.toList.drop p) = T := ⟨_, rfl⟩
  have HNO : Hid (∀ acc, RQ s p s.size acc → Ending.returned (.tuple #[.agg #[.int .i64 0, .string ⟨#[]⟩, .int .i64 0], .int .i64 0, .agg #[.int .i64 40, .int .i64 (p : Nat)]]) = .returned (refV p T)) := Lib.hid fun acc h => by
    rw [← hT]; unfold quotedT; rw [hd1, h.end_]; rfl
  have HBIG : Hid (∀ acc n, unq (s.data.toList.drop (p + 1)) = some (acc, n) → 64 < acc.length → Ending.returned (.tuple #[.agg #[.int .i64 0, .string ⟨#[]⟩, .int .i64 0], .int .i64 0, .agg #[.int .i64 45, .int .i64 (p : Nat)]]) = .returned (refV p T)) := Lib.hid fun acc n h hl => by
    rw [← hT]; unfold quotedT; rw [hd1, h]; simp only; rw [if_pos hl]; rfl
  have HGOOD : Hid (∀ acc n, unq (s.data.toList.drop (p + 1)) = some (acc, n) → ¬ 64 < acc.length → ∀ q : Nat, p + (n + 1) = q → Ending.returned (.tuple #[.agg #[.int .i64 4, .string ⟨acc.toArray⟩, .int .i64 (p : Nat)], .int .i64 (q : Nat), .agg #[.int .i64 0, .int .i64 0]]) = .returned (refV p T)) := Lib.hid fun acc n h hl q hq => by
    rw [← hT, ← hq]; unfold quotedT; rw [hd1, h]; simp only; rw [if_neg hl]; rfl
  rw [hT]
  clear hT hd1
  obtain ⟨y, hy⟩ : ∃ y, w.heap.size = y := ⟨_, rfl⟩
  obtain ⟨w1, hw1⟩ : ∃ w1, w.alloc (.cells #[.int .i64 0, .string ⟨#[]⟩, .int .i64 0] 31) = w1 := ⟨_, rfl⟩
  have hb1 : Blk w1 y 31 #[.int .i64 0, .string ⟨#[]⟩, .int .i64 0] := by rw [← hw1, ← hy]; exact Blk.new w 31 _
  have hz1' : w1.heap.size = y + 1 := by rw [← hw1, ← hy]; simp
  obtain ⟨w2, hw2⟩ : ∃ w2, w1.alloc (.cells #[.int .i64 0, .int .i64 0] 26) = w2 := ⟨_, rfl⟩
  have hb2 : Blk w2 (y + 1) 26 #[.int .i64 0, .int .i64 0] := by rw [← hw2, ← hz1']; exact Blk.new w1 26 _
  have f12 : Fr No w1 w2 := by rw [← hw2]; exact (Fr.refl No w1).alloc _
  have f01 : Fr No w w1 := by rw [← hw1]; exact (Fr.refl No w).alloc _
  have HBY : Hid (Blk w2 y 31 #[.int .i64 0, .string ⟨#[]⟩, .int .i64 0]) := Lib.hid (hb1.of (f12.block y hb1.lt id))
  have HBZ := Lib.hid hb2
  have F2 := Lib.hid (f01.trans f12 fun _ _ h => h)
  obtain ⟨y3, hy3⟩ : ∃ y3, w2.heap.size = y3 := ⟨_, rfl⟩
  have HY3 := Lib.hid hy3
  have HW1 := Lib.hid hw1
  have HW2 := Lib.hid hw2
  have HYW : Hid (w.heap.size ≤ y) := Lib.hid (by omega)
  have HY := Lib.hid hy
  have HZ1 := Lib.hid hz1'
  have HRZ := Lib.hid (RQ.zero s p)
  obtain ⟨i0, hi00, hz0, hz1, hz2⟩ := info_parts info5
  clear hy hw1 hb1 hz1' hw2 hb2 f12 f01 hy3
  go_enter Tryd.func38, Tryd.ntmps38
  go_upto_region 1 with fail
  rw [HY.out, HW1.out, HW2.out]
  go_wp2
  go_loopw [7, 8] (fun sv iv wr => ∃ (i : Nat) (acc : Tx) (A : Option Addr) (n c : Nat), iv = .int .i64 (i : Nat) ∧ p + 1 ≤ i ∧ i ≤ s.size ∧ n ≤ i ∧ sv = .slice A n c ∧ Hid (RQ s p i acc) ∧ Hid (acc.length = n) ∧ Hid (wr.ownsRow y3 5 1 (.slice A n c) n (acc.map fun b => .int .u8 (b.toNat : Nat))) ∧ Hid (Fr No w2 wr)) (fun _ iv _ => s.size - (intOf iv).toNat)
  case atStart => exact ⟨p + 1, [], none, 0, 0, by go_num, Nat.le_refl _, by omega, Nat.zero_le _, rfl, HRZ, Lib.hid rfl, Lib.hid ⟨rfl, .inl ⟨rfl, rfl⟩⟩, Lib.hid (Fr.refl _ _)⟩
  case round =>
    obtain ⟨i, acc, A, n, c, rfl, hi0, hi1, hni, rfl, HRQ, HLN0, HROW, HF⟩ := hrel
    have hsz := HF.out.size
    rw [HY3.out] at hsz
    have HF6 : Hid (∀ (w6 : World) (o : Obj), (wr.alloc o).grownBy w6 (Value.slice A n c).ownBlock → Fr No w2 w6) := Lib.hid fun w6 o hg =>
      ((HF.out.alloc o).grown hg fun q hq hql => by
        have h1 := (HROW.out.lt q hq).1
        have h2 := HY3.out
        omega)
    by_cases hlt : i < s.size
    · have hb := u8_lt s[i]
      have hk0 : (0 : Int) ≤ (i : Int) := by omega
      have hk1 : (i : Int) < (s.size : Int) := by omega
      by_cases hq : s[i] = 39
      · have hq2 : ((s[i].toNat : Int) == 39) = true := by have := (u8_39 _).2 hq; simp; omega
        by_cases hc : ∀ h : i + 1 < s.size, s[i + 1] ≠ 39
        · have hu := HRQ.out.stop hi0 hlt hq hc
          have HC : Hid (∀ h : i + 1 < s.size, ((s[i + 1].toNat : Int) != 39) = true) := Lib.hid fun h => by
            have h39 : ¬ s[i + 1].toNat = 39 := fun e => hc h ((u8_39 _).1 e)
            simp; omega
          have HCV := Lib.hid (conv_row acc HLN0.out HROW.out)
          by_cases hbig : 64 < n
          · have HEQ := Lib.hid (HBIG.out acc _ hu (by rw [HLN0.out]; exact hbig))
            clear hc hq
            have hby := HBY.out.of (HF.out.block y HBY.out.lt id)
            have hbz := HBZ.out.of (HF.out.block (y + 1) HBZ.out.lt id)
            have z0 : wr.cell? ⟨y, 0, none⟩ = some (.int .i64 0) := hby.cell 0
            have z1 : wr.cell? ⟨y, 1, none⟩ = some (.string ⟨#[]⟩) := hby.cell 1
            have z2 : wr.cell? ⟨y, 2, none⟩ = some (.int .i64 0) := hby.cell 2
            have z3 : wr.cell? ⟨y + 1, 0, none⟩ = some (.int .i64 0) := hbz.cell 0
            have z4 : wr.cell? ⟨y + 1, 1, none⟩ = some (.int .i64 0) := hbz.cell 1
            have x0 := hby.frozen 0
            have x1 := hby.frozen 1
            have x2 := hby.frozen 2
            have x3 := hbz.frozen 0
            have x4 := hbz.frozen 1
            have F5 := Lib.hid (F2.out.trans HF.out fun _ _ h => h)
            have hyw := HYW.out
            clear hby hbz
            by_cases hend : i + 1 < s.size
            · have hc2 := HC.out hend
              go_wp2
              refine bodyPost_ret (v := .tuple #[.agg #[.int .i64 0, .string ⟨#[]⟩, .int .i64 0], .int .i64 0, .agg #[.int .i64 45, .int .i64 (p : Nat)]]) (by simp [results, Tryd.results38, go_sem, z0, z1, z2, z3, z4]) rfl ?_
              refine ⟨HEQ.out, ?_⟩
              repeat (refine Fr.setCell ?_ (fun h => absurd h (by first | (show ¬ y < _; omega) | (show ¬ y + 1 < _; omega))) _)
              exact F5.out
            · skip
              go_wp2
              refine bodyPost_ret (v := .tuple #[.agg #[.int .i64 0, .string ⟨#[]⟩, .int .i64 0], .int .i64 0, .agg #[.int .i64 45, .int .i64 (p : Nat)]]) (by simp [results, Tryd.results38, go_sem, z0, z1, z2, z3, z4]) rfl ?_
              refine ⟨HEQ.out, ?_⟩
              repeat (refine Fr.setCell ?_ (fun h => absurd h (by first | (show ¬ y < _; omega) | (show ¬ y + 1 < _; omega))) _)
              exact F5.out
          · have HEQ := Lib.hid (HGOOD.out acc _ hu (by rw [HLN0.out]; exact hbig) (i + 1) (by omega))
            have hcv := HCV.out
            have HPI : Hid (((i : Int) + 1) = ((i + 1 : Nat) : Int)) := Lib.hid (by omega)
            clear hc hq
            have hby := HBY.out.of (HF.out.block y HBY.out.lt id)
            have hbz := HBZ.out.of (HF.out.block (y + 1) HBZ.out.lt id)
            have z0 : wr.cell? ⟨y, 0, none⟩ = some (.int .i64 0) := hby.cell 0
            have z1 : wr.cell? ⟨y, 1, none⟩ = some (.string ⟨#[]⟩) := hby.cell 1
            have z2 : wr.cell? ⟨y, 2, none⟩ = some (.int .i64 0) := hby.cell 2
            have z3 : wr.cell? ⟨y + 1, 0, none⟩ = some (.int .i64 0) := hbz.cell 0
            have z4 : wr.cell? ⟨y + 1, 1, none⟩ = some (.int .i64 0) := hbz.cell 1
            have x0 := hby.frozen 0
            have x1 := hby.frozen 1
            have x2 := hby.frozen 2
            have x3 := hbz.frozen 0
            have x4 := hbz.frozen 1
            have F5 := Lib.hid (F2.out.trans HF.out fun _ _ h => h)
            have hyw := HYW.out
            clear hby hbz
            by_cases hend : i + 1 < s.size
            · have hc2 := HC.out hend
              go_wp2
              refine bodyPost_ret (v := .tuple #[.agg #[.int .i64 4, .string ⟨acc.toArray⟩, .int .i64 (p : Nat)], .int .i64 ((i : Int) + 1), .agg #[.int .i64 0, .int .i64 0]]) (by simp [results, Tryd.results38, go_sem, z0, z1, z2, z3, z4]) rfl ?_
              refine ⟨by rw [HPI.out]; exact HEQ.out, ?_⟩
              repeat (refine Fr.setCell ?_ (fun h => absurd h (by first | (show ¬ y < _; omega) | (show ¬ y + 1 < _; omega))) _)
              exact F5.out
            · skip
              go_wp2
              refine bodyPost_ret (v := .tuple #[.agg #[.int .i64 4, .string ⟨acc.toArray⟩, .int .i64 (p : Nat)], .int .i64 ((i : Int) + 1), .agg #[.int .i64 0, .int .i64 0]]) (by simp [results, Tryd.results38, go_sem, z0, z1, z2, z3, z4]) rfl ?_
              refine ⟨by rw [HPI.out]; exact HEQ.out, ?_⟩
              repeat (refine Fr.setCell ?_ (fun h => absurd h (by first | (show ¬ y < _; omega) | (show ¬ y + 1 < _; omega))) _)
              exact F5.out
        · have hex : ∃ h : i + 1 < s.size, s[i + 1] = 39 := by
            refine Classical.byContradiction fun h => hc fun h1 h2 => h ⟨h1, h2⟩
          obtain ⟨hi2, hc39⟩ := hex
          have HNX := Lib.hid (HRQ.out.two hi0 hi2 hq hc39)
          have hc2 : ((s[i + 1].toNat : Int) != 39) = false := by have := (u8_39 _).2 hc39; simp; omega
          have hv39 : (s[i + 1].toNat : Int) = 39 := by have := (u8_39 _).2 hc39; omega
          have HLN : Hid ((acc ++ [(39 : UInt8)]).length = n + 1) := Lib.hid (by rw [List.length_append, HLN0.out]; rfl)
          have HMP : Hid ((acc ++ [(39 : UInt8)]).map (fun b => Value.int .u8 (b.toNat : Nat)) = acc.map (fun b => Value.int .u8 (b.toNat : Nat)) ++ [.int .u8 (s[i + 1].toNat : Int)]) := Lib.hid (by rw [List.map_append, hv39]; rfl)
          have hi3 := succ_lt hi2
          generalize acc.map (fun b => Value.int .u8 (b.toNat : Nat)) = R at *
          have hb2 := u8_lt s[i + 1]
          clear hc hq hc39 hv39
          go_upto_region 11 with fail
          go_wp2_with (at_builtin; refine wpList_append_lies _ (by rfl) _ _ 38 (by rfl) y3 5 i0 _ 1 1 Tryd.underlying38 hi00 hz0 hz1 hz2 rfl (by omega) (.slice A n c) _ _ (by rfl) (HROW.out.alloc _) ⟨wr.heap.size, 0, none⟩ 1 1 [.int .u8 (s[i + 1].toNat : Int)] (by rfl) (by rfl) (World.news_of_block (cs := #[.int .u8 (s[i + 1].toNat : Int)]) (t := 5) (fr := (0, 0)) (heap_alloc_new wr _)) (by simp [Value.oneCell']) (by omega) (by unfold maxLen; omega) (by omega) (by simp; omega) (wr.heap.size + 1) (by simp) ?_; intro g2 cap w6 hown6 hgrow6 hat6 hlt6; have HF7 := Lib.hid (HF6.out _ _ hgrow6); have HO6 := Lib.hid hown6; clear hgrow6 hat6 hown6)
          go_roundw
          case rel => exact ⟨i + 2, acc ++ [39], some ⟨g2, 0, none⟩, n + 1, cap, by go_num, by omega, by omega, by omega, rfl, HNX, HLN, Lib.hid (by rw [HMP.out]; exact HO6.out), HF7⟩
          case measure => simp [intOf]; omega
      · have h39 : ¬ s[i].toNat = 39 := fun h => hq ((u8_39 _).1 h)
        have hq2 : ((s[i].toNat : Int) == 39) = false := by simp; omega
        have HNX := Lib.hid (HRQ.out.other hi0 hlt hq)
        have HLN : Hid ((acc ++ [s[i]]).length = n + 1) := Lib.hid (by rw [List.length_append, HLN0.out]; rfl)
        have HMP : Hid ((acc ++ [s[i]]).map (fun b => Value.int .u8 (b.toNat : Nat)) = acc.map (fun b => Value.int .u8 (b.toNat : Nat)) ++ [.int .u8 (s[i].toNat : Int)]) := Lib.hid (by rw [List.map_append]; rfl)
        generalize acc.map (fun b => Value.int .u8 (b.toNat : Nat)) = R at *
        clear hq h39
        go_upto_region 11 with fail
        go_wp2_with (at_builtin; refine wpList_append_lies _ (by rfl) _ _ 38 (by rfl) y3 5 i0 _ 1 1 Tryd.underlying38 hi00 hz0 hz1 hz2 rfl (by omega) (.slice A n c) _ _ (by rfl) (HROW.out.alloc _) ⟨wr.heap.size, 0, none⟩ 1 1 [.int .u8 (s[i].toNat : Int)] (by rfl) (by rfl) (World.news_of_block (cs := #[.int .u8 (s[i].toNat : Int)]) (t := 5) (fr := (0, 0)) (heap_alloc_new wr _)) (by simp [Value.oneCell']) (by omega) (by unfold maxLen; omega) (by omega) (by simp; omega) (wr.heap.size + 1) (by simp) ?_; intro g2 cap w6 hown6 hgrow6 hat6 hlt6; have HF7 := Lib.hid (HF6.out _ _ hgrow6); have HO6 := Lib.hid hown6; clear hgrow6 hat6 hown6)
        go_roundw
        case rel => exact ⟨i + 1, acc ++ [s[i]], some ⟨g2, 0, none⟩, n + 1, cap, by go_num, by omega, by omega, by omega, rfl, HNX, HLN, Lib.hid (by rw [HMP.out]; exact HO6.out), HF7⟩
        case measure => simp [intOf]; omega
    · obtain rfl : i = s.size := by omega
      have HEQ := Lib.hid (HNO.out acc HRQ.out)
      have hby := HBY.out.of (HF.out.block y HBY.out.lt id)
      have hbz := HBZ.out.of (HF.out.block (y + 1) HBZ.out.lt id)
      have z0 : wr.cell? ⟨y, 0, none⟩ = some (.int .i64 0) := hby.cell 0
      have z1 : wr.cell? ⟨y, 1, none⟩ = some (.string ⟨#[]⟩) := hby.cell 1
      have z2 : wr.cell? ⟨y, 2, none⟩ = some (.int .i64 0) := hby.cell 2
      have z3 : wr.cell? ⟨y + 1, 0, none⟩ = some (.int .i64 0) := hbz.cell 0
      have z4 : wr.cell? ⟨y + 1, 1, none⟩ = some (.int .i64 0) := hbz.cell 1
      have x0 := hby.frozen 0
      have x1 := hby.frozen 1
      have x2 := hby.frozen 2
      have x3 := hbz.frozen 0
      have x4 := hbz.frozen 1
      have F5 := Lib.hid (F2.out.trans HF.out fun _ _ h => h)
      have hyw := HYW.out
      clear hby hbz
      go_wp2
      refine bodyPost_ret (v := .tuple #[.agg #[.int .i64 0, .string ⟨#[]⟩, .int .i64 0], .int .i64 0, .agg #[.int .i64 40, .int .i64 (p : Nat)]]) (by simp [results, Tryd.results38, go_sem, z0, z1, z2, z3, z4]) rfl ?_
      refine ⟨HEQ.out, ?_⟩
      repeat (refine Fr.setCell ?_ (fun h => absurd h (by first | (show ¬ y < _; omega) | (show ¬ y + 1 < _; omega))) _)
      exact F5.out
end Go.Proofs.YtaaleodffghbdaaDoor
