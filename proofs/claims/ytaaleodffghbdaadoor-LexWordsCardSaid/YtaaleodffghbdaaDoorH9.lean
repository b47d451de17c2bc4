/- LexWords, walked: the law. -/
import Derived.Test.YtaaleodffghbdaaDoorH8
namespace Go.Proofs.YtaaleodffghbdaaDoor
open Go.RowKit Go.Maps
set_option linter.unusedVariables false

theorem RowAt.write {B n j : Nat} {w : World} {A : Option Addr} (h : RowAt B w A n) (hj : j < n) : ∃ g, A = some ⟨g, 0, none⟩ ∧ B ≤ g ∧
    (∃ u, w.cell? ⟨g, j * 3, none⟩ = some u) ∧ (∃ u, w.cell? ⟨g, j * 3 + 1, none⟩ = some u) ∧ (∃ u, w.cell? ⟨g, j * 3 + 2, none⟩ = some u) ∧
    w.frozen? ⟨g, j * 3, none⟩ = false ∧ w.frozen? ⟨g, j * 3 + 1, none⟩ = false ∧ w.frozen? ⟨g, j * 3 + 2, none⟩ = false ∧
    ∀ a b c : Value, RowAt B (((w.setCell ⟨g, j * 3, none⟩ a).setCell ⟨g, j * 3 + 1, none⟩ b).setCell ⟨g, j * 3 + 2, none⟩ c) A n := by
  obtain ⟨g, cs, h1, h2, h3, h4⟩ := h.at_ (by omega)
  refine ⟨g, h1, h4, ⟨cs[j * 3]'(by omega), ?_⟩, ⟨cs[j * 3 + 1]'(by omega), ?_⟩, ⟨cs[j * 3 + 2]'(by omega), ?_⟩, h2.frozen _, h2.frozen _, h2.frozen _, fun a b c => ⟨fun hn => ⟨g, _, h1, ((h2.set_ _ a).set_ _ b).set_ _ c, ?_, h4⟩⟩⟩
  · rw [h2.cell]; exact Array.getElem?_eq_getElem _
  · rw [h2.cell]; exact Array.getElem?_eq_getElem _
  · rw [h2.cell]; exact Array.getElem?_eq_getElem _
  · simp only [Array.size_setIfInBounds]; exact h3
theorem fr_set3 {w4 wx : World} {g : Nat} (h : Fr No w4 wx) (hg : w4.heap.size ≤ g) (j : Nat) : ∀ a b c : Value, Fr No w4 (((wx.setCell ⟨g, j * 3, none⟩ a).setCell ⟨g, j * 3 + 1, none⟩ b).setCell ⟨g, j * 3 + 2, none⟩ c) := fun a b c =>
  ((h.setCell (p := ⟨g, j * 3, none⟩) (fun h => absurd h (by show ¬ g < _; omega)) a).setCell (p := ⟨g, j * 3 + 1, none⟩) (fun h => absurd h (by show ¬ g < _; omega)) b).setCell (p := ⟨g, j * 3 + 2, none⟩) (fun h => absurd h (by show ¬ g < _; omega)) c
set_option maxRecDepth 100000 in
set_option maxHeartbeats 8000000 in
theorem lexwords_any (s : ByteArray) (w : World) (hL : Lr w) (hs : s.size ≤ maxLen) : Calls Tryd.prog 3 #[.string s] w (TrueP w) := by
  have HLR : Hid (∀ w', Fr No w w' → Lr w') := Lib.hid fun w' hf => hL.keep hL.lt hf.below
  have HAW := Lib.hid (awake_any w hL)
  obtain ⟨ws, c, f, hw⟩ : ∃ ws c f, wordsB s.data.toList = (ws, c, f) := ⟨_, _, _, rfl⟩
  have HW : Hid (∀ w', Fr No w w' → Calls Tryd.prog 11 #[.string s] w' fun e w'' => ∃ v, e = .returned (.tuple #[v, .agg #[.int .i64 (c : Nat), .int .i64 (f : Nat)]]) ∧ LW w'' v ws ∧ Fr No w' w'' ∧ RowW w'.heap.size w'' v ws) := Lib.hid fun w' hf => by
    refine (l_words s w' (HLR.out w' hf) hs hw).mono ?_
    rintro e w'' ⟨v, h1, h2, h3, _, h4⟩
    exact ⟨v, h1, h2, h3, h4⟩
  have HR : Hid (∀ w', Calls Tryd.prog 10 #[.string s] w' (RWs ws c f w')) := Lib.hid fun w' => refWords_any s w' hs hw
  obtain ⟨n, hn⟩ : ∃ n, ws.length = n := ⟨_, rfl⟩
  have HN := Lib.hid hn
  have hqn := fun (a b : Int) (w : World) => neq26 a b w
  have hgd := guard26 .neq (.inr rfl)
  clear hL hw hn
  go_enter Tryd.func3, Tryd.ntmps3
  go_wp2_with fail
  refine HAW.out.mono ?_
  rintro e w1 ⟨rfl, f1⟩
  have F1 := Lib.hid f1
  clear f1
  go_wp2_with fail
  refine (HR.out w1).mono ?_
  rintro e w3 ⟨v0, rfl, h3, f3⟩
  obtain ⟨y, hy⟩ : ∃ y, w3.heap.size = y := ⟨_, rfl⟩
  obtain ⟨w4, hw4⟩ : ∃ w4, w3.alloc (.cells #[.int .i64 (c : Nat), .int .i64 (f : Nat)] 26) = w4 := ⟨_, rfl⟩
  have HB4 : Hid (Blk w4 y 26 #[.int .i64 (c : Nat), .int .i64 (f : Nat)]) := Lib.hid (by rw [← hw4, ← hy]; exact Blk.new w3 26 _)
  have f34 : Fr No w3 w4 := by rw [← hw4]; exact (Fr.refl No w3).alloc _
  have F4 : Hid (Fr No w w4) := Lib.hid (((F1.out.trans f3 fun _ _ h => h)).trans f34 fun _ _ h => h)
  have HLW := Lib.hid (h3.keep f34)
  have HW4 := Lib.hid hw4
  have HY := Lib.hid hy
  clear hw4 hy f3 f34 h3
  go_upto_region 3 with fail
  rw [HW4.out, HY.out]
  go_wp2
  go_loopw [6, 7, 8, 9, 10] (fun iv vv bv qv jv wr => ∃ i : Nat, iv = .int .i64 (i : Nat) ∧ i ≤ 2 ∧ Hid (Fr No w4 wr)) (fun iv _ _ _ _ _ => 2 - (intOf iv).toNat)
  case atStart => exact ⟨0, rfl, Nat.zero_le _, Lib.hid (Fr.refl _ _)⟩
  case round =>
    obtain ⟨i, rfl, hi, HF⟩ := hrel
    by_cases hlt : i < 2
    · have hi1 : (i : Int) < 2 := by omega
      have HC := Lib.hid (HW.out wr (F4.out.trans HF.out fun _ _ h => h))
      go_wp2_with fail
      refine HC.out.mono ?_
      rintro e w5 ⟨v, rfl, h5, f5, hrow⟩
      have hlw5 := h5
      obtain ⟨A, cv, hv, hl, _⟩ := h5
      rw [HN.out] at hv hl
      subst hv
      obtain ⟨z, hz⟩ : ∃ z, w5.heap.size = z := ⟨_, rfl⟩
      obtain ⟨w6, hw6⟩ : ∃ w6, w5.alloc (.cells #[.int .i64 (c : Nat), .int .i64 (f : Nat)] 26) = w6 := ⟨_, rfl⟩
      have hb6 : Blk w6 z 26 #[.int .i64 (c : Nat), .int .i64 (f : Nat)] := by rw [← hw6, ← hz]; exact Blk.new w5 26 _
      have f56 : Fr No w5 w6 := by rw [← hw6]; exact (Fr.refl No w5).alloc _
      have hF6 : Fr No w4 w6 := (HF.out.trans f5 fun _ _ h => h).trans f56 fun _ _ h => h
      have HF6 := Lib.hid hF6
      have HB6 := Lib.hid hb6
      have HBY6 : Hid (Blk w6 y 26 #[.int .i64 (c : Nat), .int .i64 (f : Nat)]) := Lib.hid (HB4.out.of (hF6.block y HB4.out.lt id))
      have HSM := Lib.hid (same_true _ _ _ _ (hlw5.keep f56) (HLW.out.keep hF6))
      have HRA : Hid (RowAt w4.heap.size w6 A n) := Lib.hid ⟨fun h0 => by
        obtain ⟨g, cs, k1, k2, k3, k4⟩ := ((RowAt.of_row hrow).frame f56).at_ h0
        exact ⟨g, cs, k1, k2, k3, Nat.le_trans HF.out.size k4⟩⟩
      have HZ := Lib.hid hz
      have HW6 := Lib.hid hw6
      clear hz hw6 hb6 f56 hF6 hlw5 hrow f5
      go_upto_region 7 with fail
      rw [HZ.out, HW6.out]
      go_wp2_with fail
      refine HSM.out.mono ?_
      rintro e w7 ⟨rfl, q, hw7⟩
      have f67 : Fr No w6 w7 := by rw [hw7]; exact (Fr.refl No w6).drewN q
      have hb7 : Blk w7 z 26 #[.int .i64 (c : Nat), .int .i64 (f : Nat)] := HB6.out.of (f67.block z HB6.out.lt id)
      have hby7 : Blk w7 y 26 #[.int .i64 (c : Nat), .int .i64 (f : Nat)] := HBY6.out.of (f67.block y HBY6.out.lt id)
      have k0 : w7.cell? ⟨z, 0, none⟩ = some (.int .i64 (c : Nat)) := hb7.cell 0
      have k1 : w7.cell? ⟨z, 1, none⟩ = some (.int .i64 (f : Nat)) := hb7.cell 1
      have l0 : w7.cell? ⟨y, 0, none⟩ = some (.int .i64 (c : Nat)) := hby7.cell 0
      have l1 : w7.cell? ⟨y, 1, none⟩ = some (.int .i64 (f : Nat)) := hby7.cell 1
      have HF7 := Lib.hid (HF6.out.trans f67 fun _ _ h => h)
      have HRA7 := Lib.hid (HRA.out.frame f67)
      clear hw7 f67 hb7 hby7
      go_wp2
      clear k0 k1 l0 l1
      go_loopw [10] (fun jv wx => ∃ j : Nat, jv = .int .i64 (j : Nat) ∧ j ≤ n ∧ Hid (RowAt w4.heap.size wx A n) ∧ Hid (Fr No w4 wx)) (fun jv _ => n - (intOf jv).toNat)
      case atStart => exact ⟨0, rfl, Nat.zero_le _, HRA7, HF7⟩
      case round =>
        obtain ⟨j, rfl, hj, HRJ, HFJ⟩ := hrel
        by_cases hjn : j < n
        · obtain ⟨g, rfl, hg, ⟨u0, c0⟩, ⟨u1, c1⟩, ⟨u2, c2⟩, z0, z1, z2, hnx⟩ := HRJ.out.write hjn
          have HNX := Lib.hid hnx
          have HFX := Lib.hid (fr_set3 HFJ.out hg j)
          have hj0 : (0 : Int) ≤ (j : Int) := by omega
          have hj1 : (j : Int) < (n : Int) := by omega
          clear hnx hg
          go_wp2
          go_roundw
          case rel => exact ⟨j + 1, by go_num, by omega, Lib.hid (HNX.out _ _ _), Lib.hid (HFX.out _ _ _)⟩
          case measure => simp [intOf]; omega
        · obtain rfl : j = n := by omega
          go_wp2
          go_roundw
          case rel => exact ⟨i + 1, by go_num, by omega, HFJ⟩
          case measure => simp [intOf]; omega
    · obtain rfl : i = 2 := by omega
      go_wp2
      go_ret
      exact ⟨rfl, F4.out.trans HF.out fun _ _ h => h⟩
end Go.Proofs.YtaaleodffghbdaaDoor
