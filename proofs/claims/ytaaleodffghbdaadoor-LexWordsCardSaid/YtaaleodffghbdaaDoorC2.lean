/- IsName; awake; lists compared; a word as it stands. -/
import Derived.Test.YtaaleodffghbdaaDoorC1
namespace Go.Proofs.YtaaleodffghbdaaDoor
open Go.RowKit Go.Maps
set_option linter.unusedVariables false

def nameB (l : Tx) : Bool := decide (l.length ≤ 32 ∧ firstB l = 2 ∧ runB goB l = l.length ∧ ¬ l.map capB ∈ kws)
def QuietB (b : Bool) (w : World) (e : Ending) (w' : World) : Prop := e = .returned (.bool b) ∧ ∃ n, w' = w.drewN n
set_option maxRecDepth 100000 in
set_option maxHeartbeats 1000000 in
theorem isName_any (s : ByteArray) (w : World) (hL : Lr w) (hs : s.size ≤ maxLen) : Calls Tryd.prog 13 #[.string s] w (QuietB (nameB s.data.toList) w) := by
  have HF := Lib.hid (first_any s w hL)
  have HR := Lib.hid (run_goes s w hL hs)
  have HK := Lib.hid (isKeyword_any s w hL hs)
  have hV : nameB s.data.toList = decide (s.size ≤ 32 ∧ firstB s.data.toList = 2 ∧ runB goB s.data.toList = s.size ∧ ¬ s.data.toList.map capB ∈ kws) := by unfold nameB; rw [len_data]
  have hle := runB_le goB s.data.toList
  rw [len_data] at hle
  rw [hV]
  clear hL hV
  unfold maxLen at hs
  obtain ⟨K, hK⟩ : ∃ K, decide (s.data.toList.map capB ∈ kws) = K := ⟨_, rfl⟩
  rw [hK] at HK
  have hK2 : (s.data.toList.map capB ∈ kws) ↔ K = true := by rw [← hK]; simp
  generalize firstB s.data.toList = F at *
  generalize runB goB s.data.toList = R at *
  clear hK
  by_cases h1 : s.size ≤ 32
  · by_cases h2 : F = 2
    · subst h2
      by_cases h3 : R = s.size
      · have h3' : ((R : Int) == (s.size : Int)) = true := by simp; omega
        have HV : Hid (decide (s.size ≤ 32 ∧ (2 : Nat) = 2 ∧ R = s.size ∧ ¬ s.data.toList.map capB ∈ kws) = !K) := Lib.hid (by
          cases K with
          | true => simp [hK2]
          | false => simp [hK2, h1, h3])
        clear hK2 h3
        go_enter Tryd.func13, Tryd.ntmps13
        go_wp2_with (first | (go_at_call 25; refine HF.out.mono ?_; rintro e w' ⟨rfl, rfl⟩) | (go_at_call 22; refine HR.out.mono ?_; rintro e w' ⟨rfl, rfl⟩) | (go_at_call 15; refine HK.out.mono ?_; rintro e w' ⟨rfl, q, rfl⟩))
        go_ret
        exact ⟨ret_bool (by rw [HV.out]), _, rfl⟩
      · have h3' : ((R : Int) == (s.size : Int)) = false := by simp; omega
        have HV : Hid (decide (s.size ≤ 32 ∧ (2 : Nat) = 2 ∧ R = s.size ∧ ¬ s.data.toList.map capB ∈ kws) = false) := Lib.hid (by simp [h3])
        clear hK2 h3
        go_enter Tryd.func13, Tryd.ntmps13
        go_wp2_with (first | (go_at_call 25; refine HF.out.mono ?_; rintro e w' ⟨rfl, rfl⟩) | (go_at_call 22; refine HR.out.mono ?_; rintro e w' ⟨rfl, rfl⟩) | (go_at_call 15; refine HK.out.mono ?_; rintro e w' ⟨rfl, q, rfl⟩))
        go_ret
        exact ⟨ret_bool (by first | rfl | rw [HV.out]), 0, rfl⟩
    · have h2' : ((F : Int) == 2) = false := by simp; omega
      have HV : Hid (decide (s.size ≤ 32 ∧ F = 2 ∧ R = s.size ∧ ¬ s.data.toList.map capB ∈ kws) = false) := Lib.hid (by simp [h2])
      clear hK2 h2
      go_enter Tryd.func13, Tryd.ntmps13
      go_wp2_with (first | (go_at_call 25; refine HF.out.mono ?_; rintro e w' ⟨rfl, rfl⟩) | (go_at_call 22; refine HR.out.mono ?_; rintro e w' ⟨rfl, rfl⟩) | (go_at_call 15; refine HK.out.mono ?_; rintro e w' ⟨rfl, q, rfl⟩))
      go_ret
      exact ⟨ret_bool (by first | rfl | rw [HV.out]), 0, rfl⟩
  · have HV : Hid (decide (s.size ≤ 32 ∧ F = 2 ∧ R = s.size ∧ ¬ s.data.toList.map capB ∈ kws) = false) := Lib.hid (by simp [h1])
    clear hK2
    go_enter Tryd.func13, Tryd.ntmps13
    go_wp2_with (first | (go_at_call 25; refine HF.out.mono ?_; rintro e w' ⟨rfl, rfl⟩) | (go_at_call 22; refine HR.out.mono ?_; rintro e w' ⟨rfl, rfl⟩) | (go_at_call 15; refine HK.out.mono ?_; rintro e w' ⟨rfl, q, rfl⟩))
    go_ret
    exact ⟨ret_bool (by first | rfl | rw [HV.out]), 0, rfl⟩

/-! ### lists compared -/
set_option maxHeartbeats 1600000 in
theorem same_true (u v : Value) (l : List Wd) (w : World) (hu : LW w u l) (hv : LW w v l) : Calls Tryd.prog 12 #[u, v] w (QuietB true w) := by
  obtain ⟨A, c, rfl, hl, hA⟩ := hu
  obtain ⟨C, c2, rfl, _, hC⟩ := hv
  have HA := Lib.hid hA
  have HC := Lib.hid hC
  obtain ⟨n, hn⟩ : ∃ n, l.length = n := ⟨_, rfl⟩
  have HN := Lib.hid hn
  rw [hn] at hl ⊢
  clear hA hC hn
  go_enter Tryd.func12, Tryd.ntmps12
  go_wp2
  go_loopw [5] (fun iv wr => ∃ k : Nat, iv = .int .i64 k ∧ k ≤ n ∧ ∃ q, wr = w.drewN q) (fun iv _ => n - (intOf iv).toNat)
  case atStart => exact ⟨0, rfl, Nat.zero_le _, 0, rfl⟩
  case round =>
    obtain ⟨k, rfl, hk, q, hq⟩ := hrel
    by_cases hlt : k < n
    · obtain ⟨g, rfl, _, h1⟩ := HA.out (by rw [HN.out]; omega)
      obtain ⟨g2, rfl, _, h2⟩ := HC.out (by rw [HN.out]; omega)
      have hkl : k < l.length := by rw [HN.out]; exact hlt
      obtain ⟨a0, a1, a2⟩ := h1 k _ (List.getElem?_eq_getElem hkl)
      obtain ⟨b0, b1, b2⟩ := h2 k _ (List.getElem?_eq_getElem hkl)
      have hcell : ∀ (g i : Nat) (u : Value), w.cell? ⟨g, i, none⟩ = some u → wr.cell? ⟨g, i, none⟩ = some u := fun g i u h => by rw [hq]; exact h
      have a0 := hcell _ _ _ a0
      have a1 := hcell _ _ _ a1
      have a2 := hcell _ _ _ a2
      have b0 := hcell _ _ _ b0
      have b1 := hcell _ _ _ b1
      have b2 := hcell _ _ _ b2
      have hqq := fun (w : World) => neq31 (l[k].kind : Nat) (l[k].pos : Nat) ⟨l[k].text.toArray⟩ w
      have hgd := guard31 .neq (.inr rfl)
      have HQ := Lib.hid hq
      have hi0 : (0 : Int) ≤ (k : Int) := by omega
      have hi1 : (k : Int) < (n : Int) := by omega
      generalize ((l[k].kind : Nat) : Int) = ck at *
      generalize ((l[k].pos : Nat) : Int) = cp at *
      generalize (⟨l[k].text.toArray⟩ : ByteArray) = ct at *
      clear h1 h2 hcell hq
      go_upto_region 6 with fail
      go_quiet (fail)
      go_wp2
      go_roundw
      case rel => exact ⟨k + 1, by go_num, by omega, _, by rw [HQ.out, World.drewN_drewN]⟩
      case measure => simp [intOf]; omega
    · obtain rfl : k = n := by omega
      have HQ := Lib.hid hq
      clear hq
      go_wp2
      go_ret
      exact ⟨rfl, q, HQ.out⟩

/-! ### awake -/
def L1 : List Wd := [⟨1, [120], 0⟩, ⟨5, [60, 62], 1⟩, ⟨4, [105, 116, 39, 115], 3⟩, ⟨6, [], 10⟩]
theorem words1 : wordsB [120, 60, 62, 39, 105, 116, 39, 39, 115, 39] = (L1, 0, 0) := by decide +kernel
theorem words2 : wordsB [97, 32, 55, 98] = ([], 40, 3) := by decide +kernel
theorem name3 : nameB [97, 98, 99] = true := by decide +kernel
theorem kw3 : decide ((([115, 117, 109] : Tx)).map capB ∈ kws) = true := by decide +kernel
set_option maxRecDepth 100000 in
set_option maxHeartbeats 2000000 in
theorem awake_any (w : World) (hL : Lr w) : Calls Tryd.prog 9 #[] w fun e w' => e = .returned (.bool true) ∧ Fr No w w' := by
  have HW1 : Hid (Calls Tryd.prog 11 #[.string ⟨#[120, 60, 62, 39, 105, 116, 39, 39, 115, 39]⟩] w fun e w' => ∃ v, e = .returned (.tuple #[v, .agg #[.int .i64 0, .int .i64 0]]) ∧ LW w' v L1 ∧ Fr No w w') := Lib.hid (by
    refine (l_words ⟨#[120, 60, 62, 39, 105, 116, 39, 39, 115, 39]⟩ w hL (by decide) words1).mono ?_
    rintro e w' ⟨v, h1, h2, h3, _⟩
    exact ⟨v, h1, h2, h3⟩)
  have HLR : Hid (∀ w', Fr No w w' → Lr w') := Lib.hid fun w' hf => hL.keep hL.lt hf.below
  have hq := fun (a b c d : Int) (w : World) => eql26 a b c d w
  have hgd := guard26 .eql (.inl rfl)
  clear hL
  go_enter Tryd.func9, Tryd.ntmps9
  go_wp2_with fail
  refine HW1.out.mono ?_
  rintro e w1 ⟨v, rfl, h1, f1⟩
  obtain ⟨A, c, rfl, _, hA⟩ := h1
  obtain ⟨g, rfl, hg, hk⟩ := hA (by decide)
  obtain ⟨y1, hy1⟩ : ∃ y1, w1.heap.size = y1 := ⟨_, rfl⟩
  obtain ⟨w2, hw2⟩ : ∃ w2, w1.alloc (.cells #[.int .i64 0, .int .i64 0] 26) = w2 := ⟨_, rfl⟩
  have f2 : Fr No w1 w2 := by rw [← hw2]; exact (Fr.refl No w1).alloc _
  have hb2 : Blk w2 y1 26 #[.int .i64 0, .int .i64 0] := by rw [← hw2, ← hy1]; exact Blk.new w1 26 _
  have F2 := Lib.hid (f1.trans f2 fun _ _ h => h)
  have HB2 := Lib.hid hb2
  have HY1 := Lib.hid hy1
  have HW2 := Lib.hid hw2
  have hG : ∀ i u, w1.cell? ⟨g, i, none⟩ = some u → w2.cell? ⟨g, i, none⟩ = some u := fun i u h => by
    rw [← h]
    simp only [World.cell?]
    rw [f2.block g hg id]
  have g4 : w2.cell? ⟨g, 4, none⟩ = some (.string ⟨#[60, 62]⟩) := hG _ _ (hk 1 _ rfl).2.1
  have g7 : w2.cell? ⟨g, 7, none⟩ = some (.string ⟨#[105, 116, 39, 115]⟩) := hG _ _ (hk 2 _ rfl).2.1
  have g11 : w2.cell? ⟨g, 11, none⟩ = some (.int .i64 10) := hG _ _ (hk 3 _ rfl).2.2
  have hg2 : g < w2.heap.size := Nat.lt_of_lt_of_le hg f2.size
  have HG : Hid (∀ w3, Fr No w2 w3 → w3.cell? ⟨g, 4, none⟩ = some (.string ⟨#[60, 62]⟩) ∧ w3.cell? ⟨g, 7, none⟩ = some (.string ⟨#[105, 116, 39, 115]⟩) ∧ w3.cell? ⟨g, 11, none⟩ = some (.int .i64 10) ∧ w3.cell? ⟨y1, 0, none⟩ = some (.int .i64 0) ∧ w3.cell? ⟨y1, 1, none⟩ = some (.int .i64 0)) := Lib.hid fun w3 f3 => by
    have hx : ∀ i u, w2.cell? ⟨g, i, none⟩ = some u → w3.cell? ⟨g, i, none⟩ = some u := fun i u h => by
      rw [← h]
      simp only [World.cell?]
      rw [f3.block g hg2 id]
    have hb3 := hb2.of (f3.block y1 hb2.lt id)
    exact ⟨hx _ _ g4, hx _ _ g7, hx _ _ g11, hb3.cell 0, hb3.cell 1⟩
  have HL2 := Lib.hid (HLR.out w2 F2.out)
  have HC2 : Hid (Calls Tryd.prog 11 #[.string ⟨#[97, 32, 55, 98]⟩] w2 fun e w' => ∃ v, e = .returned (.tuple #[v, .agg #[.int .i64 40, .int .i64 3]]) ∧ LW w' v [] ∧ Fr No w2 w') := Lib.hid (by
    refine (l_words ⟨#[97, 32, 55, 98]⟩ w2 HL2.out (by decide) words2).mono ?_
    rintro e w' ⟨v, h1, h2, h3, _⟩
    exact ⟨v, h1, h2, h3⟩)
  clear f1 f2 hb2 hy1 hw2 hG g4 g7 g11 hA hk hg
  go_wp2_with fail
  rw [HW2.out, HY1.out]
  refine HC2.out.mono ?_
  rintro e w3 ⟨v3, rfl, h3, f3⟩
  obtain ⟨A3, c3, rfl, _, _⟩ := h3
  obtain ⟨y3, hy3⟩ : ∃ y3, w3.heap.size = y3 := ⟨_, rfl⟩
  obtain ⟨w4, hw4⟩ : ∃ w4, w3.alloc (.cells #[.int .i64 40, .int .i64 3] 26) = w4 := ⟨_, rfl⟩
  have f4 : Fr No w2 w4 := by rw [← hw4]; exact f3.alloc _
  have hb4 : Blk w4 y3 26 #[.int .i64 40, .int .i64 3] := by rw [← hw4, ← hy3]; exact Blk.new w3 26 _
  have HW4 := Lib.hid hw4
  have HY3 := Lib.hid hy3
  obtain ⟨g4, g7, g11, k0, k1⟩ := HG.out w4 f4
  have k2 : w4.cell? ⟨y3, 0, none⟩ = some (.int .i64 40) := hb4.cell 0
  have k3 : w4.cell? ⟨y3, 1, none⟩ = some (.int .i64 3) := hb4.cell 1
  have F4 := Lib.hid (F2.out.trans f4 fun _ _ h => h)
  have HL4 := Lib.hid (HLR.out w4 F4.out)
  have HNM : Hid (Calls Tryd.prog 13 #[.string ⟨#[97, 98, 99]⟩] w4 (QuietB true w4)) := Lib.hid (by
    have := isName_any ⟨#[97, 98, 99]⟩ w4 HL4.out (by decide)
    rw [show nameB (ByteArray.mk #[97, 98, 99]).data.toList = true from name3] at this
    exact this)
  have HKW : Hid (∀ n, Calls Tryd.prog 15 #[.string ⟨#[115, 117, 109]⟩] (w4.drewN n) fun e w' => e = .returned (.bool true) ∧ ∃ m, w' = (w4.drewN n).drewN m) := Lib.hid fun n => by
    have := isKeyword_any ⟨#[115, 117, 109]⟩ (w4.drewN n) (HLR.out _ (F4.out.drewN n)) (by decide)
    rw [show decide ((ByteArray.mk #[115, 117, 109]).data.toList.map capB ∈ kws) = true from kw3] at this
    exact this
  have HQT : Hid (∀ n, Calls Tryd.prog 17 #[.string ⟨#[39]⟩] (w4.drewN n) fun e w' => e = .returned (.string ⟨#[39, 39, 39, 39]⟩) ∧ Fr No (w4.drewN n) w') := Lib.hid fun n => quote_any ⟨#[39]⟩ (w4.drewN n) (HLR.out _ (F4.out.drewN n)) (by decide)
  clear hw4 hy3 hb4 f3 f4
  go_upto_region 3 with fail
  rw [HW4.out, HY3.out]
  go_wp2_with fail
  refine HNM.out.mono ?_
  rintro e w5 ⟨rfl, n5, rfl⟩
  go_wp2_with fail
  refine (HKW.out n5).mono ?_
  rintro e w6 ⟨rfl, n6, rfl⟩
  rw [World.drewN_drewN]
  go_wp2_with fail
  refine (HQT.out _).mono ?_
  rintro e w7 ⟨rfl, f7⟩
  have F7 := Lib.hid ((F4.out.drewN (n5 + n6)).trans f7 fun _ _ h => h)
  clear f7
  go_wp2
  go_ret
  exact ⟨rfl, F7.out⟩
end Go.Proofs.YtaaleodffghbdaaDoor
