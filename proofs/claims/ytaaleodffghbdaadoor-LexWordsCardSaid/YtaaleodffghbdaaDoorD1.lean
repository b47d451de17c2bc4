/- LexQuotes, walked. -/
import Derived.Test.YtaaleodffghbdaaDoorC2
namespace Go.Proofs.YtaaleodffghbdaaDoor
open Go.RowKit Go.Maps
set_option linter.unusedVariables false

theorem quote_word (t : Tx) : wordT (quoteB t) = if 64 < t.length then .bad 45 0 else .good 4 t (quoteB t).length := by
  have hu : unq (dbl t ++ [39]) = some (t, (dbl t).length + 1) := unq_dbl t [] (by simp)
  have e : quoteB t = 39 :: (dbl t ++ [39]) := rfl
  have hf : firstB (39 :: (dbl t ++ [39])) = 4 := by show kindB 39 = 4; decide
  unfold wordT quotedT
  rw [e, if_neg (by omega), if_neg (by omega), if_pos hf]
  simp only [List.drop_succ_cons, List.drop_zero, hu]
  simp
theorem words_quote (t : Tx) : wordsB (quoteB t) = if 4096 < (quoteB t).length ∨ 64 < t.length then ([], 45, 0) else ([⟨4, t, 0⟩, ⟨6, [], (quoteB t).length⟩], 0, 0) := by
  have hf : firstB (quoteB t) = 4 := by show kindB 39 = 4; decide
  have hw := quote_word t
  by_cases h1 : 4096 < (quoteB t).length
  · rw [if_pos (.inl h1)]
    unfold wordsB; rw [if_pos h1]
  · rw [wordsB_scan _ (by omega)]
    by_cases h2 : 64 < t.length
    · rw [if_pos (.inr h2)]
      rw [if_pos h2] at hw
      rw [scanB_bad 0 (by omega) (by simp [quoteB]) hw]
    · rw [if_neg (by rintro (h | h); exact h1 h; exact h2 h)]
      rw [if_neg h2] at hw
      rw [scanB_good 0 (by omega) (by simp [quoteB]) hw, List.drop_length, scanB_end]
      simp [cons1]
theorem quoteB_len (t : Tx) : t.length + 2 ≤ (quoteB t).length ∧ (quoteB t).length ≤ 2 * t.length + 2 := by
  have h : t.length ≤ (dbl t).length ∧ (dbl t).length ≤ 2 * t.length := by
    induction t with
    | nil => exact ⟨Nat.le_refl _, Nat.le_refl _⟩
    | cons b t ih => rw [dbl_cons]; split <;> simp <;> omega
  simp [quoteB]; omega
def TrueP (w : World) (e : Ending) (w' : World) : Prop := e = .returned (.bool true) ∧ Fr No w w'
set_option maxRecDepth 100000 in
set_option maxHeartbeats 4000000 in
theorem lexquotes_any (s : ByteArray) (w : World) (hL : Lr w) (hs : s.size ≤ 4000000) : Calls Tryd.prog 6 #[.string s] w (TrueP w) := by
  have HLR : Hid (∀ w', Fr No w w' → Lr w') := Lib.hid fun w' hf => hL.keep hL.lt hf.below
  have HAW := Lib.hid (awake_any w hL)
  have hq := fun (a b c d : Int) (w : World) => eql26 a b c d w
  have hgd := guard26 .eql (.inl rfl)
  have hgd3 := guard31 .eql (.inl rfl)
  have HQT : Hid (∀ w', Fr No w w' → Calls Tryd.prog 17 #[.string s] w' fun e w'' => e = .returned (.string ⟨(quoteB s.data.toList).toArray⟩) ∧ Fr No w' w'') := Lib.hid fun w' hf => quote_any s w' (HLR.out w' hf) (by omega)
  have hql := quoteB_len s.data.toList
  rw [len_data] at hql
  have hWQ := words_quote s.data.toList
  obtain ⟨Q, hQ⟩ : ∃ Q, quoteB s.data.toList = Q := ⟨_, rfl⟩
  rw [hQ] at HQT hql hWQ
  rw [len_data] at hWQ
  have hQs : (⟨Q.toArray⟩ : ByteArray).size = Q.length := by rw [← len_data]
  have HW : Hid (∀ l c f, wordsB Q = (l, c, f) → ∀ w', Fr No w w' → Calls Tryd.prog 11 #[.string ⟨Q.toArray⟩] w' fun e w'' => ∃ v, e = .returned (.tuple #[v, .agg #[.int .i64 (c : Nat), .int .i64 (f : Nat)]]) ∧ LW w'' v l ∧ Fr No w' w'') := Lib.hid fun l c f he w' hf => by
    refine (l_words ⟨Q.toArray⟩ w' (HLR.out w' hf) (by rw [hQs]; unfold maxLen; omega) he).mono ?_
    rintro e w'' ⟨v, h1, h2, h3, _⟩
    exact ⟨v, h1, h2, h3⟩
  obtain ⟨qb, hqb⟩ : ∃ qb, (⟨Q.toArray⟩ : ByteArray) = qb := ⟨_, rfl⟩
  rw [hqb] at HQT HW hQs
  clear hL hQ hqb
  obtain ⟨N, hN⟩ : ∃ N, Q.length = N := ⟨_, rfl⟩
  rw [hN] at hql hWQ hQs
  by_cases hbad : 4096 < N ∨ 64 < s.size
  · rw [if_pos hbad] at hWQ
    have HC : Hid (∀ w', Fr No w w' → Calls Tryd.prog 11 #[.string qb] w' fun e w'' => ∃ v, e = .returned (.tuple #[v, .agg #[.int .i64 45, .int .i64 0]]) ∧ LW w'' v [] ∧ Fr No w' w'') := Lib.hid fun w' hf => HW.out _ _ _ hWQ w' hf
    have HBAD := Lib.hid hbad
    clear hWQ HW hN hbad
    go_enter Tryd.func6, Tryd.ntmps6
    go_wp2_with fail
    refine HAW.out.mono ?_
    rintro e w1 ⟨rfl, f1⟩
    have F1 := Lib.hid f1
    clear f1
    go_wp2_with fail
    refine (HQT.out w1 F1.out).mono ?_
    rintro e w2 ⟨rfl, f2⟩
    have F2 := Lib.hid (F1.out.trans f2 fun _ _ h => h)
    clear f2
    go_wp2_with fail
    refine (HC.out w2 F2.out).mono ?_
    rintro e w3 ⟨v, rfl, h3, f3⟩
    obtain ⟨A, c, rfl, _, _⟩ := h3
    obtain ⟨y, hy⟩ : ∃ y, w3.heap.size = y := ⟨_, rfl⟩
    obtain ⟨w4, hw4⟩ : ∃ w4, w3.alloc (.cells #[.int .i64 45, .int .i64 0] 26) = w4 := ⟨_, rfl⟩
    have hb4 : Blk w4 y 26 #[.int .i64 45, .int .i64 0] := by rw [← hw4, ← hy]; exact Blk.new w3 26 _
    have F4 : Hid (Fr No w w4) := Lib.hid (by rw [← hw4]; exact (F2.out.trans f3 fun _ _ h => h).alloc _)
    have HW4 := Lib.hid hw4
    have HY := Lib.hid hy
    have k0 : w4.cell? ⟨y, 0, none⟩ = some (.int .i64 45) := hb4.cell 0
    have k1 : w4.cell? ⟨y, 1, none⟩ = some (.int .i64 0) := hb4.cell 1
    clear hb4 hw4 hy f3
    go_upto_region 4 with fail
    rw [HW4.out, HY.out]
    by_cases h4 : 4096 < N
    · have h4' : (4096 : Int) < (qb.size : Int) := by rw [hQs]; omega
      go_wp2
      go_ret
      exact ⟨rfl, F4.out⟩
    · have h4' : ¬ (4096 : Int) < (qb.size : Int) := by rw [hQs]; omega
      have h64 : (64 : Int) < (s.size : Int) := by rcases HBAD.out with h | h <;> omega
      go_wp2
      go_ret
      exact ⟨rfl, F4.out⟩
  · rw [if_neg hbad] at hWQ
    have HC : Hid (∀ w', Fr No w w' → Calls Tryd.prog 11 #[.string qb] w' fun e w'' => ∃ v, e = .returned (.tuple #[v, .agg #[.int .i64 0, .int .i64 0]]) ∧ LW w'' v [⟨4, s.data.toList, 0⟩, ⟨6, [], N⟩] ∧ Fr No w' w'') := Lib.hid fun w' hf => HW.out _ _ _ hWQ w' hf
    have h4 : ¬ 4096 < N := fun h => hbad (.inl h)
    have h64 : ¬ (64 : Int) < (s.size : Int) := fun h => hbad (.inr (by omega))
    have h4' : ¬ (4096 : Int) < (qb.size : Int) := by rw [hQs]; omega
    have HQS := Lib.hid hQs
    have hN9 : N ≤ 4096 := by omega
    have hq3 := fun (w : World) => eql31 4 0 s w
    have hnn : ((N : Int) == (qb.size : Int)) = true := by rw [hQs]; simp
    clear hWQ HW hN hbad hQs
    go_enter Tryd.func6, Tryd.ntmps6
    go_wp2_with fail
    refine HAW.out.mono ?_
    rintro e w1 ⟨rfl, f1⟩
    have F1 := Lib.hid f1
    clear f1
    go_wp2_with fail
    refine (HQT.out w1 F1.out).mono ?_
    rintro e w2 ⟨rfl, f2⟩
    have F2 := Lib.hid (F1.out.trans f2 fun _ _ h => h)
    clear f2
    go_wp2_with fail
    refine (HC.out w2 F2.out).mono ?_
    rintro e w3 ⟨v, rfl, h3, f3⟩
    obtain ⟨A, c, rfl, _, hA⟩ := h3
    obtain ⟨g, rfl, hg, hk⟩ := hA (by simp)
    obtain ⟨y, hy⟩ : ∃ y, w3.heap.size = y := ⟨_, rfl⟩
    obtain ⟨w4, hw4⟩ : ∃ w4, w3.alloc (.cells #[.int .i64 0, .int .i64 0] 26) = w4 := ⟨_, rfl⟩
    have hb4 : Blk w4 y 26 #[.int .i64 0, .int .i64 0] := by rw [← hw4, ← hy]; exact Blk.new w3 26 _
    have F4 : Hid (Fr No w w4) := Lib.hid (by rw [← hw4]; exact (F2.out.trans f3 fun _ _ h => h).alloc _)
    have hG : ∀ i u, w3.cell? ⟨g, i, none⟩ = some u → w4.cell? ⟨g, i, none⟩ = some u := fun i u h => by
      rw [← h, ← hw4]
      simp only [World.cell?]
      rw [Below.heap_alloc w3 _ g hg]
    have g0 : w4.cell? ⟨g, 0, none⟩ = some (.int .i64 4) := hG _ _ (hk 0 _ rfl).1
    have g1 : w4.cell? ⟨g, 1, none⟩ = some (.string s) := hG _ _ (by have := (hk 0 _ rfl).2.1; rw [show (⟨s.data.toList.toArray⟩ : ByteArray) = s from mk_toList s] at this; exact this)
    have g2 : w4.cell? ⟨g, 2, none⟩ = some (.int .i64 0) := hG _ _ (hk 0 _ rfl).2.2
    have g5 : w4.cell? ⟨g, 5, none⟩ = some (.int .i64 (N : Nat)) := hG _ _ (hk 1 _ rfl).2.2
    have HW4 := Lib.hid hw4
    have HY := Lib.hid hy
    have k0 : w4.cell? ⟨y, 0, none⟩ = some (.int .i64 0) := hb4.cell 0
    have k1 : w4.cell? ⟨y, 1, none⟩ = some (.int .i64 0) := hb4.cell 1
    clear hb4 hw4 hy f3 hA hk hg hG
    go_upto_region 4 with fail
    rw [HW4.out, HY.out]
    go_wp2
    go_ret
    exact ⟨rfl, F4.out⟩
end Go.Proofs.YtaaleodffghbdaaDoor
