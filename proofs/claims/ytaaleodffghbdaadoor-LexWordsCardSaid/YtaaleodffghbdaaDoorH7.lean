/- LexWords: the reference's lists of words. -/
import Derived.Test.YtaaleodffghbdaaDoorH5
import Derived.Test.YtaaleodffghbdaaDoorH6
import Derived.Test.YtaaleodffghbdaaDoorC2
namespace Go.Proofs.YtaaleodffghbdaaDoor
open Go.RowKit Go.Maps
set_option linter.unusedVariables false

theorem refWord_any (s : ByteArray) (p : Nat) (w : World) (hs : s.size ≤ 4096) (hp : p < s.size) : Calls Tryd.prog 21 #[.string s, .int .i64 (p : Nat)] w (RefP p (wordT (s.data.toList.drop p)) w) := by
  cases hl : isLet s[p] with
  | true => exact refLetters_any s p w hs hp hl
  | false =>
    cases hd : isDig s[p] with
    | true => exact refDigits_any s p w hs hp hd
    | false =>
      by_cases hq : s[p] = 39
      · exact refQuo_any s p w hs hp hq
      · exact refSign_any s p w hs hp hl hd hq
def RWs (l : List Wd) (c f : Nat) (w : World) (e : Ending) (w' : World) : Prop := ∃ v, e = .returned (.tuple #[v, .agg #[.int .i64 (c : Nat), .int .i64 (f : Nat)]]) ∧ LW w' v l ∧ Fr No w w'
theorem LW.nil (w : World) : LW w (.slice none 0 0) [] := ⟨none, 0, rfl, Nat.zero_le _, fun h => absurd h (by simp)⟩
/-- Up to i. -/
structure WInv (s : ByteArray) (i : Nat) (l : List Wd) : Prop where
  le : i ≤ s.size
  ln : l.length ≤ i
  eq : wordsB s.data.toList = comb l (scanB (s.data.toList.drop i) i)
theorem WInv.zero {s : ByteArray} (hs : s.size ≤ 4096) : WInv s 0 [] := ⟨Nat.zero_le _, Nat.le_refl _, by rw [wordsB_scan _ (by rw [len_data]; exact hs), List.drop_zero, comb_nil]⟩
theorem WInv.blank {s : ByteArray} {i : Nat} {l : List Wd} (h : WInv s i l) (hi : i < s.size) (hb : isBla s[i] = true) : WInv s (i + 1) l := by
  have he := h.eq
  rw [drop_at s i hi, scanB_blank _ _ _ hb] at he
  exact ⟨hi, by have := h.ln; omega, he⟩
theorem nb_of {s : ByteArray} {i : Nat} (hi : i < s.size) (hb : isBla s[i] = false) : firstB (s.data.toList.drop i) ≠ 1 ∧ s.data.toList.drop i ≠ [] := by
  constructor
  · rw [first_drop s i hi]
    intro e
    rw [(kind_bla _).1 e] at hb
    cases hb
  · rw [drop_at s i hi]; simp
theorem WInv.bad {s : ByteArray} {i c on : Nat} {l : List Wd} (h : WInv s i l) (hi : i < s.size) (hb : isBla s[i] = false) (hw : wordT (s.data.toList.drop i) = .bad c on) : wordsB s.data.toList = ([], c, i + on) ∧ c ≠ 0 ∧ c ≤ 45 ∧ i + on ≤ s.size := by
  obtain ⟨h1, h2⟩ := nb_of hi hb
  have he := h.eq
  rw [scanB_bad i h1 h2 hw] at he
  obtain ⟨hc, hon⟩ := word_bad hw
  rw [List.length_drop, len_data] at hon
  have hc0 : c ≠ 0 := by omega
  refine ⟨by rw [he]; unfold comb; rw [if_neg hc0], hc0, by omega, by omega⟩
theorem WInv.good {s : ByteArray} {i k n : Nat} {t : Tx} {l : List Wd} (h : WInv s i l) (hi : i < s.size) (hb : isBla s[i] = false) (hw : wordT (s.data.toList.drop i) = .good k t n) : WInv s (i + n) (l ++ [⟨k, t, i⟩]) ∧ 1 ≤ n ∧ i + n ≤ s.size := by
  obtain ⟨h1, h2⟩ := nb_of hi hb
  have he := h.eq
  obtain ⟨x, y, g1, g2, g3, _⟩ := word_inv hw
  have hxl : 0 < x.length := List.length_pos_iff.2 g3
  have hlen := congrArg List.length g1
  rw [List.length_drop, len_data, List.length_append] at hlen
  rw [scanB_good i h1 h2 hw, List.drop_drop, comb_cons] at he
  exact ⟨⟨by omega, by have := h.ln; simp; omega, he⟩, by omega, by omega⟩
theorem WInv.fin {s : ByteArray} {l : List Wd} (h : WInv s s.size l) : wordsB s.data.toList = (l ++ [⟨6, [], s.size⟩], 0, 0) := by
  rw [h.eq, List.drop_of_length_le (by rw [len_data]; omega), scanB_end]; rfl

theorem own_set {w : World} {base n : Nat} {e : TypeId} {size : Nat} {v : Value} {xs : List Value} (h : w.ownsRow base e size v n xs) {y : Nat} (hy : y < base) (a : Nat) (u : Value) : (w.setCell ⟨y, a, none⟩ u).ownsRow base e size v n xs :=
  own_of h fun k hk => Below.heap_setCell w _ u k (by intro e; have h1 := (h.lt k hk).1; simp at e; omega)
set_option maxRecDepth 100000 in
set_option maxHeartbeats 8000000 in
theorem refWords_some (s : ByteArray) (w : World) (hs : s.size ≤ 4096) {ws : List Wd} {c0 f0 : Nat} (hw0 : wordsB s.data.toList = (ws, c0, f0)) : Calls Tryd.prog 10 #[.string s] w (RWs ws c0 f0 w) := by
  have HBL : Hid (∀ (b : UInt8) w', Calls Tryd.prog 20 #[.int .u8 (b.toNat : Nat)] w' fun e w'' => e = .returned (.bool (isBla b)) ∧ w' = w'') := Lib.hid fun b w' => refBlank_any b w'
  have HWD : Hid (∀ (p : Nat) w', p < s.size → Calls Tryd.prog 21 #[.string s, .int .i64 (p : Nat)] w' (RefP p (wordT (s.data.toList.drop p)) w')) := Lib.hid fun p w' hp => refWord_any s p w' hs hp
  have H0 := Lib.hid (WInv.zero hs)
  obtain ⟨y, hy⟩ : ∃ y, w.heap.size = y := ⟨_, rfl⟩
  obtain ⟨w2, hw2⟩ : ∃ w2, w.alloc (.cells #[.int .i64 0, .int .i64 0] 26) = w2 := ⟨_, rfl⟩
  have HBY : Hid (Blk w2 y 26 #[.int .i64 0, .int .i64 0]) := Lib.hid (by rw [← hw2, ← hy]; exact Blk.new w 26 _)
  have F2 : Hid (Fr No w w2) := Lib.hid (by rw [← hw2]; exact (Fr.refl No w).alloc _)
  have HYS : Hid (w2.heap.size = y + 1) := Lib.hid (by rw [← hw2, ← hy]; simp)
  have HW2 := Lib.hid hw2
  have HY := Lib.hid hy
  have HYW : Hid (w.heap.size ≤ y) := Lib.hid (by omega)
  have HW0 := Lib.hid hw0
  obtain ⟨i0, hi00, hz0, hz1, hz2⟩ := info_parts info31
  clear hw2 hy hw0
  go_enter Tryd.func10, Tryd.ntmps10
  go_upto_region 1 with fail
  rw [HY.out, HW2.out]
  go_wp2
  go_loopw [4, 5, 6, 7, 8] (fun vv iv xv jv fv wr => ∃ (i : Nat) (l : List Wd) (A : Option Addr) (n c : Nat), iv = .int .i64 (i : Nat) ∧ i ≤ s.size ∧ n ≤ i ∧ vv = .slice A n c ∧ Hid (l.length = n) ∧ Hid (WInv s i l) ∧ Hid (wr.ownsRow (y + 1) 31 3 (.slice A n c) n (l.flatMap Wd.cells)) ∧ Hid (Fr No w2 wr)) (fun _ iv _ _ _ _ => s.size - (intOf iv).toNat)
  case atStart => exact ⟨0, [], none, 0, 0, rfl, Nat.zero_le _, Nat.zero_le _, rfl, Lib.hid rfl, H0, Lib.hid ⟨rfl, .inl ⟨rfl, rfl⟩⟩, Lib.hid (Fr.refl _ _)⟩
  case round =>
    obtain ⟨i, l, A, n, c, rfl, hi, hni, rfl, HLN, HI, HROW, HF⟩ := hrel
    have hsz := HF.out.size
    rw [HYS.out] at hsz
    by_cases hlt : i < s.size
    · have hb := u8_lt s[i]
      have hk0 : (0 : Int) ≤ (i : Int) := by omega
      have hk1 : (i : Int) < (s.size : Int) := by omega
      have HBK := Lib.hid (HBL.out s[i] wr)
      have HWK := Lib.hid (HWD.out i wr hlt)
      cases hbl : isBla s[i] with
      | true =>
        have HNX := Lib.hid (HI.out.blank hlt hbl)
        rw [hbl] at HBK
        clear hbl
        go_wp2_with fail
        refine HBK.out.mono ?_
        rintro e w' ⟨rfl, rfl⟩
        go_wp2
        go_roundw
        case rel => exact ⟨i + 1, l, A, n, c, by go_num, by omega, by omega, rfl, HLN, HNX, HROW, HF⟩
        case measure => simp [intOf]; omega
      | false =>
        rw [hbl] at HBK
        cases hwt : wordT (s.data.toList.drop i) with
        | bad c1 on =>
          obtain ⟨g1, g2, g3, g4⟩ := HI.out.bad hlt hbl hwt
          rw [HW0.out] at g1
          rw [hwt] at HWK
          obtain ⟨f1, hf1⟩ : ∃ f1, i + on = f1 := ⟨_, rfl⟩
          have HWK2 : Hid (Calls Tryd.prog 21 #[.string s, .int .i64 (i : Nat)] wr fun e w' => e = .returned (.tuple #[.agg #[.int .i64 0, .string ⟨#[]⟩, .int .i64 0], .int .i64 0, .agg #[.int .i64 (c1 : Nat), .int .i64 ((i + on : Nat) : Int)]]) ∧ Fr No wr w') := HWK
          rw [hf1] at g1 g4 HWK2
          simp only [Prod.mk.injEq] at g1
          obtain ⟨rfl, rfl, rfl⟩ := g1
          clear HWK
          have hc0 : ((c0 : Int) != 0) = true := by simp; omega
          clear hbl hwt hf1
          go_wp2_with fail
          refine HBK.out.mono ?_
          rintro e w' ⟨rfl, rfl⟩
          go_wp2_with fail
          refine HWK2.out.mono ?_
          rintro e w3 ⟨rfl, f3⟩
          obtain ⟨z, hz⟩ : ∃ z, w3.heap.size = z := ⟨_, rfl⟩
          obtain ⟨w4, hw4⟩ : ∃ w4, w3.alloc (.cells #[.int .i64 0, .string ⟨#[]⟩, .int .i64 0] 31) = w4 := ⟨_, rfl⟩
          have hz4 : w4.heap.size = z + 1 := by rw [← hw4, ← hz]; simp
          have hb4 : Blk w4 z 31 #[.int .i64 0, .string ⟨#[]⟩, .int .i64 0] := by rw [← hw4, ← hz]; exact Blk.new w3 31 _
          obtain ⟨w5, hw5⟩ : ∃ w5, w4.alloc (.cells #[.int .i64 (c0 : Nat), .int .i64 (f0 : Nat)] 26) = w5 := ⟨_, rfl⟩
          have hb5 : Blk w5 (z + 1) 26 #[.int .i64 (c0 : Nat), .int .i64 (f0 : Nat)] := by rw [← hw5, ← hz4]; exact Blk.new w4 26 _
          have f45 : Fr No w4 w5 := by rw [← hw5]; exact (Fr.refl No w4).alloc _
          have f35 : Fr No w3 w5 := ((by rw [← hw4]; exact (Fr.refl No w3).alloc _ : Fr No w3 w4)).trans f45 fun _ _ h => h
          have HF5 := Lib.hid ((HF.out.trans f3 fun _ _ h => h).trans f35 fun _ _ h => h)
          have hb45 : Blk w5 z 31 #[.int .i64 0, .string ⟨#[]⟩, .int .i64 0] := hb4.of (f45.block z hb4.lt id)
          have hby : Blk w5 y 26 #[.int .i64 0, .int .i64 0] := HBY.out.of (HF5.out.block y HBY.out.lt id)
          have HZ := Lib.hid hz
          have HW4 := Lib.hid hw4
          have HW5 := Lib.hid hw5
          have k0 : w5.cell? ⟨z + 1, 0, none⟩ = some (.int .i64 (c0 : Nat)) := hb5.cell 0
          have k1 : w5.cell? ⟨z + 1, 1, none⟩ = some (.int .i64 (f0 : Nat)) := hb5.cell 1
          have y0 : w5.cell? ⟨y, 0, none⟩ = some (.int .i64 0) := hby.cell 0
          have y1 : w5.cell? ⟨y, 1, none⟩ = some (.int .i64 0) := hby.cell 1
          have x0 := hby.frozen 0
          have x1 := hby.frozen 1
          have F5 := Lib.hid (F2.out.trans HF5.out fun _ _ h => h)
          have hyw := HYW.out
          clear hz hw4 hz4 hb4 hw5 hb5 f45 f35 hb45 hby f3
          go_upto_region 9 with fail
          rw [HZ.out, HW4.out, HW5.out]
          go_wp2_with fail
          go_region
          go_wp2
          refine bodyPost_ret (v := .tuple #[.slice none 0 0, .agg #[.int .i64 (c0 : Nat), .int .i64 (f0 : Nat)]]) (by simp [results, Tryd.results10, go_sem, y0, y1]) rfl ?_
          refine ⟨_, rfl, LW.nil _, ?_⟩
          repeat (first | refine Fr.drew ?_ | refine Fr.setCell ?_ (fun h => absurd h (by show ¬ y < _; omega)) _)
          exact F5.out
        | good k t m =>
          obtain ⟨g1, g2, g3⟩ := HI.out.good hlt hbl hwt
          rw [hwt] at HWK
          have HWK2 : Hid (Calls Tryd.prog 21 #[.string s, .int .i64 (i : Nat)] wr fun e w' => e = .returned (.tuple #[.agg #[.int .i64 (k : Nat), .string ⟨t.toArray⟩, .int .i64 (i : Nat)], .int .i64 ((i + m : Nat) : Int), .agg #[.int .i64 0, .int .i64 0]]) ∧ Fr No wr w') := HWK
          obtain ⟨e1, he1⟩ : ∃ e1, i + m = e1 := ⟨_, rfl⟩
          rw [he1] at HWK2 g1 g3
          have HNX := Lib.hid g1
          have hei : i < e1 := by omega
          have HMP : Hid ((l ++ [(⟨k, t, i⟩ : Wd)]).flatMap Wd.cells = l.flatMap Wd.cells ++ [.int .i64 (k : Nat), .string ⟨t.toArray⟩, .int .i64 (i : Nat)]) := Lib.hid (by rw [List.flatMap_append]; simp [Wd.cells])
          have HLN2 : Hid ((l ++ [(⟨k, t, i⟩ : Wd)]).length = n + 1) := Lib.hid (by rw [List.length_append, HLN.out]; rfl)
          generalize l.flatMap Wd.cells = R at *
          clear hbl hwt he1 HWK g1 g2
          generalize ((k : Nat) : Int) = ck at HWK2 HMP
          generalize (⟨t.toArray⟩ : ByteArray) = ct at HWK2 HMP
          go_wp2_with fail
          refine HBK.out.mono ?_
          rintro e w' ⟨rfl, rfl⟩
          go_wp2_with fail
          refine HWK2.out.mono ?_
          rintro e w3 ⟨rfl, f3⟩
          obtain ⟨z, hz⟩ : ∃ z, w3.heap.size = z := ⟨_, rfl⟩
          obtain ⟨w4, hw4⟩ : ∃ w4, w3.alloc (.cells #[.int .i64 ck, .string ct, .int .i64 (i : Nat)] 31) = w4 := ⟨_, rfl⟩
          have hz4 : w4.heap.size = z + 1 := by rw [← hw4, ← hz]; simp
          have hb4 : Blk w4 z 31 #[.int .i64 ck, .string ct, .int .i64 (i : Nat)] := by rw [← hw4, ← hz]; exact Blk.new w3 31 _
          obtain ⟨w5, hw5⟩ : ∃ w5, w4.alloc (.cells #[.int .i64 0, .int .i64 0] 26) = w5 := ⟨_, rfl⟩
          have hb5 : Blk w5 (z + 1) 26 #[.int .i64 0, .int .i64 0] := by rw [← hw5, ← hz4]; exact Blk.new w4 26 _
          have f45 : Fr No w4 w5 := by rw [← hw5]; exact (Fr.refl No w4).alloc _
          have f35 : Fr No w3 w5 := ((by rw [← hw4]; exact (Fr.refl No w3).alloc _ : Fr No w3 w4)).trans f45 fun _ _ h => h
          have HF5 := Lib.hid ((HF.out.trans f3 fun _ _ h => h).trans f35 fun _ _ h => h)
          have hb45 : Blk w5 z 31 #[.int .i64 ck, .string ct, .int .i64 (i : Nat)] := hb4.of (f45.block z hb4.lt id)
          have hby : Blk w5 y 26 #[.int .i64 0, .int .i64 0] := HBY.out.of (HF5.out.block y HBY.out.lt id)
          have HZ := Lib.hid hz
          have HW4 := Lib.hid hw4
          have HW5 := Lib.hid hw5
          have k0 : w5.cell? ⟨z + 1, 0, none⟩ = some (.int .i64 0) := hb5.cell 0
          have a0 : w5.cell? ⟨z, 0, none⟩ = some (.int .i64 ck) := hb45.cell 0
          have a1 : w5.cell? ⟨z, 1, none⟩ = some (.string ct) := hb45.cell 1
          have a2 : w5.cell? ⟨z, 2, none⟩ = some (.int .i64 (i : Nat)) := hb45.cell 2
          have HROW5 : Hid (w5.ownsRow (y + 1) 31 3 (.slice A n c) n R) := Lib.hid (own_of HROW.out fun q hq => (f3.trans f35 fun _ _ h => h).block q (HROW.out.lt q hq).2 id)
          have hsz5 : y + 1 ≤ w5.heap.size := by have := HF5.out.size; have := HYS.out; omega
          have HF6 : Hid (∀ (w6 : World) (o : Obj), (w5.alloc o).grownBy w6 (Value.slice A n c).ownBlock → Fr No w2 w6) := Lib.hid fun w6 o hg =>
            ((HF5.out.alloc o).grown hg fun q hq hql => by
              have h1 := (HROW.out.lt q hq).1
              have h2 := HYS.out
              omega)
          clear hz hw4 hz4 hb4 hw5 hb5 f45 f35 hb45 hby f3
          go_upto_region 9 with fail
          rw [HZ.out, HW4.out, HW5.out]
          go_upto_region 11 with fail
          go_wp2_with (at_builtin; refine wpList_append_lies _ (by rfl) _ _ 23 (by rfl) (y + 1) 31 i0 _ 3 32 Tryd.underlying23 hi00 hz0 hz1 hz2 rfl (by omega) (.slice A n c) _ _ (by rfl) (HROW5.out.alloc _) ⟨w5.heap.size, 0, none⟩ 1 1 [.int .i64 ck, .string ct, .int .i64 (i : Nat)] (by rfl) (by rfl) (World.news_of_block (cs := #[.int .i64 ck, .string ct, .int .i64 (i : Nat)]) (t := 31) (fr := (0, 0)) (heap_alloc_new w5 _)) (by simp [Value.oneCell']) (by omega) (by unfold maxLen; omega) (by omega) (by simp; omega) (w5.heap.size + 1) (by simp) ?_; intro g2 cap w6 hown6 hgrow6 hat6 hlt6; have HF7 := Lib.hid (HF6.out _ _ hgrow6); have HO6 := Lib.hid hown6; clear hgrow6 hat6 hown6 k0 a0 a1 a2)
          go_roundw
          case rel => exact ⟨e1, l ++ [⟨k, t, i⟩], some ⟨g2, 0, none⟩, n + 1, cap, by first | rfl | go_num, by omega, by omega, rfl, HLN2, HNX, Lib.hid (by rw [HMP.out]; exact HO6.out), HF7⟩
          case measure => simp [intOf]; omega
    · obtain rfl : i = s.size := by omega
      have g1 := HI.out.fin
      rw [HW0.out] at g1
      simp only [Prod.mk.injEq] at g1
      obtain ⟨g1, rfl, rfl⟩ := g1
      have HWS := Lib.hid g1
      have HMP : Hid (ws.flatMap Wd.cells = l.flatMap Wd.cells ++ [.int .i64 6, .string ⟨#[]⟩, .int .i64 (s.size : Nat)]) := Lib.hid (by rw [g1, List.flatMap_append]; simp [Wd.cells])
      have HLN2 : Hid (ws.length = n + 1) := Lib.hid (by rw [g1, List.length_append, HLN.out]; rfl)
      generalize l.flatMap Wd.cells = R at *
      clear g1
      have HF6 : Hid (∀ (w6 : World) (o : Obj), (wr.alloc o).grownBy w6 (Value.slice A n c).ownBlock → Fr No w2 w6) := Lib.hid fun w6 o hg =>
        ((HF.out.alloc o).grown hg fun q hq hql => by
          have h1 := (HROW.out.lt q hq).1
          have h2 := HYS.out
          omega)
      have hyw := HYW.out
      go_upto_region 13 with fail
      go_wp2_with (at_builtin; refine wpList_append_lies _ (by rfl) _ _ 23 (by rfl) (y + 1) 31 i0 _ 3 32 Tryd.underlying23 hi00 hz0 hz1 hz2 rfl (by omega) (.slice A n c) _ _ (by rfl) (HROW.out.alloc _) ⟨wr.heap.size, 0, none⟩ 1 1 [.int .i64 6, .string ⟨#[]⟩, .int .i64 (s.size : Nat)] (by rfl) (by rfl) (World.news_of_block (cs := #[.int .i64 6, .string ⟨#[]⟩, .int .i64 (s.size : Nat)]) (t := 31) (fr := (0, 0)) (heap_alloc_new wr _)) (by simp [Value.oneCell']) (by omega) (by unfold maxLen; omega) (by omega) (by simp; omega) (wr.heap.size + 1) (by simp) ?_; intro g2 cap w6 hown6 hgrow6 hat6 hlt6; have HF7 := Lib.hid (HF6.out _ _ hgrow6); have HO6 := Lib.hid hown6; clear hgrow6 hat6 hown6; have hby := HBY.out.of (HF7.out.block y HBY.out.lt id); have y0 : w6.cell? ⟨y, 0, none⟩ = some (.int .i64 0) := hby.cell 0; have y1 : w6.cell? ⟨y, 1, none⟩ = some (.int .i64 0) := hby.cell 1; have x0 := hby.frozen 0; have x1 := hby.frozen 1; clear hby)
      refine bodyPost_ret (v := .tuple #[.slice (some ⟨g2, 0, none⟩) (n + 1) cap, .agg #[.int .i64 0, .int .i64 0]]) (by simp [results, Tryd.results10, go_sem, y0, y1]) rfl ?_
      refine ⟨_, rfl, ?_, ?_⟩
      · refine RowW.lw (B := y + 1) ?_ (by rw [HLN2.out]; omega)
        unfold RowW
        rw [HLN2.out, HMP.out]
        exact own_set (own_set HO6.out (by omega) _ _) (by omega) _ _
      · repeat (first | refine Fr.drew ?_ | refine Fr.setCell ?_ (fun h => absurd h (by show ¬ y < _; omega)) _)
        exact F2.out.trans HF7.out fun _ _ h => h
end Go.Proofs.YtaaleodffghbdaaDoor
