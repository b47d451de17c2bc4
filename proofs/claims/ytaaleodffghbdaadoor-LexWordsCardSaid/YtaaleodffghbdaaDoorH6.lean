/- LexWords: the reference's words, walked: a text in quotes, a sign. -/
import Derived.Test.YtaaleodffghbdaaDoorH4
namespace Go.Proofs.YtaaleodffghbdaaDoor
open Go.RowKit Go.Maps
set_option linter.unusedVariables false

theorem quo_no : ∀ b : UInt8, b = 39 → isLet b = false ∧ isDig b = false := all_bytes (p := fun b => b = 39 → isLet b = false ∧ isDig b = false) (by decide +kernel)
theorem refV_shape (p : Nat) (T : Tk) : ∃ (a : Int) (b : ByteArray) (c d e1 f1 : Int), refV p T = .tuple #[.agg #[.int .i64 a, .string b, .int .i64 c], .int .i64 d, .agg #[.int .i64 e1, .int .i64 f1]] := by
  cases T with
  | bad c on => exact ⟨_, _, _, _, _, _, rfl⟩
  | good k t n => exact ⟨_, _, _, _, _, _, rfl⟩
set_option maxRecDepth 100000 in
set_option maxHeartbeats 8000000 in
theorem refQuo_any (s : ByteArray) (p : Nat) (w : World) (hs : s.size ≤ 4096) (hp : p < s.size) (hq : s[p] = 39) : Calls Tryd.prog 21 #[.string s, .int .i64 (p : Nat)] w (RefP p (wordT (s.data.toList.drop p)) w) := by
  have hTQ : wordT (s.data.toList.drop p) = quotedT (s.data.toList.drop p) := by
    unfold wordT
    rw [first_drop s p hp, hq]; rfl
  rw [hTQ]
  obtain ⟨y, hy⟩ : ∃ y, w.heap.size = y := ⟨_, rfl⟩
  obtain ⟨w1, hw1⟩ : ∃ w1, w.alloc (.cells #[.int .i64 0, .string ⟨#[]⟩, .int .i64 0] 31) = w1 := ⟨_, rfl⟩
  have hb1 : Blk w1 y 31 #[.int .i64 0, .string ⟨#[]⟩, .int .i64 0] := by rw [← hw1, ← hy]; exact Blk.new w 31 _
  have hz1' : w1.heap.size = y + 1 := by rw [← hw1, ← hy]; simp
  obtain ⟨w2, hw2⟩ : ∃ w2, w1.alloc (.cells #[.int .i64 0, .int .i64 0] 26) = w2 := ⟨_, rfl⟩
  have hb2 : Blk w2 (y + 1) 26 #[.int .i64 0, .int .i64 0] := by rw [← hw2, ← hz1']; exact Blk.new w1 26 _
  have f12 : Fr No w1 w2 := by rw [← hw2]; exact (Fr.refl No w1).alloc _
  have f01 : Fr No w w1 := by rw [← hw1]; exact (Fr.refl No w).alloc _
  have HBY : Hid (Blk w2 y 31 #[.int .i64 0, .string ⟨#[]⟩, .int .i64 0]) := Lib.hid (hb1.of (f12.block y hb1.lt id))
  have HBZ := Lib.hid hb2
  have F2 := Lib.hid (f01.trans f12 fun _ _ h => h)
  have HW1 := Lib.hid hw1
  have HW2 := Lib.hid hw2
  have HYW : Hid (w.heap.size ≤ y) := Lib.hid (by omega)
  have HY := Lib.hid hy
  have HL : Hid (∀ b : UInt8, Calls Tryd.prog 33 #[.int .u8 (b.toNat : Nat)] w2 fun e w' => e = .returned (.bool (isLet b)) ∧ w2 = w') := Lib.hid fun b => refLetter_any b w2
  have HDG : Hid (∀ b : UInt8, Calls Tryd.prog 34 #[.int .u8 (b.toNat : Nat)] w2 fun e w' => e = .returned (.bool (isDig b)) ∧ w2 = w') := Lib.hid fun b => refDigit_any b w2
  clear hy hw1 hb1 hz1' hw2 hb2 f12 f01
  have HQ := Lib.hid (refQuoted_any s p w2 hs hp)
  generalize quotedT (s.data.toList.drop p) = T at *
  obtain ⟨a, b, c, d, e1, f1, hsh⟩ := refV_shape p T
  unfold RefP at HQ
  rw [hsh] at HQ
  have HEQ : Hid (Ending.returned (.tuple #[.agg #[.int .i64 a, .string b, .int .i64 c], .int .i64 d, .agg #[.int .i64 e1, .int .i64 f1]]) = .returned (refV p T)) := Lib.hid (by rw [hsh])
  have hbp := u8_lt s[p]
  have HLP := Lib.hid (HL.out s[p])
  rw [(quo_no _ hq).1] at HLP
  have HDP := Lib.hid (HDG.out s[p])
  rw [(quo_no _ hq).2] at HDP
  have h39 : ((s[p].toNat : Int) == 39) = true := by have := (u8_39 _).2 hq; simp; omega
  have hp1 : (p : Int) < (s.size : Int) := by omega
  clear hq hTQ hsh
  go_enter Tryd.func21, Tryd.ntmps21
  go_upto_region 1 with fail
  rw [HY.out, HW1.out, HW2.out]
  go_wp2_with (first | (go_at_call 33; refine HLP.out.mono ?_; rintro e w' ⟨rfl, rfl⟩) | (go_at_call 34; refine HDP.out.mono ?_; rintro e w' ⟨rfl, rfl⟩))
  refine HQ.out.mono ?_
  rintro e w3 ⟨rfl, f3⟩
  have HF := Lib.hid f3
  clear f3
  have hby := HBY.out.of (HF.out.block y HBY.out.lt id)
  have hbz := HBZ.out.of (HF.out.block (y + 1) HBZ.out.lt id)
  have z0 : w3.cell? ⟨y, 0, none⟩ = some (.int .i64 0) := hby.cell 0
  have z1 : w3.cell? ⟨y, 1, none⟩ = some (.string ⟨#[]⟩) := hby.cell 1
  have z2 : w3.cell? ⟨y, 2, none⟩ = some (.int .i64 0) := hby.cell 2
  have z3 : w3.cell? ⟨y + 1, 0, none⟩ = some (.int .i64 0) := hbz.cell 0
  have z4 : w3.cell? ⟨y + 1, 1, none⟩ = some (.int .i64 0) := hbz.cell 1
  have x0 := hby.frozen 0
  have x1 := hby.frozen 1
  have x2 := hby.frozen 2
  have x3 := hbz.frozen 0
  have x4 := hbz.frozen 1
  have F5 := Lib.hid (F2.out.trans HF.out fun _ _ h => h)
  have hyw := HYW.out
  clear hby hbz
  go_wp2
  refine bodyPost_ret (v := .tuple #[.agg #[.int .i64 a, .string b, .int .i64 c], .int .i64 d, .agg #[.int .i64 e1, .int .i64 f1]]) (by simp [results, Tryd.results21, go_sem, z0, z1, z2, z3, z4]) rfl ?_
  refine ⟨HEQ.out, ?_⟩
  repeat (refine Fr.setCell ?_ (fun h => absurd h (by first | (show ¬ y < _; omega) | (show ¬ y + 1 < _; omega))) _)
  first | exact F5.out | exact F5.out.drewN _
def sgV : Array Value := #[.string ⟨#[40]⟩, .string ⟨#[41]⟩, .string ⟨#[44]⟩, .string ⟨#[42]⟩, .string ⟨#[61]⟩, .string ⟨#[45]⟩, .string ⟨#[60, 62]⟩, .string ⟨#[60, 61]⟩, .string ⟨#[60]⟩, .string ⟨#[62, 61]⟩, .string ⟨#[62]⟩]
theorem sgs_V : ∀ {k : Nat}, k < 11 → sgV[k]? = some (.string ⟨(sgN k).toArray⟩) := by
  intro k hk
  have h : k = 0 ∨ k = 1 ∨ k = 2 ∨ k = 3 ∨ k = 4 ∨ k = 5 ∨ k = 6 ∨ k = 7 ∨ k = 8 ∨ k = 9 ∨ k = 10 := by omega
  rcases h with rfl | rfl | rfl | rfl | rfl | rfl | rfl | rfl | rfl | rfl | rfl <;> rfl
theorem sgN_len : ∀ k, k < 11 → 1 ≤ (sgN k).length ∧ (sgN k).length ≤ 2 := by decide +kernel
theorem sg_fit (s : ByteArray) (p k : Nat) (hp : p < s.size) : (s.data.toList.drop p).take (sgN k).length = sgN k ↔ p + (sgN k).length ≤ s.size ∧ (s.extract p (p + (sgN k).length)).data.toList = sgN k := by
  rw [ext_take, show p + (sgN k).length - p = (sgN k).length by omega]
  constructor
  · intro h
    refine ⟨?_, h⟩
    have h2 := congrArg List.length h
    rw [List.length_take, List.length_drop, len_data] at h2
    omega
  · exact fun h => h.2
set_option maxRecDepth 100000 in
set_option maxHeartbeats 8000000 in
theorem refSign_any (s : ByteArray) (p : Nat) (w : World) (hs : s.size ≤ 4096) (hp : p < s.size) (hl : isLet s[p] = false) (hd : isDig s[p] = false) (hq : s[p] ≠ 39) : Calls Tryd.prog 21 #[.string s, .int .i64 (p : Nat)] w (RefP p (wordT (s.data.toList.drop p)) w) := by
  have hk := first_drop s p hp
  obtain ⟨g1, g2⟩ := ref_sign (r := s.data.toList.drop p) (fun e => by rw [hk] at e; rw [(kind_let _).1 e] at hl; cases hl) (fun e => by rw [hk] at e; rw [(kind_dig _).1 e] at hd; cases hd) (fun e => by rw [hk] at e; exact hq ((kind_quo _).1 e))
  obtain ⟨T, hT⟩ : ∃ T, wordT (s.data.toList.drop p) = T := ⟨_, rfl⟩
  rw [hT] at g1 g2 ⊢
  obtain ⟨M, hM⟩ : ∃ M : Nat → Prop, ∀ k, M k ↔ (s.data.toList.drop p).take (sgN k).length = sgN k := ⟨fun k => (s.data.toList.drop p).take (sgN k).length = sgN k, fun _ => Iff.rfl⟩
  have HG1 : Hid (∀ k, k < 11 → (∀ j, j < k → ¬ M j) → M k → ∀ q, p + (sgN k).length = q → Ending.returned (.tuple #[.agg #[.int .i64 5, .string ⟨(sgN k).toArray⟩, .int .i64 (p : Nat)], .int .i64 (q : Nat), .agg #[.int .i64 0, .int .i64 0]]) = .returned (refV p T)) := Lib.hid fun k hk h1 h2 q hq => by
    rw [g1 k hk (fun j hj h => h1 j hj ((hM j).2 h)) ((hM k).1 h2), ← hq]; rfl
  have HG2 : Hid ((∀ j, j < 11 → ¬ M j) → Ending.returned (.tuple #[.agg #[.int .i64 0, .string ⟨#[]⟩, .int .i64 0], .int .i64 0, .agg #[.int .i64 40, .int .i64 (p : Nat)]]) = .returned (refV p T)) := Lib.hid fun h => by
    rw [g2 (fun j hj h2 => h j hj ((hM j).2 h2))]; rfl
  have HMF : Hid (∀ k, M k ↔ p + (sgN k).length ≤ s.size ∧ (s.extract p (p + (sgN k).length)).data.toList = sgN k) := Lib.hid fun k => (hM k).trans (sg_fit s p k hp)
  clear hM g1 g2 hT hk
  obtain ⟨y, hy⟩ : ∃ y, w.heap.size = y := ⟨_, rfl⟩
  obtain ⟨w1, hw1⟩ : ∃ w1, w.alloc (.cells #[.int .i64 0, .string ⟨#[]⟩, .int .i64 0] 31) = w1 := ⟨_, rfl⟩
  have hb1 : Blk w1 y 31 #[.int .i64 0, .string ⟨#[]⟩, .int .i64 0] := by rw [← hw1, ← hy]; exact Blk.new w 31 _
  have hz1' : w1.heap.size = y + 1 := by rw [← hw1, ← hy]; simp
  obtain ⟨w2, hw2⟩ : ∃ w2, w1.alloc (.cells #[.int .i64 0, .int .i64 0] 26) = w2 := ⟨_, rfl⟩
  have hb2 : Blk w2 (y + 1) 26 #[.int .i64 0, .int .i64 0] := by rw [← hw2, ← hz1']; exact Blk.new w1 26 _
  have f12 : Fr No w1 w2 := by rw [← hw2]; exact (Fr.refl No w1).alloc _
  have f01 : Fr No w w1 := by rw [← hw1]; exact (Fr.refl No w).alloc _
  have HBY : Hid (Blk w2 y 31 #[.int .i64 0, .string ⟨#[]⟩, .int .i64 0]) := Lib.hid (hb1.of (f12.block y hb1.lt id))
  have HBZ := Lib.hid hb2
  have F2 := Lib.hid (f01.trans f12 fun _ _ h => h)
  have HW1 := Lib.hid hw1
  have HW2 := Lib.hid hw2
  have HYW : Hid (w.heap.size ≤ y) := Lib.hid (by omega)
  have HY := Lib.hid hy
  have HL : Hid (∀ b : UInt8, Calls Tryd.prog 33 #[.int .u8 (b.toNat : Nat)] w2 fun e w' => e = .returned (.bool (isLet b)) ∧ w2 = w') := Lib.hid fun b => refLetter_any b w2
  have HDG : Hid (∀ b : UInt8, Calls Tryd.prog 34 #[.int .u8 (b.toNat : Nat)] w2 fun e w' => e = .returned (.bool (isDig b)) ∧ w2 = w') := Lib.hid fun b => refDigit_any b w2
  clear hy hw1 hb1 hz1' hw2 hb2 f12 f01
  have hbp := u8_lt s[p]
  have HLP := Lib.hid (HL.out s[p])
  rw [hl] at HLP
  have HDP := Lib.hid (HDG.out s[p])
  rw [hd] at HDP
  have h39' : ¬ s[p].toNat = 39 := fun h => hq ((u8_39 _).1 h)
  have h39 : ((s[p].toNat : Int) == 39) = false := by simp; omega
  have hp1 : (p : Int) < (s.size : Int) := by omega
  obtain ⟨y2, hy2⟩ : ∃ y2, w2.heap.size = y2 := ⟨_, rfl⟩
  obtain ⟨w3, hw3⟩ : ∃ w3, w2.alloc (.cells sgV 9) = w3 := ⟨_, rfl⟩
  have HB3 : Hid (Blk w3 y2 9 sgV) := Lib.hid (by rw [← hw3, ← hy2]; exact Blk.new w2 9 _)
  have HF3 : Hid (Fr No w2 w3) := Lib.hid (by rw [← hw3]; exact (Fr.refl No w2).alloc _)
  have HW3 := Lib.hid hw3
  have HY2 := Lib.hid hy2
  clear hq hl hd h39' hw3 hy2
  go_enter Tryd.func21, Tryd.ntmps21
  go_upto_region 1 with fail
  rw [HY.out, HW1.out, HW2.out]
  go_upto_region 26 with (first | (go_at_call 33; refine HLP.out.mono ?_; rintro e w' ⟨rfl, rfl⟩) | (go_at_call 34; refine HDP.out.mono ?_; rintro e w' ⟨rfl, rfl⟩))
  have he : w2.alloc (.cells #[.string ⟨#[40]⟩, .string ⟨#[41]⟩, .string ⟨#[44]⟩, .string ⟨#[42]⟩, .string ⟨#[61]⟩, .string ⟨#[45]⟩, .string ⟨#[60, 62]⟩, .string ⟨#[60, 61]⟩, .string ⟨#[60]⟩, .string ⟨#[62, 61]⟩, .string ⟨#[62]⟩] 9) = w3 := HW3.out
  rw [he, HY2.out]
  clear he
  go_wp2
  go_loopw [12, 13] (fun iv jv wr => ∃ k : Nat, iv = .int .i64 (k : Nat) ∧ k ≤ 11 ∧ Hid (∀ j, j < k → ¬ M j) ∧ ∃ q, w3.drewN q = wr) (fun iv _ _ => 11 - (intOf iv).toNat)
  case atStart => exact ⟨0, rfl, Nat.zero_le _, Lib.hid (fun j h => by omega), 0, rfl⟩
  case round =>
    obtain ⟨k, rfl, hk, HNE, q, hwr⟩ := hrel
    have HWR := Lib.hid hwr
    have hf3 : Fr No w3 wr := by rw [← hwr]; exact (Fr.refl No w3).drewN q
    have HB4 : Hid (Blk wr y2 9 sgV) := Lib.hid (HB3.out.of (hf3.block y2 HB3.out.lt id))
    have HF : Hid (Fr No w2 wr) := Lib.hid (HF3.out.trans hf3 fun _ _ h => h)
    clear hwr hf3
    by_cases hlt : k < 11
    · have c0 : wr.cell? ⟨y2, k, none⟩ = some (.string ⟨(sgN k).toArray⟩) := (HB4.out.cell k).trans (sgs_V hlt)
      have hk0 : (0 : Int) ≤ (k : Int) := by omega
      have hk1 : (k : Int) < 11 := by omega
      obtain ⟨hn1, hn2⟩ := sgN_len k hlt
      have HMK := Lib.hid (HMF.out k)
      have HG := Lib.hid (HG1.out k hlt HNE.out)
      have HNX : Hid (¬ M k → ∀ j, j < k + 1 → ¬ M j) := Lib.hid fun h j hjk => by
        rcases Nat.lt_or_eq_of_le (Nat.le_of_lt_succ hjk) with h3 | rfl
        · exact HNE.out j h3
        · exact h
      have hts : (⟨(sgN k).toArray⟩ : ByteArray).size = (sgN k).length := by rw [← len_data]
      generalize sgN k = t at *
      obtain ⟨n, hn⟩ : ∃ n, t.length = n := ⟨_, rfl⟩
      rw [hn] at hn1 hn2 HMK HG hts
      obtain ⟨tb, htb⟩ : ∃ tb : ByteArray, (⟨t.toArray⟩ : ByteArray) = tb := ⟨_, rfl⟩
      have htl : tb.data.toList = t := by rw [← htb]
      rw [htb] at hts c0 HG
      obtain ⟨i, hpi⟩ : ∃ i, p + n = i := ⟨_, rfl⟩
      have HE : Hid ((p : Int) + (n : Int) = (i : Int)) := Lib.hid (by omega)
      have HQQ := Lib.hid hpi
      rw [hpi] at HMK
      have hip : (p : Int) ≤ (i : Int) := by omega
      obtain ⟨X, hX⟩ : ∃ X, s.extract p i = X := ⟨_, rfl⟩
      rw [hX] at HMK
      clear hpi htb hn
      go_upto_region 30 with fail
      rw [HE.out]
      clear hts
      by_cases hfit : i ≤ s.size
      · have hfi : (i : Int) ≤ (s.size : Int) := by omega
        by_cases he : X.data.toList = t
        · have hxt : X = tb := by
            apply ByteArray.ext
            apply Array.toList_inj.1
            rw [he, htl]
          subst hxt
          have HEQ : Hid (Ending.returned (.tuple #[.agg #[.int .i64 5, .string X, .int .i64 (p : Nat)], .int .i64 (i : Nat), .agg #[.int .i64 0, .int .i64 0]]) = .returned (refV p T)) := Lib.hid (HG.out (HMK.out.2 ⟨hfit, he⟩) i HQQ.out)
          clear he htl hn1 hn2 hfit
          have hby := HBY.out.of (HF.out.block y HBY.out.lt id)
          have hbz := HBZ.out.of (HF.out.block (y + 1) HBZ.out.lt id)
          have z0 : wr.cell? ⟨y, 0, none⟩ = some (.int .i64 0) := hby.cell 0
          have z1 : wr.cell? ⟨y, 1, none⟩ = some (.string ⟨#[]⟩) := hby.cell 1
          have z2 : wr.cell? ⟨y, 2, none⟩ = some (.int .i64 0) := hby.cell 2
          have z3 : wr.cell? ⟨y + 1, 0, none⟩ = some (.int .i64 0) := hbz.cell 0
          have z4 : wr.cell? ⟨y + 1, 1, none⟩ = some (.int .i64 0) := hbz.cell 1
          have x0 := hby.frozen 0
          have x1 := hby.frozen 1
          have x2 := hby.frozen 2
          have x3 := hbz.frozen 0
          have x4 := hbz.frozen 1
          have F5 := Lib.hid (F2.out.trans HF.out fun _ _ h => h)
          have hyw := HYW.out
          clear hby hbz
          go_quiet (fail)
          go_wp2
          refine bodyPost_ret (v := .tuple #[.agg #[.int .i64 5, .string X, .int .i64 (p : Nat)], .int .i64 (i : Nat), .agg #[.int .i64 0, .int .i64 0]]) (by simp [results, Tryd.results21, go_sem, z0, z1, z2, z3, z4]) rfl ?_
          refine ⟨HEQ.out, ?_⟩
          repeat (refine Fr.setCell ?_ (fun h => absurd h (by first | (show ¬ y < _; omega) | (show ¬ y + 1 < _; omega))) _)
          first | exact F5.out | exact F5.out.drewN _
        · have hne : (X.toList == tb.toList) = false := by
            rw [ByteArray.toList_eq, ByteArray.toList_eq, htl]
            simpa using he
          have HNX2 := Lib.hid (HNX.out fun h => he (HMK.out.1 h).2)
          clear he htl hn1 hn2 hfit
          go_quiet (fail)
          go_wp2
          go_roundw
          case rel => exact ⟨k + 1, by go_num, by omega, HNX2, _, by rw [← HWR.out, World.drewN_drewN]⟩
          case measure => simp [intOf]; omega
      · have hfi : ¬ (i : Int) ≤ (s.size : Int) := by omega
        have HNX2 := Lib.hid (HNX.out fun h => hfit (HMK.out.1 h).1)
        clear htl hn1 hn2 hfit
        go_quiet (fail)
        go_wp2
        go_roundw
        case rel => exact ⟨k + 1, by go_num, by omega, HNX2, _, by rw [← HWR.out, World.drewN_drewN]⟩
        case measure => simp [intOf]; omega
    · obtain rfl : k = 11 := by omega
      have HEQ := Lib.hid (HG2.out HNE.out)
      have hby := HBY.out.of (HF.out.block y HBY.out.lt id)
      have hbz := HBZ.out.of (HF.out.block (y + 1) HBZ.out.lt id)
      have z0 : wr.cell? ⟨y, 0, none⟩ = some (.int .i64 0) := hby.cell 0
      have z1 : wr.cell? ⟨y, 1, none⟩ = some (.string ⟨#[]⟩) := hby.cell 1
      have z2 : wr.cell? ⟨y, 2, none⟩ = some (.int .i64 0) := hby.cell 2
      have z3 : wr.cell? ⟨y + 1, 0, none⟩ = some (.int .i64 0) := hbz.cell 0
      have z4 : wr.cell? ⟨y + 1, 1, none⟩ = some (.int .i64 0) := hbz.cell 1
      have x0 := hby.frozen 0
      have x1 := hby.frozen 1
      have x2 := hby.frozen 2
      have x3 := hbz.frozen 0
      have x4 := hbz.frozen 1
      have F5 := Lib.hid (F2.out.trans HF.out fun _ _ h => h)
      have hyw := HYW.out
      clear hby hbz
      go_wp2
      refine bodyPost_ret (v := .tuple #[.agg #[.int .i64 0, .string ⟨#[]⟩, .int .i64 0], .int .i64 0, .agg #[.int .i64 40, .int .i64 (p : Nat)]]) (by simp [results, Tryd.results21, go_sem, z0, z1, z2, z3, z4]) rfl ?_
      refine ⟨HEQ.out, ?_⟩
      repeat (refine Fr.setCell ?_ (fun h => absurd h (by first | (show ¬ y < _; omega) | (show ¬ y + 1 < _; omega))) _)
      first | exact F5.out | exact F5.out.drewN _
end Go.Proofs.YtaaleodffghbdaaDoor
