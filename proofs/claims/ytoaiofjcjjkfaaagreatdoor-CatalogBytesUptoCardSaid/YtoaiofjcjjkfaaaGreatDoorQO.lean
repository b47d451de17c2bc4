/- A catalog's file turned or cut: what it reads as (plain). -/
import Derived.Test.YtoaiofjcjjkfaaaGreatDoorM6
import Derived.Deep.RegionWith
import Derived.Deep.RegionLaw
namespace Go.Proofs.YtoaiofjcjjkfaaaGreatDoor
open Go.RowKit Go.Maps Go.Sort
set_option linter.unusedVariables false

/-! ### one element turned -/
def tn (s : List UInt8) (i : Nat) (c : UInt8) : List UInt8 := s.take i ++ c :: s.drop (i + 1)
theorem tn_len {s : List UInt8} {i : Nat} {c : UInt8} (h : i < s.length) : (tn s i c).length = s.length := by
  unfold tn
  simp only [List.length_append, List.length_cons, List.length_take, List.length_drop]
  omega
theorem tn_ne {s : List UInt8} {i : Nat} {c : UInt8} (h : i < s.length) (hc : s[i]? ≠ some c) : tn s i c ≠ s := by
  intro e
  apply hc
  rw [← e]
  unfold tn
  rw [List.getElem?_append_right (by simp; omega)]
  have : i - (s.take i).length = 0 := by simp; omega
  rw [this]; rfl
theorem tn_right (a b : List UInt8) (i : Nat) (c : UInt8) : tn (a ++ b) (a.length + i) c = a ++ tn b i c := by
  unfold tn
  rw [List.take_append, List.take_of_length_le (by omega), Nat.add_sub_cancel_left, List.drop_append, List.drop_of_length_le (by omega), show a.length + i + 1 - a.length = i + 1 by omega]
  simp
theorem tn_left (a b : List UInt8) (i : Nat) (c : UInt8) (h : i < a.length) : tn (a ++ b) i c = tn a i c ++ b := by
  unfold tn
  rw [List.take_append_of_le_length (by omega), List.drop_append_of_le_length (by omega)]
  simp
theorem num_inj {a b : List UInt8} (hl : a.length = b.length) (h : num a = num b) : a = b := by
  have h1 := low_num a
  have h2 := low_num b
  rw [h, hl] at h1
  exact h1.symm.trans h2

/-- A frame whose check isn't its body's. -/
theorem unf_bad (n : Nat) (C B R : List UInt8) (hl : n ≤ 65536) (hC : C.length = 4) (hB : B.length = n) (hne : crc B ≠ num C) :
    (unfR (low n 4 ++ (C ++ (B ++ R)))).2.2 = 21 := by
  have h4 : (low n 4 ++ (C ++ (B ++ R))).take 4 = low n 4 := List.take_left' (low_len 4 _)
  have d4 : (low n 4 ++ (C ++ (B ++ R))).drop 4 = C ++ (B ++ R) := List.drop_left' (low_len 4 _)
  have d8 : (low n 4 ++ (C ++ (B ++ R))).drop 8 = B ++ R := by
    have : ∀ X : List UInt8, X.drop 8 = (X.drop 4).drop 4 := fun X => by rw [List.drop_drop]
    rw [this, d4]; exact List.drop_left' hC
  have t4 : (C ++ (B ++ R)).take 4 = C := List.take_left' hC
  have hlen : (low n 4 ++ (C ++ (B ++ R))).length = 8 + n + R.length := by simp [low_len]; omega
  have hb : (B ++ R).take n = B := List.take_left' hB
  unfold unfR
  rw [h4, num_low_of (by omega), d8, hb, d4, t4, hlen]
  rw [if_neg (by omega), if_neg (by omega), if_neg (by omega), if_pos hne]
/-- A frame one byte of whose check or body is turned. -/
theorem frame_turned (l R : List UInt8) (hl : l.length ≤ 65536) (q : Nat) (hq : q < l.length + 4) (c : UInt8) (hc : (frameR l)[4 + q]? ≠ some c) :
    (unfR (tn (frameR l ++ R) (4 + q) c)).2.2 = 21 := by
  have e : frameR l = low l.length 4 ++ (low (crc l) 4 ++ l) := by unfold frameR; rw [List.append_assoc]
  have hl4 := low_len 4 l.length
  have hc4 := low_len 4 (crc l)
  rw [e, List.getElem?_append_right (by omega), hl4, Nat.add_sub_cancel_left] at hc
  have e2 : tn (frameR l ++ R) (4 + q) c = low l.length 4 ++ tn (low (crc l) 4 ++ (l ++ R)) q c := by
    have h := tn_right (low l.length 4) (low (crc l) 4 ++ (l ++ R)) q c
    rw [hl4] at h
    rw [e, ← h]
    simp only [List.append_assoc]
  rw [e2]
  by_cases h4 : q < 4
  · rw [List.getElem?_append_left (by omega)] at hc
    rw [tn_left _ _ _ _ (by omega)]
    refine unf_bad l.length _ l R hl (by rw [tn_len (by omega), hc4]) rfl fun h => ?_
    refine tn_ne (s := low (crc l) 4) (by omega) hc (num_inj (tn_len (by omega)) ?_)
    rw [← h, num_low_of (by have := crc_lt l; omega)]
  · obtain ⟨p, rfl⟩ : ∃ p, q = 4 + p := ⟨q - 4, by omega⟩
    rw [List.getElem?_append_right (by omega), hc4, Nat.add_sub_cancel_left] at hc
    have h := tn_right (low (crc l) 4) (l ++ R) p c
    rw [hc4] at h
    rw [h, tn_left _ _ _ _ (by omega)]
    refine unf_bad l.length _ _ R hl hc4 (tn_len (by omega)) fun hh => ?_
    rw [num_low_of (by have := crc_lt l; omega)] at hh
    have hp : p < l.length := by omega
    have hl' : l = l.take p ++ l[p] :: l.drop (p + 1) := by rw [← List.drop_eq_getElem_cons hp, List.take_append_drop]
    have hne : c ≠ l[p] := fun h => hc (by rw [List.getElem?_eq_getElem hp, h])
    exact crc_turned (l.take p) (l.drop (p + 1)) c l[p] hne (by rw [← hl']; exact hh)

theorem frame_take4 (l : List UInt8) (m : Nat) (hm : 4 ≤ m) : ((frameR l).take m).take 4 = low l.length 4 := by
  rw [List.take_take, Nat.min_eq_left hm]
  unfold frameR
  rw [List.append_assoc]
  exact List.take_left' (low_len 4 _)
/-- A frame that is cut short is short. -/
theorem unf_cutF (l : List UInt8) (hl : l.length ≤ 65536) (m : Nat) (hm : m < (frameR l).length) : (unfR ((frameR l).take m)).2.2 = 20 := by
  have hF := frameR_len l
  have hlen : ((frameR l).take m).length = m := by rw [List.length_take]; omega
  unfold unfR
  by_cases h8 : m < 8
  · rw [if_pos (by omega)]
  · rw [if_neg (by omega), frame_take4 l m (by omega), num_low_of (by omega), if_neg (by omega), if_pos (by omega)]
theorem at_abs (at_ : Int) (h : i64 at_) : ∃ k : Nat, (k : Int) ≤ 9223372036854775807 ∧ ((at_ < 0 ∧ -(at_ + 1) = (k : Int)) ∨ (0 ≤ at_ ∧ at_ = (k : Int))) := by
  by_cases h0 : at_ < 0
  · exact ⟨(-(at_ + 1)).toNat, by unfold i64 at h; omega, .inl ⟨h0, by omega⟩⟩
  · exact ⟨at_.toNat, by unfold i64 at h; omega, .inr ⟨by omega, by omega⟩⟩
theorem xor_byte (c : UInt8) (x : Nat) (hx : x < 256) (h0 : x ≠ 0) : ∃ y : UInt8, bits .xor .u8 (c.toNat : Int) (x : Int) = (y.toNat : Int) ∧ y ≠ c := by
  have hc : c.toNat < 256 := c.toNat_lt
  have hlt : c.toNat ^^^ x < 256 := Nat.xor_lt_two_pow (n := 8) hc hx
  have ht : (UInt8.ofNat (c.toNat ^^^ x)).toNat = c.toNat ^^^ x := by rw [UInt8.toNat_ofNat']; exact Nat.mod_eq_of_lt hlt
  refine ⟨UInt8.ofNat (c.toNat ^^^ x), ?_, fun h => h0 ?_⟩
  · rw [u8_xor_nat _ _ hc hx, ht]
  · have e : c.toNat ^^^ x = c.toNat := by
      have := congrArg UInt8.toNat h
      rwa [ht] at this
    have : c.toNat ^^^ x = c.toNat ^^^ 0 := by rw [e, Nat.xor_zero]
    exact xor_left_inj this
/-- the byte turned, as a text -/
theorem conv1 (g : Nat) (y : UInt8) (w : World) (h : w.cell? ⟨g, 0, none⟩ = some (byteV y)) : (convert 65 9 (.slice (some ⟨g, 0, none⟩) 1 1)).run Tryz.prog w = .ok (sv [y]) w := by
  have h2 := run_convert_bytes_arg w 65 5 Tryz.underlying65 Tryz.underlying5 g 0 1 1 [(y.toNat : Int)] rfl (fun i hi => by
    obtain rfl : i = 0 := by omega
    exact h) 9 Tryz.underlying9
  refine h2.trans ?_
  simp [strOfNums, sv]

theorem count_stops (S : RS) (h : S.fault ≠ 0) (m : Int) (hm : 0 ≤ m) : S.count m = (0, S) := by
  have h4 : S.take 4 = ([], S) := by unfold RS.take; rw [if_neg h]
  have hn : num ([] : List UInt8) = 0 := rfl
  unfold RS.count
  rw [h4]
  dsimp only
  rw [hn, if_neg (by omega), if_neg h]
theorem head_stops (S : RS) (h : S.fault ≠ 0) : S.head.2 = S := by
  have h1 : S.int.2 = S := int_stops S h
  have h2 : S.texts.2 = S := several_stops text_stops 4 S h
  have h3 : S.schema.2 = S := by
    unfold RS.schema
    dsimp only
    rw [h2, h2]
  unfold RS.head
  dsimp only
  rw [h1, h3, count_stops S h _ (by omega)]
  rfl
/-- What no frame begins is none. -/
theorem readP_bad (s : List UInt8) (h : (unfR s).2.2 ≠ 0) : (readP s).2 = 27 := by
  have hf : (ufR s).fault ≠ 0 := by
    unfold ufR RS.fail
    rw [if_pos ⟨h, rfl⟩]
    exact h
  have hd : (ufR s).done ≠ 0 := by
    unfold RS.done
    rw [if_neg (fun h => hf h.1)]
    exact hf
  have h1 := head_stops _ hf
  have h2 := count_stops _ hf (ufT s).length (by omega)
  have h3 : readL (ufR s).head.1.seq 0 (ufR s) (ufT s) [] = none := by
    unfold readL
    rw [if_neg (fun h => hd h.1)]
  have h4 : readP s = readQ (ufR s).head.1 none := by
    unfold readP readN
    rw [h1, h2, h3]
  rw [h4]
  rfl
/-- The bytes of a checkpoint that has no batches. -/
theorem bytesP_none (c : CkP) (hb : c.bats = []) (h0 : (bytesP c).2 = 0) : ∃ l : List UInt8, (bytesP c).1 = frameR l ∧ l.length ≤ 65536 := by
  have hl := headW_len c
  unfold bytesP at h0 ⊢
  by_cases h1 : c.seq < 0
  · rw [if_pos h1] at h0; exact absurd h0 (by decide)
  · rw [if_neg h1] at h0 ⊢
    by_cases h2 : (headW c).fault = 0
    · rw [if_pos h2, hb] at h0 ⊢
      exact ⟨_, rfl, hl⟩
    · rw [if_neg h2] at h0
      exact absurd h0 (by decide)
end Go.Proofs.YtoaiofjcjjkfaaaGreatDoor
