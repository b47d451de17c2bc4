/- LexWords: the reference's blanks and texts in quotes. -/
import Derived.Test.YtaaleodffghbdaaDoorG4
namespace Go.Proofs.YtaaleodffghbdaaDoor
open Go.RowKit Go.Maps
set_option linter.unusedVariables false

theorem bla_nat : ∀ b : UInt8, isBla b = decide (b.toNat = 32 ∨ b.toNat = 9 ∨ b.toNat = 10 ∨ b.toNat = 13) :=
  all_bytes (p := fun b => isBla b = decide (b.toNat = 32 ∨ b.toNat = 9 ∨ b.toNat = 10 ∨ b.toNat = 13)) (by decide +kernel)
theorem refBlank_any (b : UInt8) (w : World) : Calls Tryd.prog 20 #[.int .u8 (b.toNat : Nat)] w fun e w' => e = .returned (.bool (isBla b)) ∧ w = w' := by
  have h0 := u8_lt b
  obtain ⟨V, hV⟩ : ∃ V, isBla b = V := ⟨_, rfl⟩
  have hn := bla_nat b
  rw [hV] at hn ⊢
  clear hV
  by_cases h1 : b.toNat = 32
  · have k1 : ((b.toNat : Int) == 32) = true := by simp; omega
    obtain rfl : V = true := by rw [hn]; simp; omega
    clear hn
    go_enter Tryd.func20, Tryd.ntmps20
    go_wp2
    go_ret
    exact ⟨rfl, rfl⟩
  · have k1 : ((b.toNat : Int) == 32) = false := by simp; omega
    by_cases h2 : b.toNat = 9
    · have k2 : ((b.toNat : Int) == 9) = true := by simp; omega
      obtain rfl : V = true := by rw [hn]; simp; omega
      clear hn
      go_enter Tryd.func20, Tryd.ntmps20
      go_wp2
      go_ret
      exact ⟨rfl, rfl⟩
    · have k2 : ((b.toNat : Int) == 9) = false := by simp; omega
      by_cases h3 : b.toNat = 10
      · have k3 : ((b.toNat : Int) == 10) = true := by simp; omega
        obtain rfl : V = true := by rw [hn]; simp; omega
        clear hn
        go_enter Tryd.func20, Tryd.ntmps20
        go_wp2
        go_ret
        exact ⟨rfl, rfl⟩
      · have k3 : ((b.toNat : Int) == 10) = false := by simp; omega
        by_cases h4 : b.toNat = 13
        · have k4 : ((b.toNat : Int) == 13) = true := by simp; omega
          obtain rfl : V = true := by rw [hn]; simp; omega
          clear hn
          go_enter Tryd.func20, Tryd.ntmps20
          go_wp2
          go_ret
          exact ⟨ret_bool (by first | rfl | assumption), rfl⟩
        · have k4 : ((b.toNat : Int) == 13) = false := by simp; omega
          obtain rfl : V = false := by rw [hn]; simp; omega
          clear hn
          go_enter Tryd.func20, Tryd.ntmps20
          go_wp2
          go_ret
          exact ⟨ret_bool (by first | rfl | assumption), rfl⟩

theorem unq_other {b : UInt8} (hb : b ≠ 39) (l : Tx) : unq (b :: l) = (unq l).map fun x => (b :: x.1, x.2 + 1) := by
  cases l with
  | nil => show (if b = 39 then _ else _) = _; rw [if_neg hb]; rfl
  | cons c l => show (if b = 39 then _ else _) = _; rw [if_neg hb]
theorem unq_two (l : Tx) : unq (39 :: 39 :: l) = (unq l).map fun x => (39 :: x.1, x.2 + 2) := rfl
theorem unq_stop {l : Tx} (h : l.head? ≠ some 39) : unq (39 :: l) = some ([], 1) := by
  cases l with
  | nil => rfl
  | cons c l =>
    have hc : c ≠ 39 := fun e => h (by rw [e]; rfl)
    show (if (39 : UInt8) = 39 then if c = 39 then _ else _ else _) = _
    rw [if_pos rfl, if_neg hc]

/-- What the reference's readers of a word answer. -/
def refV (p : Nat) : Tk → Value
  | .bad c on => .tuple #[.agg #[.int .i64 0, .string ⟨#[]⟩, .int .i64 0], .int .i64 0, .agg #[.int .i64 (c : Nat), .int .i64 ((p + on : Nat) : Int)]]
  | .good k t n => .tuple #[.agg #[.int .i64 (k : Nat), .string ⟨t.toArray⟩, .int .i64 (p : Nat)], .int .i64 ((p + n : Nat) : Int), .agg #[.int .i64 0, .int .i64 0]]
def RefP (p : Nat) (r : Tk) (w : World) (e : Ending) (w' : World) : Prop := e = .returned (refV p r) ∧ Fr No w w'
/-- A text in quotes: what is read, up to i. -/
def RQ (s : ByteArray) (p i : Nat) (acc : Tx) : Prop := unq (s.data.toList.drop (p + 1)) = (unq (s.data.toList.drop i)).map fun x => (acc ++ x.1, x.2 + (i - (p + 1)))
theorem drop_at (s : ByteArray) (i : Nat) (hi : i < s.size) : s.data.toList.drop i = s[i] :: s.data.toList.drop (i + 1) := by
  rw [List.drop_eq_getElem_cons (by rw [len_data]; exact hi)]; rfl
theorem RQ.zero (s : ByteArray) (p : Nat) : RQ s p (p + 1) [] := by
  unfold RQ
  cases unq (s.data.toList.drop (p + 1)) with
  | none => rfl
  | some x => simp
theorem RQ.other {s : ByteArray} {p i : Nat} {acc : Tx} (h : RQ s p i acc) (hp : p + 1 ≤ i) (hi : i < s.size) (hb : s[i] ≠ 39) : RQ s p (i + 1) (acc ++ [s[i]]) := by
  unfold RQ at h ⊢
  rw [h, drop_at s i hi, unq_other hb]
  cases unq (s.data.toList.drop (i + 1)) with
  | none => rfl
  | some x => simp; omega
theorem RQ.two {s : ByteArray} {p i : Nat} {acc : Tx} (h : RQ s p i acc) (hp : p + 1 ≤ i) (hi : i + 1 < s.size) (hb : s[i] = 39) (hc : s[i + 1] = 39) : RQ s p (i + 2) (acc ++ [39]) := by
  unfold RQ at h ⊢
  rw [h, drop_at s i (by omega), drop_at s (i + 1) hi, hb, hc, unq_two]
  cases unq (s.data.toList.drop (i + 2)) with
  | none => rfl
  | some x => simp; omega
theorem RQ.stop {s : ByteArray} {p i : Nat} {acc : Tx} (h : RQ s p i acc) (hp : p + 1 ≤ i) (hi : i < s.size) (hb : s[i] = 39) (hc : ∀ h : i + 1 < s.size, s[i + 1] ≠ 39) : unq (s.data.toList.drop (p + 1)) = some (acc, i - p) := by
  unfold RQ at h
  rw [h, drop_at s i hi, hb, unq_stop]
  · simp; omega
  · by_cases h2 : i + 1 < s.size
    · rw [drop_at s (i + 1) h2]
      intro e
      exact hc h2 (by simpa using e)
    · rw [List.drop_of_length_le (by rw [len_data]; omega)]
      simp
theorem RQ.end_ {s : ByteArray} {p : Nat} {acc : Tx} (h : RQ s p s.size acc) : unq (s.data.toList.drop (p + 1)) = none := by
  unfold RQ at h
  rw [h, List.drop_of_length_le (l := s.data.toList) (by rw [len_data]; omega)]
  rfl
end Go.Proofs.YtaaleodffghbdaaDoor
