/- Sums of 128 bits, parts and accumulators, plain: what each call comes to. -/
import Derived.Test.YtgjpdagbbljmpaaRows
namespace Go.Proofs.Ytgjpdagbbljmpaa
set_option linter.unusedVariables false

abbrev Tx := List UInt8
/-- A sum: its two halves. -/
@[ext] structure Sm where
  hi : Int
  lo : Int
deriving DecidableEq
def Sm.ok (s : Sm) : Prop := -9223372036854775808 ≤ s.hi ∧ s.hi < 9223372036854775808 ∧ 0 ≤ s.lo ∧ s.lo < 18446744073709551616
def w64 (n : Int) : Int := (n + 9223372036854775808) % 18446744073709551616 - 9223372036854775808
def plusS (a b : Sm) : Sm := ⟨w64 (a.hi + b.hi + (a.lo + b.lo) / 18446744073709551616), (a.lo + b.lo) % 18446744073709551616⟩
def ofS (n : Int) : Sm := ⟨n / 9223372036854775808, n % 18446744073709551616⟩
def addS (a : Sm) (n : Int) : Sm := plusS a (ofS n)
def minusS (a : Sm) : Sm := addS ⟨-1 - a.hi, 18446744073709551615 - a.lo⟩ 1
def valS (a : Sm) : Int := if w64 a.lo / 9223372036854775808 = a.hi then w64 a.lo else 0
def fitS (a : Sm) : Bool := decide (w64 a.lo / 9223372036854775808 = a.hi)
def i64' (n : Int) : Prop := -9223372036854775808 ≤ n ∧ n ≤ 9223372036854775807

theorem plusS_ok (a b : Sm) : (plusS a b).ok := by unfold Sm.ok plusS w64; simp only; omega
theorem ofS_ok {n : Int} (h : i64' n) : (ofS n).ok := by unfold i64' at h; unfold Sm.ok ofS; simp only; omega
theorem addS_ok (a : Sm) (n : Int) : (addS a n).ok := plusS_ok _ _
theorem minusS_ok (a : Sm) : (minusS a).ok := plusS_ok _ _
theorem plusS_comm (a b : Sm) : plusS a b = plusS b a := by
  unfold plusS
  rw [Int.add_comm a.hi, Int.add_comm a.lo]
theorem plusS_assoc (a b c : Sm) : plusS (plusS a b) c = plusS a (plusS b c) := by
  unfold plusS w64
  ext <;> simp only <;> omega
theorem plus_minus {a b : Sm} (ha : a.ok) : plusS (plusS a b) (minusS b) = a := by
  unfold Sm.ok at ha
  unfold minusS addS ofS plusS w64
  ext <;> simp only <;> omega
theorem plus_self (a : Sm) : plusS a (minusS a) = ⟨0, 0⟩ := by
  unfold minusS addS ofS plusS w64
  ext <;> simp only <;> omega
theorem minus_minus {a : Sm} (ha : a.ok) : minusS (minusS a) = a := by
  unfold Sm.ok at ha
  unfold minusS addS ofS plusS w64
  ext <;> simp only <;> omega
/-- A sum as an integer. -/
def Sm.v (s : Sm) : Int := s.hi * 18446744073709551616 + s.lo
theorem Sm.v_inj {a b : Sm} (ha : a.ok) (hb : b.ok) (h : a.v = b.v) : a = b := by
  unfold Sm.ok at ha hb
  unfold Sm.v at h
  ext <;> omega

/-- Decimal digits, in front of a text. -/
def decF : Nat → Nat → Tx → Tx
  | 0, _, t => t
  | f + 1, n, t => if n / 10 = 0 then UInt8.ofNat (48 + n % 10) :: t else decF f (n / 10) (UInt8.ofNat (48 + n % 10) :: t)
def dec (n : Nat) : Tx := decF 50 n []
def valT : Tx → Nat → Nat
  | [], a => a
  | c :: t, a => valT t (a * 10 + (c.toNat - 48))
theorem digit_val (n : Nat) : (UInt8.ofNat (48 + n % 10)).toNat = 48 + n % 10 := by
  simp only [UInt8.toNat_ofNat']
  omega
theorem valT_cons (c : UInt8) (t : Tx) (a : Nat) : valT (c :: t) a = valT t (a * 10 + (c.toNat - 48)) := rfl
theorem decF_val : ∀ (f n : Nat) (t : Tx), n < 10 ^ f → valT (decF f n t) 0 = valT t n
  | 0, n, t, h => by
    have : n = 0 := by simpa using h
    subst this; rfl
  | f + 1, n, t, h => by
    unfold decF
    split
    · rename_i h0
      rw [valT_cons, digit_val]
      congr 1; omega
    · rw [decF_val f (n / 10) _ (by rw [Nat.pow_succ] at h; omega)]
      rw [valT_cons, digit_val]
      congr 1; omega
theorem dec_val {n : Nat} (h : n < 10 ^ 50) : valT (dec n) 0 = n := decF_val 50 n [] h
theorem decF_head : ∀ (f n : Nat) (t : Tx), 0 < f → ∃ k l, k < 10 ∧ decF f n t = UInt8.ofNat (48 + k) :: l
  | 0, _, _, h => absurd h (by decide)
  | f + 1, n, t, _ => by
    unfold decF
    split
    · exact ⟨n % 10, _, by omega, rfl⟩
    · rcases Nat.eq_zero_or_pos f with rfl | hf
      · exact ⟨n % 10, _, by omega, rfl⟩
      · exact decF_head f _ _ hf
def textS (a : Sm) : Tx := (if a.hi < 0 then [45] else []) ++ dec a.v.natAbs
theorem natAbs_lt {a : Sm} (ha : a.ok) : a.v.natAbs ≤ 170141183460469231731687303715884105728 := by
  unfold Sm.ok at ha
  unfold Sm.v
  omega
theorem textS_inj {a b : Sm} (ha : a.ok) (hb : b.ok) : textS a = textS b ↔ a = b := by
  refine ⟨fun h => ?_, fun h => by rw [h]⟩
  have va := dec_val (n := a.v.natAbs) (Nat.lt_of_le_of_lt (natAbs_lt ha) (by decide))
  have vb := dec_val (n := b.v.natAbs) (Nat.lt_of_le_of_lt (natAbs_lt hb) (by decide))
  obtain ⟨ka, la, hka, ea⟩ := decF_head 50 a.v.natAbs [] (by decide)
  obtain ⟨kb, lb, hkb, eb⟩ := decF_head 50 b.v.natAbs [] (by decide)
  change dec _ = _ at ea
  change dec _ = _ at eb
  have hne : ∀ k, k < 10 → (45 : UInt8) ≠ UInt8.ofNat (48 + k) := fun k hk e => by
    have := congrArg UInt8.toNat e
    simp only [UInt8.toNat_ofNat'] at this
    have e45 : (45 : UInt8).toNat = 45 := rfl
    omega
  unfold textS at h
  by_cases h1 : a.hi < 0 <;> by_cases h2 : b.hi < 0
  · rw [if_pos h1, if_pos h2] at h
    have h' : dec a.v.natAbs = dec b.v.natAbs := by simpa using h
    rw [h'] at va
    refine Sm.v_inj ha hb ?_
    unfold Sm.ok at ha hb
    unfold Sm.v at va vb ⊢
    omega
  · rw [if_pos h1, if_neg h2, eb] at h
    exact absurd (by simpa using (List.cons.inj h).1) (hne kb hkb)
  · rw [if_neg h1, if_pos h2, ea] at h
    exact absurd (by simpa using (List.cons.inj h).1.symm) (hne ka hka)
  · rw [if_neg h1, if_neg h2] at h
    have h' : dec a.v.natAbs = dec b.v.natAbs := by simpa using h
    rw [h'] at va
    refine Sm.v_inj ha hb ?_
    unfold Sm.ok at ha hb
    unfold Sm.v at va vb ⊢
    omega
/-- |the negated one| is what its two halves are, without a sign. -/
theorem minus_abs {a : Sm} (ha : a.ok) (h : a.hi < 0) : (minusS a).hi % 18446744073709551616 * 18446744073709551616 + (minusS a).lo = (a.v.natAbs : Int) := by
  unfold Sm.ok at ha
  unfold Sm.v
  unfold minusS addS ofS plusS w64
  simp only
  omega

/-! ### parts -/
@[ext] structure Pt where
  any : Bool
  s : Sm
  mn : Int
  mx : Int
deriving DecidableEq
def Pt.ok (p : Pt) : Prop := p.s.ok ∧ i64' p.mn ∧ i64' p.mx
def Pt.zero : Pt := ⟨false, ⟨0, 0⟩, 0, 0⟩
def withP (p : Pt) (n : Int) : Pt := ⟨true, addS p.s n, if p.any then min p.mn n else n, if p.any then max p.mx n else n⟩
def bothP (p q : Pt) : Pt :=
  if p.any = true then if q.any = true then ⟨true, plusS p.s q.s, min p.mn q.mn, max p.mx q.mx⟩ else p
  else if q.any = true then q else Pt.zero
@[ext] structure Ac where
  count : Int
  parts : List Pt
deriving DecidableEq
def takeL : List Pt → List Int → List Pt
  | [], _ => []
  | p :: l, [] => p :: l
  | p :: l, n :: ns => withP p n :: takeL l ns
def mergeL : List Pt → List Pt → List Pt
  | [], l => l
  | l, [] => l
  | p :: l, q :: m => bothP p q :: mergeL l m
def takeA (a : Ac) (ns : List Int) : Ac := ⟨w64 (a.count + 1), takeL a.parts ns⟩
def mergeA (a b : Ac) : Ac := ⟨w64 (a.count + b.count), mergeL a.parts b.parts⟩
def newA (m : Int) : Ac := ⟨0, List.replicate (min (max m 0) 4).toNat Pt.zero⟩
def mayP (p : Pt) (c : Int) : Bool := if p.any = true then decide (0 < c) && decide (p.mn ≤ p.mx) else decide (p = Pt.zero)
def validA (a : Ac) (m : Int) : Bool := decide (0 ≤ a.count) && decide ((a.parts.length : Int) = m) && a.parts.all fun p => mayP p a.count
end Go.Proofs.Ytgjpdagbbljmpaa
