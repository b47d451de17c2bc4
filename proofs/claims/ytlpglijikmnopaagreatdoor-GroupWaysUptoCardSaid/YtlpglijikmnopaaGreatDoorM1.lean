/- Sums of 128 bits, parts and accumulators, plain: what each call comes to. -/
import Derived.Test.YtlpglijikmnopaaGreatDoorProg
import Derived.Lib.QuietBelow
import Derived.Deep.RegionLaw
import Derived.Deep.Cut
import Derived.Deep.CutBlock
import Derived.Deep.DeepCutAuto
import Derived.StillTailTactics
import Derived.IntWalk
import Derived.WalkKit
import Derived.WalkSpells
import Derived.WalkLawsBesides
import Derived.Deep.QuietTactic
import Derived.BigQuiet
import Derived.Lib.Hide
import Derived.Lib.AppendStr
import Derived.Maps.OwnSet
import Derived.Maps.Ext
import Derived.Deep.LoopGhost
import Derived.Laws.BitsAllLaws
import Derived.Laws.AppendOwnNone
import Derived.Deep.Slices
import Derived.Deep.RegionHeld3
import Derived.Deep.AppendLies
import Derived.Deep.Draws
import Derived.Shelf.Spec.BitsCarry
import Derived.Laws.Shifts
namespace Go.Proofs.YtlpglijikmnopaaGreatDoor
set_option linter.unusedVariables false

abbrev Tx := List UInt8
/-- A sum: its two halves. -/
@[ext] structure Sm where
  hi : Int
  lo : Int
deriving DecidableEq
def Sm.ok (s : Sm) : Prop := -9223372036854775808 ≤ s.hi ∧ s.hi < 9223372036854775808 ∧ 0 ≤ s.lo ∧ s.lo < 18446744073709551616
def w64 (n : Int) : Int := (n + 9223372036854775808) % 18446744073709551616 - 9223372036854775808
def plusS (a b : Sm) : Sm := ⟨w64 (a.hi + b.hi + (a.lo + b.lo) / 18446744073709551616), (a.lo + b.lo) % 18446744073709551616⟩
def ofS (n : Int) : Sm := ⟨n / 9223372036854775808, n % 18446744073709551616⟩
def addS (a : Sm) (n : Int) : Sm := plusS a (ofS n)
def minusS (a : Sm) : Sm := addS ⟨-1 - a.hi, 18446744073709551615 - a.lo⟩ 1
def valS (a : Sm) : Int := if w64 a.lo / 9223372036854775808 = a.hi then w64 a.lo else 0
def fitS (a : Sm) : Bool := decide (w64 a.lo / 9223372036854775808 = a.hi)
def i64' (n : Int) : Prop := -9223372036854775808 ≤ n ∧ n ≤ 9223372036854775807

theorem plusS_ok (a b : Sm) : (plusS a b).ok := by unfold Sm.ok plusS w64; simp only; omega
theorem ofS_ok {n : Int} (h : i64' n) : (ofS n).ok := by unfold i64' at h; unfold Sm.ok ofS; simp only; omega
theorem addS_ok (a : Sm) (n : Int) : (addS a n).ok := plusS_ok _ _
theorem minusS_ok (a : Sm) : (minusS a).ok := plusS_ok _ _
theorem plusS_comm (a b : Sm) : plusS a b = plusS b a := by
  unfold plusS
  rw [Int.add_comm a.hi, Int.add_comm a.lo]
theorem plusS_assoc (a b c : Sm) : plusS (plusS a b) c = plusS a (plusS b c) := by
  unfold plusS w64
  ext <;> simp only <;> omega
theorem plus_minus {a b : Sm} (ha : a.ok) : plusS (plusS a b) (minusS b) = a := by
  unfold Sm.ok at ha
  unfold minusS addS ofS plusS w64
  ext <;> simp only <;> omega
theorem plus_self (a : Sm) : plusS a (minusS a) = ⟨0, 0⟩ := by
  unfold minusS addS ofS plusS w64
  ext <;> simp only <;> omega
theorem minus_minus {a : Sm} (ha : a.ok) : minusS (minusS a) = a := by
  unfold Sm.ok at ha
  unfold minusS addS ofS plusS w64
  ext <;> simp only <;> omega
/-- A sum as an integer. -/
def Sm.v (s : Sm) : Int := s.hi * 18446744073709551616 + s.lo
theorem Sm.v_inj {a b : Sm} (ha : a.ok) (hb : b.ok) (h : a.v = b.v) : a = b := by
  unfold Sm.ok at ha hb
  unfold Sm.v at h
  ext <;> omega

/-- Decimal digits, in front of a text. -/
def decF : Nat → Nat → Tx → Tx
  | 0, _, t => t
  | f + 1, n, t => if n / 10 = 0 then UInt8.ofNat (48 + n % 10) :: t else decF f (n / 10) (UInt8.ofNat (48 + n % 10) :: t)
def dec (n : Nat) : Tx := decF 50 n []
def valT : Tx → Nat → Nat
  | [], a => a
  | c :: t, a => valT t (a * 10 + (c.toNat - 48))
theorem digit_val (n : Nat) : (UInt8.ofNat (48 + n % 10)).toNat = 48 + n % 10 := by
  simp only [UInt8.toNat_ofNat']
  omega
theorem valT_cons (c : UInt8) (t : Tx) (a : Nat) : valT (c :: t) a = valT t (a * 10 + (c.toNat - 48)) := rfl
theorem decF_val : ∀ (f n : Nat) (t : Tx), n < 10 ^ f → valT (decF f n t) 0 = valT t n
  | 0, n, t, h => by
    have : n = 0 := by simpa using h
    subst this; rfl
  | f + 1, n, t, h => by
    unfold decF
    split
    · rename_i h0
      rw [valT_cons, digit_val]
      congr 1; omega
    · rw [decF_val f (n / 10) _ (by rw [Nat.pow_succ] at h; omega)]
      rw [valT_cons, digit_val]
      congr 1; omega
theorem dec_val {n : Nat} (h : n < 10 ^ 50) : valT (dec n) 0 = n := decF_val 50 n [] h
theorem decF_head : ∀ (f n : Nat) (t : Tx), 0 < f → ∃ k l, k < 10 ∧ decF f n t = UInt8.ofNat (48 + k) :: l
  | 0, _, _, h => absurd h (by decide)
  | f + 1, n, t, _ => by
    unfold decF
    split
    · exact ⟨n % 10, _, by omega, rfl⟩
    · rcases Nat.eq_zero_or_pos f with rfl | hf
      · exact ⟨n % 10, _, by omega, rfl⟩
      · exact decF_head f _ _ hf
def textS (a : Sm) : Tx := (if a.hi < 0 then [45] else []) ++ dec a.v.natAbs
theorem natAbs_lt {a : Sm} (ha : a.ok) : a.v.natAbs ≤ 170141183460469231731687303715884105728 := by
  unfold Sm.ok at ha
  unfold Sm.v
  omega
theorem textS_inj {a b : Sm} (ha : a.ok) (hb : b.ok) : textS a = textS b ↔ a = b := by
  refine ⟨fun h => ?_, fun h => by rw [h]⟩
  have va := dec_val (n := a.v.natAbs) (Nat.lt_of_le_of_lt (natAbs_lt ha) (by decide))
  have vb := dec_val (n := b.v.natAbs) (Nat.lt_of_le_of_lt (natAbs_lt hb) (by decide))
  obtain ⟨ka, la, hka, ea⟩ := decF_head 50 a.v.natAbs [] (by decide)
  obtain ⟨kb, lb, hkb, eb⟩ := decF_head 50 b.v.natAbs [] (by decide)
  change dec _ = _ at ea
  change dec _ = _ at eb
  have hne : ∀ k, k < 10 → (45 : UInt8) ≠ UInt8.ofNat (48 + k) := fun k hk e => by
    have := congrArg UInt8.toNat e
    simp only [UInt8.toNat_ofNat'] at this
    have e45 : (45 : UInt8).toNat = 45 := rfl
    omega
  unfold textS at h
  by_cases h1 : a.hi < 0 <;> by_cases h2 : b.hi < 0
  · rw [if_pos h1, if_pos h2] at h
    have h' : dec a.v.natAbs = dec b.v.natAbs := by simpa using h
    rw [h'] at va
    refine Sm.v_inj ha hb ?_
    unfold Sm.ok at ha hb
    unfold Sm.v at va vb ⊢
    omega
  · rw [if_pos h1, if_neg h2, eb] at h
    exact absurd (by simpa using (List.cons.inj h).1) (hne kb hkb)
  · rw [if_neg h1, if_pos h2, ea] at h
    exact absurd (by simpa using (List.cons.inj h).1.symm) (hne ka hka)
  · rw [if_neg h1, if_neg h2] at h
    have h' : dec a.v.natAbs = dec b.v.natAbs := by simpa using h
    rw [h'] at va
    refine Sm.v_inj ha hb ?_
    unfold Sm.ok at ha hb
    unfold Sm.v at va vb ⊢
    omega
/-- |the negated one| is what its two halves are, without a sign. -/
theorem minus_abs {a : Sm} (ha : a.ok) (h : a.hi < 0) : (minusS a).hi % 18446744073709551616 * 18446744073709551616 + (minusS a).lo = (a.v.natAbs : Int) := by
  unfold Sm.ok at ha
  unfold Sm.v
  unfold minusS addS ofS plusS w64
  simp only
  omega

/-! ### parts -/
@[ext] structure Pt where
  any : Bool
  s : Sm
  mn : Int
  mx : Int
deriving DecidableEq
def Pt.ok (p : Pt) : Prop := p.s.ok ∧ i64' p.mn ∧ i64' p.mx
def Pt.zero : Pt := ⟨false, ⟨0, 0⟩, 0, 0⟩
def withP (p : Pt) (n : Int) : Pt := ⟨true, addS p.s n, if p.any then min p.mn n else n, if p.any then max p.mx n else n⟩
def bothP (p q : Pt) : Pt :=
  if p.any = true then if q.any = true then ⟨true, plusS p.s q.s, min p.mn q.mn, max p.mx q.mx⟩ else p
  else if q.any = true then q else Pt.zero
@[ext] structure Ac where
  count : Int
  parts : List Pt
deriving DecidableEq
def takeL : List Pt → List Int → List Pt
  | [], _ => []
  | p :: l, [] => p :: l
  | p :: l, n :: ns => withP p n :: takeL l ns
def mergeL : List Pt → List Pt → List Pt
  | [], l => l
  | l, [] => l
  | p :: l, q :: m => bothP p q :: mergeL l m
def takeA (a : Ac) (ns : List Int) : Ac := ⟨w64 (a.count + 1), takeL a.parts ns⟩
def mergeA (a b : Ac) : Ac := ⟨w64 (a.count + b.count), mergeL a.parts b.parts⟩
def newA (m : Int) : Ac := ⟨0, List.replicate (min (max m 0) 4).toNat Pt.zero⟩
def mayP (p : Pt) (c : Int) : Bool := if p.any = true then decide (0 < c) && decide (p.mn ≤ p.mx) else decide (p = Pt.zero)
def validA (a : Ac) (m : Int) : Bool := decide (0 ≤ a.count) && decide ((a.parts.length : Int) = m) && a.parts.all fun p => mayP p a.count
end Go.Proofs.YtlpglijikmnopaaGreatDoor
namespace Go.Proofs.YtlpglijikmnopaaGreatDoor
open Go.RowKit Go.Maps
set_option linter.unusedVariables false

theorem ret_bool {a b : Bool} (h : a = b) : Ending.returned (.bool a) = Ending.returned (.bool b) := by rw [h]
theorem ret_int {k : IntKind} {a b : Int} (h : a = b) : Ending.returned (.int k a) = Ending.returned (.int k b) := by rw [h]
def byteV (u : UInt8) : Value := .int .u8 u.toNat

/-! ### frames -/
/-- Of the blocks that were there, those outside F are as they were. -/
structure Fr (F : Nat → Prop) (w w' : World) : Prop where
  os : w'.os = w.os
  tape : w'.tape = w.tape
  output : w'.output = w.output
  size : w.heap.size ≤ w'.heap.size
  block : ∀ k, k < w.heap.size → ¬ F k → w'.heap[k]? = w.heap[k]?

def No : Nat → Prop := fun _ => False

theorem Fr.refl (F : Nat → Prop) (w : World) : Fr F w w := ⟨rfl, rfl, rfl, Nat.le_refl _, fun _ _ _ => rfl⟩
theorem Fr.mono {F G : Nat → Prop} {w w' : World} (h : Fr F w w') (hFG : ∀ k, k < w.heap.size → F k → G k) : Fr G w w' :=
  ⟨h.os, h.tape, h.output, h.size, fun k hk hn => h.block k hk fun hf => hn (hFG k hk hf)⟩
theorem Fr.trans {F G : Nat → Prop} {a b c : World} (h : Fr F a b) (k : Fr G b c) (hGF : ∀ j, j < a.heap.size → G j → F j) : Fr F a c :=
  ⟨k.os.trans h.os, k.tape.trans h.tape, k.output.trans h.output, Nat.le_trans h.size k.size,
   fun j hj hn => (k.block j (Nat.lt_of_lt_of_le hj h.size) fun hg => hn (hGF j hj hg)).trans (h.block j hj hn)⟩
theorem Fr.drew {F : Nat → Prop} {a w : World} (h : Fr F a w) : Fr F a w.drew := ⟨h.os, h.tape, h.output, h.size, h.block⟩
theorem Fr.drewN {F : Nat → Prop} {a w : World} (h : Fr F a w) (n : Nat) : Fr F a (w.drewN n) := ⟨h.os, h.tape, h.output, h.size, h.block⟩
theorem Fr.alloc {F : Nat → Prop} {a w : World} (h : Fr F a w) (o : Obj) : Fr F a (w.alloc o) :=
  ⟨h.os, h.tape, h.output, by simp; have := h.size; omega, fun j hj hn => (Below.heap_alloc w o j (Nat.lt_of_lt_of_le hj h.size)).trans (h.block j hj hn)⟩
theorem Fr.setCell {F : Nat → Prop} {a w : World} (h : Fr F a w) {p : Addr} (hp : p.block < a.heap.size → F p.block) (u : Value) : Fr F a (w.setCell p u) :=
  ⟨h.os, h.tape, h.output, by simp [World.setCell]; exact h.size, fun j hj hn => (Below.heap_setCell w p u j (fun e => hn (by subst e; exact hp hj))).trans (h.block j hj hn)⟩
theorem Fr.grown {F : Nat → Prop} {a w w' : World} {row : Option Nat} (h : Fr F a w) (hg : w.grownBy w' row) (hr : ∀ k, row = some k → k < a.heap.size → F k) : Fr F a w' :=
  ⟨hg.os.trans h.os, hg.tape.trans h.tape, hg.output.trans h.output, Nat.le_trans h.size hg.size, fun j hj hn =>
    (hg.block j (Nat.lt_of_lt_of_le hj h.size) fun e => hn (hr j e.symm hj)).trans (h.block j hj hn)⟩
theorem Fr.of_below {w w' : World} (h : Below w.heap.size w w') : Fr No w w' := ⟨h.os, h.tape, h.output, h.size, fun k hk _ => h.block k hk⟩
theorem Fr.below {w w' : World} (h : Fr No w w') : Below w.heap.size w w' := ⟨h.os, h.tape, h.output, h.size, fun k hk => h.block k hk id⟩
theorem Fr.below_of {F : Nat → Prop} {B : Nat} {w w' : World} (h : Fr F w w') (hB : B ≤ w.heap.size) (hF : ∀ k, F k → B ≤ k) : Below B w w' :=
  ⟨h.os, h.tape, h.output, h.size, fun k hk => h.block k (Nat.lt_of_lt_of_le hk hB) fun hf => by have := hF k hf; omega⟩
theorem Fr.any {G : Nat → Prop} {w w' : World} (h : Fr No w w') : Fr G w w' := h.mono fun _ _ hf => hf.elim

/-! ### blocks -/
def Blk (w : World) (g : Nat) (t : TypeId) (cs : Array Value) : Prop := w.heap[g]? = some (.cells cs t (0, 0))
section
variable {w w' : World} {g : Nat} {t : TypeId} {cs : Array Value}
theorem Blk.lt (h : Blk w g t cs) : g < w.heap.size := by
  rcases Nat.lt_or_ge g w.heap.size with hlt | hge
  · exact hlt
  · unfold Blk at h; rw [Array.getElem?_eq_none hge] at h; cases h
theorem Blk.cell (h : Blk w g t cs) (i : Nat) : w.cell? ⟨g, i, none⟩ = cs[i]? := cell_of_row w g i cs t (0, 0) h
theorem Blk.frozen (h : Blk w g t cs) (i : Nat) : w.frozen? ⟨g, i, none⟩ = false := by
  unfold Blk at h
  simp [World.frozen?, h]
theorem Blk.new (w : World) (t : TypeId) (cs : Array Value) : Blk (w.alloc (.cells cs t)) w.heap.size t cs := heap_alloc_new w _
theorem Blk.set_ (h : Blk w g t cs) (i : Nat) (u : Value) : Blk (w.setCell ⟨g, i, none⟩ u) g t (cs.setIfInBounds i u) := by
  unfold Blk at h ⊢
  simp [World.setCell, Array.getElem?_modify, h]
theorem Blk.of (h : Blk w g t cs) (hk : w'.heap[g]? = w.heap[g]?) : Blk w' g t cs := hk.trans h
theorem Blk.ne_ {g' : Nat} {t' : TypeId} {cs' : Array Value} (h : Blk w g t cs) (h' : Blk w g' t' cs') (hne : t ≠ t') : g ≠ g' := by
  rintro rfl
  unfold Blk at h h'
  rw [h] at h'
  injection h' with h'
  injection h' with _ ht
  exact hne ht
end

/-! ### rows: what a row needs of the heap is its own block alone -/
theorem own_of {w w' : World} {base : Nat} {e : TypeId} {size n : Nat} {v : Value} {xs : List Value} (h : w.ownsRow base e size v n xs)
    (hk : ∀ k, v.ownBlock = some k → w'.heap[k]? = w.heap[k]?) : w'.ownsRow base e size v n xs := by
  refine ⟨h.1, ?_⟩
  rcases h.2 with h2 | ⟨g, cap, cur, rfl, hb, hh, r⟩
  · exact .inl h2
  · exact .inr ⟨g, cap, cur, rfl, hb, (hk g rfl).trans hh, r⟩
theorem own_base {w : World} {base base' : Nat} {e : TypeId} {size n : Nat} {v : Value} {xs : List Value} (h : w.ownsRow base e size v n xs) (hb : base' ≤ base) : w.ownsRow base' e size v n xs := by
  refine ⟨h.1, ?_⟩
  rcases h.2 with h2 | ⟨g, cap, cur, rfl, hg, r⟩
  · exact .inl h2
  · exact .inr ⟨g, cap, cur, rfl, by omega, r⟩
theorem own_row {w : World} {base : Nat} {e : TypeId} {size n g : Nat} {v : Value} {xs : List Value} (h : w.ownsRow base e size v n xs) (hg : v.ownBlock = some g) :
    ∃ cur, w.heap[g]? = some (.cells cur e (0, 0)) := by
  rcases h.2 with ⟨rfl, _⟩ | ⟨g', cap, cur, rfl, _, hh, _⟩
  · simp [Value.ownBlock] at hg
  · simp [Value.ownBlock] at hg; subst hg; exact ⟨cur, hh⟩
theorem own_blk_ne {w : World} {base : Nat} {e t : TypeId} {size n g k : Nat} {v : Value} {xs : List Value} {cs : Array Value} (h : w.ownsRow base e size v n xs) (hk : v.ownBlock = some k) (hg : Blk w g t cs) (hne : e ≠ t) : k ≠ g := by
  obtain ⟨cur, hc⟩ := own_row h hk
  exact Blk.ne_ (w := w) (t := e) hc hg hne
theorem own_own_ne {w : World} {base base' : Nat} {e e' : TypeId} {size size' n n' k k' : Nat} {v v' : Value} {xs xs' : List Value} (h : w.ownsRow base e size v n xs) (hk : v.ownBlock = some k) (h' : w.ownsRow base' e' size' v' n' xs') (hk' : v'.ownBlock = some k') (hne : e ≠ e') : k ≠ k' := by
  obtain ⟨cur, hc⟩ := own_row h hk
  obtain ⟨cur', hc'⟩ := own_row h' hk'
  exact Blk.ne_ (w := w) (t := e) hc hc' hne
/-- The first k of a row of one-cell elements. -/
theorem own_take {w : World} {base : Nat} {e : TypeId} {n cap : Nat} {a : Option Addr} {xs : List Value} (h : w.ownsRow base e 1 (.slice a n cap) n xs) (k : Nat) (hk : k ≤ n) : w.ownsRow base e 1 (.slice a k cap) k (xs.take k) := by
  have hl := h.1
  refine ⟨by simp [List.length_take]; omega, ?_⟩
  rcases h.2 with ⟨e1, rfl⟩ | ⟨g, cap', cur, e1, hb, hh, hnc, hcm, hs, ht⟩
  · injection e1 with e1 _ e2
    subst e1; subst e2
    exact .inl ⟨by rw [show k = 0 by omega], by omega⟩
  · injection e1 with e1 _ e2
    subst e1; subst e2
    refine .inr ⟨g, cap, cur, rfl, hb, hh, by omega, hcm, hs, ?_⟩
    rw [← ht, List.take_take]
    congr 1; omega

abbrev sv (l : Tx) : Value := .string ⟨l.toArray⟩
theorem sz (l : Tx) : (⟨l.toArray⟩ : ByteArray).size = l.length := by simp [ByteArray.size]
abbrev i64 := i64'
theorem cell_of_heap {w w' : World} {g o : Nat} (h : w'.heap[g]? = w.heap[g]?) : w'.cell? ⟨g, o, none⟩ = w.cell? ⟨g, o, none⟩ := by
  simp [World.cell?, h]
/-! ### rows of anything -/
/-- v reads as l: elements of so many cells, in blocks of which K speaks. -/
def RowE {α : Type} (K : Nat → Prop) (w : World) (size : Nat) (E : α → List Value → Prop) (v : Value) (l : List α) : Prop :=
  ∃ A c, v = .slice A l.length c ∧ l.length ≤ c ∧ c ≤ maxLen ∧ (0 < l.length → ∃ g off, A = some ⟨g, off, none⟩ ∧ K g ∧ g < w.heap.size ∧ ∀ j (h : j < l.length), ∃ cs : List Value, cs.length = size ∧ (∀ i, i < size → w.cell? ⟨g, off + j * size + i, none⟩ = cs[i]?) ∧ E l[j] cs)
theorem RowE.mono {α : Type} {K K' : Nat → Prop} {w w' : World} {size : Nat} {E E' : α → List Value → Prop} {v : Value} {l : List α} (h : RowE K w size E v l) (hk : ∀ k, K k → k < w.heap.size → K' k ∧ w'.heap[k]? = w.heap[k]?) (hE : ∀ x cs, E x cs → E' x cs) : RowE K' w' size E' v l := by
  obtain ⟨A, c, e, hm, hc, h⟩ := h
  refine ⟨A, c, e, hm, hc, fun hl => ?_⟩
  obtain ⟨g, off, e1, hg, hgl, h⟩ := h hl
  obtain ⟨k1, k2⟩ := hk g hg hgl
  refine ⟨g, off, e1, k1, ?_, fun j hj => ?_⟩
  · rcases Nat.lt_or_ge g w'.heap.size with h3 | h3
    · exact h3
    · rw [Array.getElem?_eq_none h3, Array.getElem?_eq_getElem hgl] at k2; cases k2
  · obtain ⟨cs, h1, h2, h3⟩ := h j hj
    exact ⟨cs, h1, fun i hi => by rw [cell_of_heap k2]; exact h2 i hi, hE _ _ h3⟩
theorem RowE.nil {α : Type} (K : Nat → Prop) (w : World) (size : Nat) (E : α → List Value → Prop) : RowE K w size E (.slice none 0 0) [] := ⟨none, 0, rfl, Nat.le_refl _, by decide, fun h => absurd h (by simp)⟩
section
variable {α : Type}
/-- What an element's cells mean may hang on blocks of its own: K says which. -/
structure Elem (E : (Nat → Prop) → World → α → List Value → Prop) : Prop where
  mono : ∀ K K' w w' x cs, E K w x cs → (∀ k, K k → k < w.heap.size → K' k ∧ w'.heap[k]? = w.heap[k]?) → E K' w' x cs
/-- v is a row of one's own in blocks from b on, and reads as l. -/
def Grow (b e size : Nat) (E : (Nat → Prop) → World → α → List Value → Prop) (w : World) (v : Value) (l : List α) : Prop :=
  ∃ (K : Nat → Prop) (xs : List Value), w.ownsRow b e size v l.length xs ∧ (∀ j (h : j < l.length), ∃ cs : List Value, cs.length = size ∧ (∀ i, i < size → xs[j * size + i]? = cs[i]?) ∧ E K w l[j] cs) ∧ (∀ k, K k → b ≤ k ∧ k < w.heap.size ∧ v.ownBlock ≠ some k)
theorem Grow.len {b e size : Nat} {E : (Nat → Prop) → World → α → List Value → Prop} {w : World} {v : Value} {l : List α} (h : Grow b e size E w v l) : ∃ A c, v = .slice A l.length c := by
  obtain ⟨K, xs, ho, _⟩ := h
  rcases ho.2 with ⟨e1, h0⟩ | ⟨g, cap, cur, e1, _⟩
  · exact ⟨_, _, by rw [h0]; exact e1⟩
  · exact ⟨_, _, e1⟩
/-- The reader's block, and what is new, are none of the row's. -/
theorem Grow.keep {b e size : Nat} {E : (Nat → Prop) → World → α → List Value → Prop} (hE : Elem E) {w w' : World} {v : Value} {l : List α} (h : Grow b e size E w v l) {F : Nat → Prop} (hf : Fr F w w') (hF : ∀ k, F k → k < b) : Grow b e size E w' v l := by
  obtain ⟨K, xs, ho, hel, hK⟩ := h
  refine ⟨K, xs, own_of ho fun k hk => ?_, fun j hj => ?_, fun k hk => ?_⟩
  · have := ho.lt k hk
    exact hf.block k this.2 fun hF' => by have := hF k hF'; omega
  · obtain ⟨cs, h1, h2, h3⟩ := hel j hj
    exact ⟨cs, h1, h2, hE.mono _ _ _ _ _ _ h3 fun k hk hlt => ⟨hk, hf.block k hlt fun hF' => by have := hF k hF'; have := (hK k hk).1; omega⟩⟩
  · obtain ⟨h1, h2, h3⟩ := hK k hk
    exact ⟨h1, Nat.lt_of_lt_of_le h2 hf.size, h3⟩
theorem Grow.lt {b e size : Nat} {E : (Nat → Prop) → World → α → List Value → Prop} {w : World} {v : Value} {l : List α} (h : Grow b e size E w v l) : ∀ k, v.ownBlock = some k → b ≤ k ∧ k < w.heap.size := by
  obtain ⟨K, xs, ho, _⟩ := h
  intro k hk
  exact ho.lt k hk
/-- One element in a block of its own. -/
theorem Grow.single {b e size : Nat} {E : (Nat → Prop) → World → α → List Value → Prop} (hE : Elem E) {w0 w : World} (hb : b ≤ w0.heap.size) (hw : w0.heap.size ≤ w.heap.size) (x : α) (cs : List Value) (hcs : cs.length = size) (hx : E (fun k => w0.heap.size ≤ k) w x cs) (hs : 0 < size) :
    Grow b e size E (w.alloc (.cells cs.toArray e)) (.slice (some ⟨w.heap.size, 0, none⟩) 1 1) [x] := by
  have hfa : Fr No w (w.alloc (.cells cs.toArray e)) := (Fr.refl No w).alloc _
  refine ⟨fun k => w0.heap.size ≤ k ∧ k < w.heap.size, cs, ⟨by simp [hcs], .inr ⟨w.heap.size, 1, cs.toArray, rfl, by omega, heap_alloc_new w _, Nat.le_refl _, by decide, by simp [hcs], by simp [← hcs]⟩⟩, fun j hj => ?_, fun k hk => ?_⟩
  · obtain rfl : j = 0 := by simpa using hj
    refine ⟨cs, hcs, fun i hi => by simp, ?_⟩
    exact hE.mono _ _ _ _ _ _ hx fun k hk hlt => ⟨⟨hk, hlt⟩, hfa.block k hlt id⟩
  · refine ⟨by omega, by simp; omega, fun e1 => ?_⟩
    simp [Value.ownBlock] at e1; omega
/-- One more, laid ahead in a block of its own. -/
theorem Grow.more {b e size bytes : Nat} {E : (Nat → Prop) → World → α → List Value → Prop} (hE : Elem E) {w0 w : World} {v : Value} {l : List α} (h : Grow b e size E w v l) (hb : b ≤ w0.heap.size) (hw0 : w0.heap.size ≤ w.heap.size) (hv0 : ∀ k, v.ownBlock = some k → k < w0.heap.size)
    (t : TypeId) (ht : Tryz.prog.underlying t = some (.slice e)) (z : Value) (hinfo : (Tryz.prog.info? e).map (fun i => (i.zero, i.size, i.bytes)) = some (some z, size, bytes)) (hzs : z.cells.size = size) (hsz : 0 < size)
    (x : α) (cs : List Value) (hcs : cs.length = size) (hone : ∀ u ∈ cs, u.oneCell' = true) (hx : E (fun k => w0.heap.size ≤ k) w x cs) (hlen : (l.length + 1) * bytes ≤ 140737488355328) (hmax : l.length + 1 ≤ maxLen) :
    ∃ A c w', (∀ ty, (Builtin.append_ #[t, t] ty #[v, .slice (some ⟨w.heap.size, 0, none⟩) 1 1]).run Tryz.prog (w.alloc (.cells cs.toArray e)) = .ok (.slice A (l.length + 1) c) w') ∧ Grow b e size E w' (.slice A (l.length + 1) c) (l ++ [x]) ∧
      Fr (fun k => v.ownBlock = some k) w w' ∧ (∀ k, (Value.slice A (l.length + 1) c).ownBlock = some k → k < w'.heap.size ∧ (v.ownBlock = some k ∨ w.heap.size ≤ k)) := by
  obtain ⟨K, xs, ho, hel, hK⟩ := h
  obtain ⟨i0, hi, hz0, hz1, hz2⟩ := info_parts hinfo
  have hfa : Fr No w (w.alloc (.cells cs.toArray e)) := (Fr.refl No w).alloc _
  have ho' : (w.alloc (.cells cs.toArray e)).ownsRow b e size v l.length xs := own_of ho fun k hk => hfa.block k (ho.lt k hk).2 id
  have hnews : ∀ j u, cs[j]? = some u → (w.alloc (.cells cs.toArray e)).cell? ((⟨w.heap.size, 0, none⟩ : Addr).add j) = some u := by
    intro j u hu
    rw [Addr.add_lit, Nat.zero_add]
    exact ((Blk.new w e cs.toArray).cell j).trans (by simpa using hu)
  obtain ⟨v', w', hr, how, hgr, hnil, hat⟩ := run_append_own_at (P := Tryz.prog) (w.alloc (.cells cs.toArray e)) b t 0 e i0 z size bytes ht hi hz0 hz1 hz2 hzs hsz v l.length xs ho' ⟨w.heap.size, 0, none⟩ 1 1 cs (by omega) hnews hone hmax hlen (by simp; omega)
  have hv' : ∃ A c, v' = .slice A (l.length + 1) c := by
    rcases how.2 with ⟨e1, h0⟩ | ⟨g, cap, cur, e1, _⟩
    · omega
    · exact ⟨_, _, e1⟩
  obtain ⟨A, c, rfl⟩ := hv'
  have hsize : w.heap.size < (w.alloc (.cells cs.toArray e)).heap.size := by simp
  have hfr : Fr (fun k => v.ownBlock = some k) w w' := hfa.any.grown hgr fun k hk _ => hk
  have hw' : w.heap.size < w'.heap.size := Nat.lt_of_lt_of_le hsize hgr.size
  refine ⟨A, c, w', fun ty => hr, ⟨fun k => K k ∨ (w0.heap.size ≤ k ∧ k < w.heap.size), xs ++ cs, by simpa using how, fun j hj => ?_, fun k hk => ?_⟩, hfr, fun k hk => ?_⟩
  · rw [List.length_append, List.length_singleton] at hj
    by_cases hjl : j < l.length
    · obtain ⟨cs', h1, h2, h3⟩ := hel j hjl
      refine ⟨cs', h1, fun i hi' => ?_, ?_⟩
      · have hlt : j * size + i < xs.length := by
          rw [ho.1]
          have := Nat.mul_le_mul_right size (show j + 1 ≤ l.length by omega)
          rw [Nat.add_mul, Nat.one_mul] at this
          omega
        rw [List.getElem?_append_left hlt]; exact h2 i hi'
      · rw [List.getElem_append_left hjl]
        exact hE.mono _ _ _ _ _ _ h3 fun k hk hlt => ⟨.inl hk, hfr.block k hlt (hK k hk).2.2⟩
    · obtain rfl : j = l.length := by omega
      refine ⟨cs, hcs, fun i hi' => ?_, ?_⟩
      · rw [List.getElem?_append_right (by rw [ho.1]; omega), ho.1, Nat.add_sub_cancel_left]
      · rw [List.getElem_append_right (by omega)]
        simp only [Nat.sub_self, List.getElem_cons_zero]
        exact hE.mono _ _ _ _ _ _ hx fun k hk hlt => ⟨.inr ⟨hk, hlt⟩, hfr.block k hlt fun e => by have := hv0 k e; omega⟩
  · have hatk : ∀ j, (Value.slice A (l.length + 1) c).ownBlock = some j → v.ownBlock = some j ∨ j = (w.alloc (.cells cs.toArray e)).heap.size := fun j hj => by
      rcases hat with e1 | e1
      · exact .inl (e1 ▸ hj)
      · rw [hj] at e1; exact .inr (Option.some.inj e1)
    rcases hk with hk | hk
    · obtain ⟨h1, h2, h3⟩ := hK k hk
      refine ⟨h1, by omega, fun e1 => ?_⟩
      rcases hatk k e1 with e2 | e2
      · exact h3 e2
      · omega
    · refine ⟨by omega, by omega, fun e1 => ?_⟩
      rcases hatk k e1 with e2 | e2
      · have := hv0 k e2; omega
      · omega
  · refine ⟨(how.lt k hk).2, ?_⟩
    rcases hat with e1 | e1
    · exact .inl (e1 ▸ hk)
    · rw [hk] at e1
      have := Option.some.inj e1
      exact .inr (by omega)
/-- What was built, read as any row. -/
theorem Grow.row {b e size : Nat} {E : (Nat → Prop) → World → α → List Value → Prop} (hE : Elem E) {w : World} {v : Value} {l : List α} (h : Grow b e size E w v l) : RowE (fun k => b ≤ k) w size (E (fun k => b ≤ k) w) v l := by
  obtain ⟨K, xs, ho, hel, hK⟩ := h
  rcases ho.2 with ⟨e1, h0'⟩ | ⟨g, cap, cur, e1, hg, hh, hn, hcm, hcs, htk⟩
  · exact ⟨none, 0, by rw [h0']; exact e1, by omega, by decide, fun h0 => by omega⟩
  · refine ⟨_, cap, e1, hn, hcm, fun h0 => ⟨g, 0, rfl, hg, (ho.lt g (by rw [e1]; rfl)).2, fun j hj => ?_⟩⟩
    obtain ⟨cs, h1, h2, h3⟩ := hel j hj
    refine ⟨cs, h1, fun i hi => ?_, hE.mono _ _ _ _ _ _ h3 fun k hk hlt => ⟨(hK k hk).1, rfl⟩⟩
    rw [cell_of_row w g _ cur e (0, 0) hh, ← h2 i hi, ← htk, List.getElem?_take, Nat.zero_add]
    have hlt : j * size + i < l.length * size := by
      have := Nat.mul_le_mul_right size (show j + 1 ≤ l.length by omega)
      rw [Nat.add_mul, Nat.one_mul] at this
      omega
    rw [if_pos hlt]
    simp
end


/-! ### elements -/
abbrev EG (α : Type) := (Nat → Prop) → World → α → List Value → Prop
def intG (_ : Nat → Prop) (_ : World) (n : Int) (cs : List Value) : Prop := cs = [.int .i64 n] ∧ i64 n
theorem intG_elem : Elem intG := ⟨fun _ _ _ _ _ _ h _ => h⟩
abbrev smV (s : Sm) : Value := .agg #[.int .i64 s.hi, .int .u64 s.lo]
abbrev ptL (p : Pt) : List Value := [.bool p.any, .int .i64 p.s.hi, .int .u64 p.s.lo, .int .i64 p.mn, .int .i64 p.mx]
abbrev ptV (p : Pt) : Value := .agg #[.bool p.any, .int .i64 p.s.hi, .int .u64 p.s.lo, .int .i64 p.mn, .int .i64 p.mx]
def ptG (_ : Nat → Prop) (_ : World) (p : Pt) (cs : List Value) : Prop := cs = ptL p ∧ p.ok
theorem ptG_elem : Elem ptG := ⟨fun _ _ _ _ _ _ h _ => h⟩
theorem RowE.at_ {α : Type} {K : Nat → Prop} {w w' : World} {size : Nat} {E : EG α} (hE : Elem E) {v : Value} {l : List α} (h : RowE K w size (E K w) v l) (f : Fr No w w') : RowE K w' size (E K w') v l :=
  h.mono (fun k hk hkl => ⟨hk, f.block k hkl id⟩) fun _ _ hx => hE.mono _ _ _ _ _ _ hx fun k hk hkl => ⟨hk, f.block k hkl id⟩
theorem row_form {α : Type} {K : Nat → Prop} {w : World} {size : Nat} {E : α → List Value → Prop} {v : Value} {l : List α} (h : RowE K w size E v l) : ∃ A n c, v = .slice A n c ∧ n = l.length := by
  obtain ⟨A, c, e, _⟩ := h
  exact ⟨A, _, c, e, rfl⟩
def TellsB (b : Bool) (w : World) (e : Ending) (w' : World) : Prop := e = .returned (.bool b) ∧ Fr No w w'
def TellsI (n : Int) (w : World) (e : Ending) (w' : World) : Prop := e = .returned (.int .i64 n) ∧ Fr No w w'
def TellsV (v : Value) (w : World) (e : Ending) (w' : World) : Prop := e = .returned v ∧ Fr No w w'
abbrev TellsS (s : Sm) : World → Ending → World → Prop := TellsV (smV s)
abbrev TellsP (p : Pt) : World → Ending → World → Prop := TellsV (ptV p)

end Go.Proofs.YtlpglijikmnopaaGreatDoor
namespace Go.Proofs.YtlpglijikmnopaaGreatDoor
open Go.RowKit Go.Maps
set_option linter.unusedVariables false

theorem add64_0 (x y : Int) (hx : 0 ≤ x) (hy : 0 ≤ y) (w : World) : (callFunc 133 #[.int .u64 x, .int .u64 y, .int .u64 0]).run Tryz.prog w =
    .ok (.value (.tuple #[.int .u64 ((x + y) % 18446744073709551616), .int .u64 ((x + y) / 18446744073709551616)])) w := by
  rw [run_callFunc_extern Tryz.func133 (by kernel_rfl) (by kernel_rfl) (by kernel_rfl) (e := add64Entry) (by kernel_rfl), run_add64 x y 0 hx hy (by omega) (by omega)]
  simp only [Result.andThen, Int.add_zero]
theorem not_u64 (n : Int) (h0 : 0 ≤ n) (h1 : n < 18446744073709551616) : bits .xor .u64 18446744073709551615 n = 18446744073709551615 - n := by
  obtain ⟨N, rfl⟩ := Int.eq_ofNat_of_zero_le h0
  show IntKind.u64.wrap ((BitVec.ofInt 64 18446744073709551615 ^^^ BitVec.ofInt 64 (N : Int)).toNat : Int) = _
  have e1 : BitVec.ofInt 64 18446744073709551615 = BitVec.allOnes 64 := by decide
  rw [e1, BitVec.allOnes_xor, BitVec.toNat_not, ofInt_u64 N (by omega)]
  simp [IntKind.wrap, IntKind.bits, IntKind.signed]
  omega
theorem not_i64 (n : Int) (h0 : -9223372036854775808 ≤ n) (h1 : n < 9223372036854775808) : bits .xor .i64 (-1) n = -1 - n := by
  show IntKind.i64.wrap ((BitVec.ofInt 64 (-1) ^^^ BitVec.ofInt 64 n).toNat : Int) = _
  have e1 : BitVec.ofInt 64 (-1) = BitVec.allOnes 64 := by decide
  have e2 : (BitVec.ofInt 64 n).toNat = (n % 18446744073709551616).toNat := by rw [BitVec.toNat_ofInt]; rfl
  rw [e1, BitVec.allOnes_xor, BitVec.toNat_not, e2]
  simp [IntKind.wrap, IntKind.bits, IntKind.signed]
  omega
set_option maxRecDepth 100000 in
/-- Plus. -/
theorem plus_any (a b : Sm) (ha : a.ok) (hb : b.ok) (w : World) : Calls Tryz.prog 114 #[smV a, smV b] w (TellsS (plusS a b) w) := by
  obtain ⟨ah, al⟩ := a
  obtain ⟨bh, bl⟩ := b
  unfold Sm.ok at ha hb
  simp only at ha hb
  obtain ⟨s, hs⟩ : ∃ s, (al + bl) % 18446744073709551616 = s := ⟨_, rfl⟩
  obtain ⟨c, hc⟩ : ∃ c, (al + bl) / 18446744073709551616 = c := ⟨_, rfl⟩
  have hadd := add64_0 al bl ha.2.2.1 hb.2.2.1
  rw [hs, hc] at hadd
  obtain ⟨h1, hh1⟩ : ∃ x, IntKind.i64.wrap (ah + bh) = x := ⟨_, rfl⟩
  have hc1 : IntKind.i64.wrap c = c := by rw [IntKind.wrap_i64]; omega
  obtain ⟨h2, hh2⟩ : ∃ x, IntKind.i64.wrap (h1 + c) = x := ⟨_, rfl⟩
  have HE : Hid (plusS ⟨ah, al⟩ ⟨bh, bl⟩ = ⟨h2, s⟩) := Lib.hid (by
    unfold plusS w64
    rw [IntKind.wrap_i64] at hh1 hh2
    ext <;> simp only <;> omega)
  rw [HE.out]
  clear HE ha hb hs hc
  go_enter Tryz.func114, Tryz.ntmps114
  go_wp2_with (simp only [hadd])
  refine bodyPost_ret (v := smV ⟨h2, s⟩) (by simp [results, Tryz.results114, go_sem]) rfl ⟨rfl, (((Fr.refl _ _).alloc _).alloc _).alloc _⟩

theorem Blk.no {w w1 : World} {g : Nat} {t : TypeId} {cs : Array Value} (h : Blk w g t cs) (f : Fr No w w1) : Blk w1 g t cs := h.of (f.block g h.lt id)
/-- A block that was made last, behind a call. -/
theorem new_blk {w0 w1 : World} {t : TypeId} {cs : Array Value} (f : Fr No (w0.alloc (.cells cs t)) w1) {y : Nat} (hy : w0.heap.size = y) : Blk w1 y t cs := by
  subst hy
  exact (Blk.new w0 t cs).no f
theorem blk2 {w : World} {g : Nat} {t : TypeId} {a b : Value} (h : Blk w g t #[a, b]) : w.cell? ⟨g, 0, none⟩ = some a ∧ w.cell? ⟨g, 1, none⟩ = some b ∧ w.frozen? ⟨g, 0, none⟩ = false ∧ w.frozen? ⟨g, 1, none⟩ = false :=
  ⟨h.cell 0, h.cell 1, h.frozen 0, h.frozen 1⟩
theorem blk5 {w : World} {g : Nat} {t : TypeId} {a b c d e : Value} (h : Blk w g t #[a, b, c, d, e]) : (w.cell? ⟨g, 0, none⟩ = some a ∧ w.cell? ⟨g, 1, none⟩ = some b ∧ w.cell? ⟨g, 2, none⟩ = some c ∧ w.cell? ⟨g, 3, none⟩ = some d ∧ w.cell? ⟨g, 4, none⟩ = some e) ∧ w.frozen? ⟨g, 0, none⟩ = false ∧ w.frozen? ⟨g, 1, none⟩ = false ∧ w.frozen? ⟨g, 2, none⟩ = false ∧ w.frozen? ⟨g, 3, none⟩ = false ∧ w.frozen? ⟨g, 4, none⟩ = false :=
  ⟨⟨h.cell 0, h.cell 1, h.cell 2, h.cell 3, h.cell 4⟩, h.frozen 0, h.frozen 1, h.frozen 2, h.frozen 3, h.frozen 4⟩
/-- Stores into what is new. -/
theorem Fr.set_new {w0 w : World} (f : Fr No w0 w) {g o : Nat} (hg : w0.heap.size ≤ g) (u : Value) : Fr No w0 (w.setCell ⟨g, o, none⟩ u) := f.setCell (fun h => absurd h (by simp only; omega)) u
theorem tellsV_frame {f : FuncId} {args : Array Value} {v : Value} {w w1 : World} (h : Calls Tryz.prog f args w1 (TellsV v w1)) (f1 : Fr No w w1) : Calls Tryz.prog f args w1 (TellsV v w) :=
  h.mono fun _ _ ⟨e, k⟩ => ⟨e, f1.trans k fun _ _ h => h⟩
set_option maxRecDepth 100000 in
/-- Add. -/
theorem add_any (a : Sm) (n : Int) (ha : a.ok) (hn : i64 n) (w : World) : Calls Tryz.prog 92 #[smV a, .int .i64 n] w (TellsS (addS a n) w) := by
  have HC := Lib.hid (fun w' => plus_any a (ofS n) ha (ofS_ok hn) w')
  obtain ⟨ah, al⟩ := a
  obtain ⟨p, hp⟩ : ∃ p, n / 9223372036854775808 = p := ⟨_, rfl⟩
  obtain ⟨q, hq⟩ : ∃ q, n % 18446744073709551616 = q := ⟨_, rfl⟩
  have hw : IntKind.u64.wrap n = q := by rw [← hq]; simp [IntKind.wrap, IntKind.bits, IntKind.signed]
  obtain ⟨⟨h, l⟩, hs⟩ : ∃ s, addS ⟨ah, al⟩ n = s := ⟨_, rfl⟩
  have HCC : Hid (∀ w', Calls Tryz.prog 114 #[.agg #[.int .i64 ah, .int .u64 al], .agg #[.int .i64 p, .int .u64 q]] w' (TellsV (.agg #[.int .i64 h, .int .u64 l]) w')) := Lib.hid fun w' => by
    have := HC.out w'
    unfold ofS at this
    rw [hp, hq] at this
    have e : plusS ⟨ah, al⟩ ⟨p, q⟩ = ⟨h, l⟩ := by rw [← hs]; unfold addS ofS; rw [hp, hq]
    rw [e] at this
    exact this
  rw [hs]
  clear ha hn hq hs HC
  go_enter Tryz.func92, Tryz.ntmps92
  go_wp2_with (go_at_call 114; refine (HCC.out _).mono ?_; rintro e w1 ⟨rfl, f1⟩; have HF1 := Lib.hid f1; have hb : Blk w1 (w.heap.size + 1) 86 #[.int .i64 0, .int .u64 0] := new_blk f1 (by simp); obtain ⟨c0, c1, z0, z1⟩ := blk2 hb; clear f1 hb)
  refine bodyPost_ret (v := smV ⟨h, l⟩) (by simp [results, Tryz.results92, go_sem, c0, c1]) rfl ⟨rfl, ?_⟩
  exact ((((Fr.refl No w).alloc _).alloc _).trans HF1.out fun _ _ h => h).set_new (by omega) _ |>.set_new (by omega) _
end Go.Proofs.YtlpglijikmnopaaGreatDoor
namespace Go.Proofs.YtlpglijikmnopaaGreatDoor
open Go.Sort
section
variable {P : Program} {ops : Array Oper} {md : Region.Mode} {C : World → Prop}
/-- Whatever order is picked, as long as something ahead of n is left; then L. -/
def HeadQ (P : Program) (md : Region.Mode) (ops : Array Oper) (C : World → Prop) (n : Nat) (L : Array Bool → Act → Prop) : Nat → Array Bool → Act → Prop
  | 0, s, a => L s a
  | f + 1, s, a => Region.ready md ops s ≠ [] ∧ ∀ i ∈ Region.ready md ops s, i < n ∧ qOp P ops C i (HeadQ P md ops C n L f (s.setIfInBounds i true)) a
theorem HeadQ.any {n g : Nat} {L : Array Bool → Act → Prop} {Q : Exit → Act → World → Prop} (hL : ∀ s a w, C w → L s a → wpAny P md ops Q g s a w) (f : Nat) : ∀ (s : Array Bool) (a : Act) (w : World), C w → HeadQ P md ops C n L f s a → wpAny P md ops Q (f + g) s a w := by
  induction f with
  | zero => intro s a w hw h; rw [Nat.zero_add]; exact hL _ _ _ hw h
  | succ f ih =>
    intro s a w hw h
    rw [Nat.succ_add]
    refine ⟨fun e => (h.1 e).elim, fun i hi => ?_⟩
    exact wpOp_of_qOp hw (fun a' w' hw' h' => ih _ a' w' hw' h') (h.2 i hi).2
theorem HeadQ.first {n i : Nat} {o : Oper} {v : Value} {L : Array Bool → Act → Prop} (hi : ops[i]? = some o) (hsel : ∀ (j : Nat) (o : Oper) cs b, ops[j]? = some o → o.op ≠ .select cs b)
    (hs : Region.sinkB md ops n = true) (hc : Region.chainB md ops n = true) (hn : n < ops.size) (hin : i < n) (hL : ∀ s a, L s a → ∀ j ∈ Region.ready md ops s, n ≤ j) (f : Nat) :
    ∀ (s : Array Bool) (a : Act), HeadInv md ops n s →
      (∀ j p, ops[j]? = some p → j ≠ i → s.getD j true = false → (∀ e ∈ p.after, Region.binds md e = true → e.on ≠ i) → o.apart ops p = true) →
      i ∈ Region.ready md ops s → YieldsIn P ops C o v a → HeadQ P md ops C n L f (s.setIfInBounds i true) (a.put o.dst v) → HeadQ P md ops C n L (f + 1) s a := by
  induction f with
  | zero =>
    intro s a inv _ hr hy H
    have un := (mem_ready.1 hr).1
    refine ⟨List.ne_nil_of_mem hr, fun j hj => ?_⟩
    have lt : j < n := Nat.lt_of_not_le fun h => tail_waits hs hc hn inv _ i rfl hin un j h hj
    refine ⟨lt, ?_⟩
    by_cases e : j = i
    · rw [e]; exact hy.qOp hi H
    · exact absurd (hL _ _ H j (ready_mono hj e)) (by omega)
  | succ f ih =>
    intro s a inv free hr hy H
    have un := (mem_ready.1 hr).1
    refine ⟨List.ne_nil_of_mem hr, fun j hj => ?_⟩
    have lt : j < n := Nat.lt_of_not_le fun h => tail_waits hs hc hn inv _ i rfl hin un j h hj
    refine ⟨lt, ?_⟩
    by_cases e : j = i
    · rw [e]; exact hy.qOp hi H
    obtain ⟨unj, p, hp, after⟩ := mem_ready.1 hj
    have none : ∀ d ∈ p.after, Region.binds md d = true → d.on ≠ i := fun d hd hb he => by
      have := after d hd hb
      rw [he, getD_both un] at this
      exact Bool.noConfusion this
    have step := qOp_put hp (free j p hp e unj none) (fun cs b => hsel i o cs b hi) (fun cs b => hsel j p cs b hp) hy ((H.2 j (ready_mono hj e)).2)
    refine qOp_mono (fun a' k => ih (s.setIfInBounds j true) a' (inv.set hj lt) (fun k q hq hk hu => free k q hq hk ?_) (ready_mono hr (Ne.symm e)) k.1 ?_) step
    · by_cases ejk : j = k
      · rw [← ejk]; exact unj
      · rw [getD_set_ne true ejk] at hu; exact hu
    · rw [Array.setIfInBounds_comm _ _ e]; exact k.2
theorem HeadQ.lex {n g : Nat} {L : Act → Prop} (hsel : Region.noSelect ops = true) (hs : Region.sinkB md ops n = true) (hc : Region.chainB md ops n = true) (hn : n < ops.size) (l : List Oper) :
    ∀ (k : Nat) (s : Array Bool) (a : Act), (∀ j, j < l.length → l[j]? = ops[k + j]?) → k + l.length = n → HeadInv md ops n s → Region.lexHead md ops g l.length k s = true → wpQuiet P ops C L l a →
      HeadQ P md ops C n (fun s' a' => Region.seqB md ops g n s' = true ∧ L a') l.length s a := by
  induction l with
  | nil =>
    intro k s a _ hk _ hB h
    have e : k = n := by simpa using hk
    rw [e] at hB
    exact ⟨by simpa [Region.lexHead] using hB, h⟩
  | cons o l ih =>
    intro k s a hl hk inv hB h
    have h0 : ops[k]? = some o := by have := hl 0 (Nat.succ_pos _); simpa using this.symm
    simp only [List.length_cons, Region.lexHead, Bool.and_eq_true] at hB
    rw [List.length_cons] at hk
    have rdy : k ∈ Region.ready md ops s := by have := hB.1.1; simpa using this
    have q : qOp P ops C k (wpQuiet P ops C L l) a := by unfold qOp; simp only [h0]; exact h
    obtain ⟨v, hy, hK⟩ := yieldsIn_of_qOp h0 q
    refine HeadQ.first h0 (Region.noSelect_spec hsel) hs hc hn (by omega) (fun s' a' h' => seqB_ready h'.1) l.length s a inv (Region.free_spec h0 hB.1.2) rdy hy ?_
    refine ih (k + 1) _ _ (fun j hj => ?_) (by omega) (inv.set rdy (by omega)) hB.2 hK
    have := hl (j + 1) (Nat.succ_lt_succ hj)
    rw [show k + 1 + j = k + (j + 1) by omega, ← this, List.getElem?_cons_succ]
theorem wp_quiet_tail {id : Nat} {Q : Exit → Act → World → Prop} {a : Act} {w : World} {l : List Oper} (n : Nat) (hm : P.follows .mixedOrders = true) (hB : Region.lexTailB .any l.toArray n = true) (hC : C { w with drawn := w.drawn + 1 })
    (h : wpQuiet P l.toArray C (fun a' => ∀ w', C w' → wpList P l.toArray Q (l.drop n) a' w') (l.take n) a) : (Code.region id l.toArray true).wp P Q a w := by
  simp only [Region.lexTailB, Bool.and_eq_true, decide_eq_true_eq] at hB
  obtain ⟨⟨⟨⟨hsel, hn⟩, hs⟩, hc⟩, hx⟩ := hB
  have hn2 : n < l.length := by simpa using hn
  have len1 : (l.take n).length = n := by rw [List.length_take]; omega
  have len2 : (l.drop n).length = l.toArray.size - n := by simp
  have inv : HeadInv .any l.toArray n (Array.replicate l.toArray.size false) := by
    refine ⟨by simp, fun j o _ hl => ?_, fun t _ ht => getD_in (by simpa using ht) (getD_replicate_false _ _)⟩
    rw [getD_replicate_false] at hl
    exact Bool.noConfusion hl
  have H := HeadQ.lex (C := C) (md := .any) (g := l.toArray.size - n) hsel hs hc hn (l.take n) 0 _ a (fun j hj => by rw [len1] at hj; simp [hj]) (by omega) inv (by rw [len1]; exact hx) h
  have R := HeadQ.any (Q := Q) (g := l.toArray.size - n) (fun s a' w' hw' k => by
    have := wpAny_of_seq (md := .any) (Q' := Q) (l.drop n) n s a' w' (fun j => by simp [List.getElem?_drop]) (by rw [len2]; exact k.1) (k.2 w' hw')
    rw [len2] at this
    exact this) _ _ _ _ hC H
  refine wp_region_any hm ?_
  rw [len1, show n + (l.toArray.size - n) = l.toArray.size by omega] at R
  exact R
/-- In the class of what is w but for draws and new memory. -/
theorem wp_below_tail {id : Nat} {Q : Exit → Act → World → Prop} {a : Act} {w : World} {l : List Oper} (n : Nat) (hm : P.follows .mixedOrders = true) (hB : Region.lexTailB .any l.toArray n = true)
    (h : wpQuiet P l.toArray (fun w' => ∃ p : Regrown, w' = grow (redrawn w p.d) p.os) (fun a' => ∀ w', (∃ p : Regrown, w' = grow (redrawn w p.d) p.os) → wpList P l.toArray Q (l.drop n) a' w') (l.take n) a) : (Code.region id l.toArray true).wp P Q a w :=
  wp_quiet_tail (C := fun w' => ∃ p : Regrown, w' = grow (redrawn w p.d) p.os) n hm hB ⟨⟨w.drawn + 1, #[]⟩, by rw [grow_empty]; rfl⟩ h
end
end Go.Proofs.YtlpglijikmnopaaGreatDoor
