/- Walks over the disk's smallest functions: names and picks. -/
import Derived.Test.YtoaiofjcjjkfaaaGreatDoorRows
import Derived.WalkKit
import Derived.WalkSpells
import Derived.WalkLawsBesides
import Derived.Deep.QuietTactic
import Derived.BigQuiet
import Derived.Lib.Hide
import Derived.Maps.OwnSet
import Derived.Maps.Ext
import Derived.Maps.RangeWalk
import Derived.Deep.AppendLies
import Derived.Deep.Draws
import Derived.Shelf.SlGeneric
import Derived.Shelf.SlMaps.Clone
import Derived.Shelf.SlMaps.Copy
import Derived.Shelf.SlIter.Nil
import Derived.Shelf.SortM.Plain
import Derived.Shelf.SortM.SortNone
import Derived.Ground.GgzProg
import Derived.Ground.SlgmProg
import Derived.Ground.SlmcProg
import Derived.Ground.SlmpProg
import Derived.Test.YtoaiofjcjjkfaaaGreatDoorProg
import Derived.Deep.DeepFit
import Derived.StillTailTactics
import Derived.Lib.AppendStr
import Derived.Deep.RegionLaw
import Derived.Lib.QuietBelow
namespace Go.Proofs.YtoaiofjcjjkfaaaGreatDoor
open Go.RowKit
set_option linter.unusedVariables false

def nameByte (n : Int) : Bool := decide ((97 ≤ n ∧ n ≤ 122) ∨ (48 ≤ n ∧ n ≤ 57) ∨ n = 46 ∨ n = 45 ∨ n = 95)
theorem ret_bool {a b : Bool} (h : a = b) : Ending.returned (.bool a) = Ending.returned (.bool b) := by rw [h]
theorem ret_int {k : IntKind} {a b : Int} (h : a = b) : Ending.returned (.int k a) = Ending.returned (.int k b) := by rw [h]

set_option maxHeartbeats 400000 in
theorem inName_any (n : Int) (w : World) (h0 : 0 ≤ n) (h1 : n < 256) :
    Calls Tryz.prog 211 #[.int .u8 n] w fun e w' => e = .returned (.bool (nameByte n)) ∧ w = w' := by
  go_enter Tryz.func211, Tryz.ntmps211
  go_wp2
  all_goals go_ret
  all_goals refine ⟨ret_bool ?_, rfl⟩
  all_goals (unfold nameByte; rw [Bool.eq_iff_iff]; simp; try omega)

/-- May these bytes be a file's name? -/
def nameOk (s : List UInt8) : Bool := decide (1 ≤ s.length) && decide (s.length ≤ 32) && s.all fun c => nameByte c.toNat

theorem nameOk_no {s : List UInt8} {k : Nat} (hk : k < s.length) (h : nameByte (s[k].toNat : Int) = false) : nameOk s = false := by
  unfold nameOk
  have : s.all (fun c => nameByte c.toNat) = false := by
    rw [List.all_eq_false]
    exact ⟨s[k], List.getElem_mem hk, by simp [h]⟩
  simp [this]

theorem nameOk_yes {s : List UInt8} (h1 : 1 ≤ s.length) (h2 : s.length ≤ 32) (h : ∀ k (hk : k < s.length), nameByte (s[k].toNat : Int) = true) : nameOk s = true := by
  unfold nameOk
  simp only [h1, h2, decide_true, Bool.true_and, List.all_eq_true]
  intro c hc
  obtain ⟨k, hk, rfl⟩ := List.getElem_of_mem hc
  exact h k hk

theorem u8_lt (c : UInt8) : (0 : Int) ≤ (c.toNat : Int) ∧ (c.toNat : Int) < 256 := by have := c.toNat_lt; omega

def NamesTo (s : ByteArray) (k : Nat) : Prop := ∀ j (hj : j < s.data.toList.length), j < k → nameByte (s.data.toList[j].toNat : Int) = true

set_option maxHeartbeats 400000 in
theorem isName_any (s : ByteArray) (w : World) (hs : s.size ≤ maxLen) :
    Calls Tryz.prog 185 #[.string s] w fun e w' => e = .returned (.bool (nameOk s.data.toList)) ∧ w = w' := by
  unfold maxLen at hs
  have hl : s.data.toList.length = s.size := by simp
  have HL := Lib.hid hl
  clear hl
  by_cases h0 : 1 ≤ s.size
  · by_cases h32 : s.size ≤ 32
    · go_enter Tryz.func185, Tryz.ntmps185
      go_wp2
      go_loop [3, 14] (fun _ i => ∃ k : Nat, k ≤ s.size ∧ i = .int .i64 k ∧ NamesTo s k) (fun _ i => s.size - (intOf i).toNat)
      case atStart => exact ⟨0, Nat.zero_le _, rfl, fun j hj hk => by omega⟩
      case round =>
        obtain ⟨k, hk, rfl, H⟩ := hrel
        by_cases hlt : k < s.size
        · have hb := u8_lt s[k]
          go_wp2_with (go_at_call 211; refine (inName_any _ _ (by omega) (by omega)).mono ?_; rintro e w' ⟨rfl, rfl⟩)
          · have hn : (!nameByte (s[k].toNat : Int)) = true := by assumption
            go_ret
            refine ⟨ret_bool ?_, rfl⟩
            have hl := HL.out
            exact (nameOk_no (k := k) (by omega) (by rw [Bool.not_eq_true'] at hn; exact hn)).symm
          · have hn : (!nameByte (s[k].toNat : Int)) = false := by assumption
            refine ⟨⟨k + 1, by omega, by go_num, fun j hj hjk => ?_⟩, by simp [intOf]; omega⟩
            by_cases e : j = k
            · subst e; rw [Bool.not_eq_false'] at hn; exact hn
            · exact H j hj (by omega)
        · go_wp2
          go_ret
          refine ⟨ret_bool ?_, rfl⟩
          have hl := HL.out
          rw [nameOk_yes (by omega) (by omega) (fun j hj => H j hj (by omega))]
    · go_enter Tryz.func185, Tryz.ntmps185
      go_wp2
      go_ret
      refine ⟨ret_bool ?_, rfl⟩
      have hl := HL.out
      unfold nameOk
      simp only [hl]
      simp; omega
  · go_enter Tryz.func185, Tryz.ntmps185
    go_wp2
    go_ret
    refine ⟨ret_bool ?_, rfl⟩
    have hl := HL.out
    unfold nameOk
    simp only [hl]
    simp; omega


/-! ### pick -/
/-- A pick as the document uses it: below 0 it counts as its mirror. -/
def pickOf (p : Int) : Int := if p < 0 then -(p + 1) else p

set_option maxHeartbeats 400000 in
theorem pick_none (a : Option Addr) (c : Nat) (most : Int) (w : World) :
    Calls Tryz.prog 53 #[.slice a 0 c, .int .i64 most] w fun e w' => e = .returned (.tuple #[.int .i64 0, .slice none 0 0]) ∧ w = w' := by
  go_enter Tryz.func53, Tryz.ntmps53
  go_wp2
  go_ret2
  exact ⟨rfl, rfl⟩

set_option maxHeartbeats 400000 in
theorem pick_some (ad : Addr) (n c : Nat) (p : Int) (most : Int) (w : World) (hn : 0 < n) (hc : n ≤ c) (hcm : c ≤ 9223372036854775807) (hp : w.cell? ad = some (.int .i64 p)) (hp1 : -9223372036854775808 ≤ p) (hp2 : p ≤ 9223372036854775807) (hm0 : 0 ≤ most) (hm1 : most < 9223372036854775807) :
    Calls Tryz.prog 53 #[.slice (some ad) n c, .int .i64 most] w fun e w' => e = .returned (.tuple #[.int .i64 (pickOf p % (most + 1)), .slice (some (if c = 1 then ad else ad.add 1)) (n - 1) (c - 1)]) ∧ ∃ k, w' = w.drewN k := by
  have e1 : IntKind.i64.wrap (most + 1) = most + 1 := IntWalk.i64_in _ (by omega)
  have E1 := Lib.hid e1
  clear e1
  by_cases h : p < 0
  · have hv : -(p + 1).tmod (most + 1) = pickOf p % (most + 1) := by
      rw [← Int.neg_tmod, Int.tmod_eq_emod_of_nonneg (by omega)]
      unfold pickOf; rw [if_pos h]
    have HV := Lib.hid hv
    clear hv
    go_enter Tryz.func53, Tryz.ntmps53
    go_wp2
    have e1 := E1.out
    go_quiet (fail)
    all_goals go_wp2
    all_goals go_ret2
    all_goals (rw [HV.out]; first | exact ⟨rfl, _, rfl⟩ | (refine ⟨?_, _, rfl⟩; simp [*, Addr.add]))
  · have hv : pickOf p = p := by unfold pickOf; rw [if_neg h]
    have HV := Lib.hid hv
    clear hv
    have h' : 0 ≤ p := by omega
    go_enter Tryz.func53, Tryz.ntmps53
    go_wp2
    have e1 := E1.out
    go_quiet (fail)
    all_goals go_wp2
    all_goals go_ret2
    all_goals (rw [HV.out]; try rw [Int.tmod_eq_emod_of_nonneg h'])
    all_goals first | exact ⟨rfl, _, rfl⟩ | (refine ⟨?_, _, rfl⟩; simp [*, Addr.add])

/-! ### check -/
set_option maxHeartbeats 400000 in
theorem check_off (d : Nat) (v : Value) (n c : Nat) (A : Option Addr) (w : World) (hon : w.cell? ⟨d, 1, none⟩ = some (.bool false)) :
    Calls Tryz.prog 165 #[.pointer (some ⟨d, 0, none⟩), .slice A n c] w fun e w' => e = .returned (.int .i64 13) ∧ w = w' := by
  go_enter Tryz.func165, Tryz.ntmps165
  go_wp2
  go_ret
  exact ⟨rfl, rfl⟩

set_option maxHeartbeats 400000 in
theorem check_nil (A : Option Addr) (n c : Nat) (w : World) :
    Calls Tryz.prog 165 #[.pointer none, .slice A n c] w fun e w' => e = .returned (.int .i64 1) ∧ w = w' := by
  go_enter Tryz.func165, Tryz.ntmps165
  go_wp2
  go_ret
  exact ⟨rfl, rfl⟩

/-- What check says of names, where there is power. -/
def checkOf (on : Bool) (ss : List (List UInt8)) : Int := if on then (if ss.all nameOk then 0 else 10) else 13

def AllTo (ss : List ByteArray) (k : Nat) : Prop := ∀ j (hj : j < ss.length), j < k → nameOk (ss[j]).data.toList = true

theorem all_no {ss : List ByteArray} {k : Nat} (hk : k < ss.length) (h : nameOk (ss[k]).data.toList = false) : checkOf true (ss.map (·.data.toList)) = 10 := by
  unfold checkOf
  have : (ss.map (·.data.toList)).all nameOk = false := by
    rw [List.all_eq_false]
    exact ⟨_, List.mem_map.2 ⟨ss[k], List.getElem_mem hk, rfl⟩, by simp [h]⟩
  simp [this]
theorem all_yes {ss : List ByteArray} (h : AllTo ss ss.length) : checkOf true (ss.map (·.data.toList)) = 0 := by
  unfold checkOf
  have : (ss.map (·.data.toList)).all nameOk = true := by
    rw [List.all_eq_true]
    intro x hx
    obtain ⟨y, hy, rfl⟩ := List.mem_map.1 hx
    obtain ⟨j, hj, rfl⟩ := List.getElem_of_mem hy
    exact h j hj hj
  simp [this]

set_option maxHeartbeats 400000 in
theorem check_on (d : Nat) (ad : Addr) (ss : List ByteArray) (c : Nat) (w : World) (hon : w.cell? ⟨d, 1, none⟩ = some (.bool true)) (hn : ss.length ≤ 1000)
    (hs : ∀ i (hi : i < ss.length), ss[i].size ≤ maxLen) (hc : ∀ i (hi : i < ss.length), w.cell? (ad.add i) = some (.string ss[i])) :
    Calls Tryz.prog 165 #[.pointer (some ⟨d, 0, none⟩), .slice (some ad) ss.length c] w fun e w' => e = .returned (.int .i64 (checkOf true (ss.map (·.data.toList)))) ∧ w = w' := by
  have HS := Lib.hid hs
  have HC := Lib.hid hc
  clear hs hc
  go_enter Tryz.func165, Tryz.ntmps165
  go_wp2
  go_loop [6, 16] (fun _ i => ∃ k : Nat, k ≤ ss.length ∧ i = .int .i64 k ∧ AllTo ss k) (fun _ i => ss.length - (intOf i).toNat)
  case atStart => exact ⟨0, Nat.zero_le _, rfl, fun j hj hk => by omega⟩
  case round =>
    obtain ⟨k, hk, rfl, H⟩ := hrel
    by_cases hlt : k < ss.length
    · have hcell := HC.out k hlt
      have hsz := HS.out k hlt
      have HZ := Lib.hid hsz
      clear hsz
      go_wp2_with (go_at_call 185; refine (isName_any _ _ HZ.out).mono ?_; rintro e w' ⟨rfl, rfl⟩)
      · have hn : (!nameOk (ss[k]).data.toList) = true := by assumption
        go_ret
        refine ⟨ret_int ?_, rfl⟩
        exact (all_no hlt (by rw [Bool.not_eq_true'] at hn; exact hn)).symm
      · have hn : (!nameOk (ss[k]).data.toList) = false := by assumption
        refine ⟨⟨k + 1, by omega, by go_num, fun j hj hjk => ?_⟩, by simp [intOf]; omega⟩
        by_cases e : j = k
        · subst e; rw [Bool.not_eq_false'] at hn; exact hn
        · exact H j hj (by omega)
    · go_wp2
      go_ret
      refine ⟨ret_int ?_, rfl⟩
      have e : k = ss.length := by omega
      subst e
      exact (all_yes H).symm

theorem check_one (d : Nat) (ad : Addr) (s : ByteArray) (w : World) (on : Bool) (hon : w.cell? ⟨d, 1, none⟩ = some (.bool on)) (hs : s.size ≤ maxLen) (hc : w.cell? ad = some (.string s)) :
    Calls Tryz.prog 165 #[.pointer (some ⟨d, 0, none⟩), .slice (some ad) 1 1] w fun e w' => e = .returned (.int .i64 (checkOf on [s.data.toList])) ∧ w = w' := by
  cases on
  · exact check_off d (.bool true) 1 1 _ w hon
  · exact check_on d ad [s] 1 w hon (by simp) (by simpa using hs) (by simpa [Addr.add] using hc)
theorem check_two (d g : Nat) (s t : ByteArray) (w : World) (on : Bool) (hon : w.cell? ⟨d, 1, none⟩ = some (.bool on)) (hs : s.size ≤ maxLen) (ht : t.size ≤ maxLen) (hc : w.cell? ⟨g, 0, none⟩ = some (.string s)) (hc' : w.cell? ⟨g, 1, none⟩ = some (.string t)) :
    Calls Tryz.prog 165 #[.pointer (some ⟨d, 0, none⟩), .slice (some ⟨g, 0, none⟩) 2 2] w fun e w' => e = .returned (.int .i64 (checkOf on [s.data.toList, t.data.toList])) ∧ w = w' := by
  cases on
  · exact check_off d (.bool true) 2 2 _ w hon
  · refine check_on d ⟨g, 0, none⟩ [s, t] 2 w hon (by simp) ?_ ?_
    · intro i hi
      match i, hi with
      | 0, _ => exact hs
      | 1, _ => exact ht
    · intro i hi
      match i, hi with
      | 0, _ => exact hc
      | 1, _ => exact hc'
end Go.Proofs.YtoaiofjcjjkfaaaGreatDoor
/- What a disk's memory is: its blocks, the maps, the rows; kept while other blocks turn. -/
namespace Go.Proofs.YtoaiofjcjjkfaaaGreatDoor
open Go.RowKit Go.Maps
set_option linter.unusedVariables false

abbrev DU := DataW Unit

/-! ### frames -/
/-- Of the blocks that were there, those outside F are as they were. -/
structure Fr (F : Nat → Prop) (w w' : World) : Prop where
  os : w'.os = w.os
  tape : w'.tape = w.tape
  output : w'.output = w.output
  size : w.heap.size ≤ w'.heap.size
  block : ∀ k, k < w.heap.size → ¬ F k → w'.heap[k]? = w.heap[k]?

def No : Nat → Prop := fun _ => False

theorem Fr.refl (F : Nat → Prop) (w : World) : Fr F w w := ⟨rfl, rfl, rfl, Nat.le_refl _, fun _ _ _ => rfl⟩
theorem Fr.mono {F G : Nat → Prop} {w w' : World} (h : Fr F w w') (hFG : ∀ k, k < w.heap.size → F k → G k) : Fr G w w' :=
  ⟨h.os, h.tape, h.output, h.size, fun k hk hn => h.block k hk fun hf => hn (hFG k hk hf)⟩
theorem Fr.trans {F G : Nat → Prop} {a b c : World} (h : Fr F a b) (k : Fr G b c) (hGF : ∀ j, j < a.heap.size → G j → F j) : Fr F a c :=
  ⟨k.os.trans h.os, k.tape.trans h.tape, k.output.trans h.output, Nat.le_trans h.size k.size,
   fun j hj hn => (k.block j (Nat.lt_of_lt_of_le hj h.size) fun hg => hn (hGF j hj hg)).trans (h.block j hj hn)⟩
theorem Fr.drew {F : Nat → Prop} {a w : World} (h : Fr F a w) : Fr F a w.drew := ⟨h.os, h.tape, h.output, h.size, h.block⟩
theorem Fr.drewN {F : Nat → Prop} {a w : World} (h : Fr F a w) (n : Nat) : Fr F a (w.drewN n) := ⟨h.os, h.tape, h.output, h.size, h.block⟩
theorem Fr.alloc {F : Nat → Prop} {a w : World} (h : Fr F a w) (o : Obj) : Fr F a (w.alloc o) :=
  ⟨h.os, h.tape, h.output, by simp; have := h.size; omega, fun j hj hn => (Below.heap_alloc w o j (Nat.lt_of_lt_of_le hj h.size)).trans (h.block j hj hn)⟩
theorem Fr.setCell {F : Nat → Prop} {a w : World} (h : Fr F a w) {p : Addr} (hp : p.block < a.heap.size → F p.block) (u : Value) : Fr F a (w.setCell p u) :=
  ⟨h.os, h.tape, h.output, by simp [World.setCell]; exact h.size, fun j hj hn => (Below.heap_setCell w p u j (fun e => hn (by subst e; exact hp hj))).trans (h.block j hj hn)⟩
theorem Fr.grown {F : Nat → Prop} {a w w' : World} {row : Option Nat} (h : Fr F a w) (hg : w.grownBy w' row) (hr : ∀ k, row = some k → k < a.heap.size → F k) : Fr F a w' :=
  ⟨hg.os.trans h.os, hg.tape.trans h.tape, hg.output.trans h.output, Nat.le_trans h.size hg.size, fun j hj hn =>
    (hg.block j (Nat.lt_of_lt_of_le hj h.size) fun e => hn (hr j e.symm hj)).trans (h.block j hj hn)⟩
theorem Fr.of_below {w w' : World} (h : Below w.heap.size w w') : Fr No w w' := ⟨h.os, h.tape, h.output, h.size, fun k hk _ => h.block k hk⟩
theorem Fr.below {w w' : World} (h : Fr No w w') : Below w.heap.size w w' := ⟨h.os, h.tape, h.output, h.size, fun k hk => h.block k hk id⟩
theorem Fr.below_of {F : Nat → Prop} {B : Nat} {w w' : World} (h : Fr F w w') (hB : B ≤ w.heap.size) (hF : ∀ k, F k → B ≤ k) : Below B w w' :=
  ⟨h.os, h.tape, h.output, h.size, fun k hk => h.block k (Nat.lt_of_lt_of_le hk hB) fun hf => by have := hF k hf; omega⟩
theorem Fr.any {G : Nat → Prop} {w w' : World} (h : Fr No w w') : Fr G w w' := h.mono fun _ _ hf => hf.elim

/-! ### blocks -/
def Blk (w : World) (g : Nat) (t : TypeId) (cs : Array Value) : Prop := w.heap[g]? = some (.cells cs t (0, 0))
section
variable {w w' : World} {g : Nat} {t : TypeId} {cs : Array Value}
theorem Blk.lt (h : Blk w g t cs) : g < w.heap.size := by
  rcases Nat.lt_or_ge g w.heap.size with hlt | hge
  · exact hlt
  · unfold Blk at h; rw [Array.getElem?_eq_none hge] at h; cases h
theorem Blk.cell (h : Blk w g t cs) (i : Nat) : w.cell? ⟨g, i, none⟩ = cs[i]? := cell_of_row w g i cs t (0, 0) h
theorem Blk.frozen (h : Blk w g t cs) (i : Nat) : w.frozen? ⟨g, i, none⟩ = false := by
  unfold Blk at h
  simp [World.frozen?, h]
theorem Blk.new (w : World) (t : TypeId) (cs : Array Value) : Blk (w.alloc (.cells cs t)) w.heap.size t cs := heap_alloc_new w _
theorem Blk.set_ (h : Blk w g t cs) (i : Nat) (u : Value) : Blk (w.setCell ⟨g, i, none⟩ u) g t (cs.setIfInBounds i u) := by
  unfold Blk at h ⊢
  simp [World.setCell, Array.getElem?_modify, h]
theorem Blk.of (h : Blk w g t cs) (hk : w'.heap[g]? = w.heap[g]?) : Blk w' g t cs := hk.trans h
theorem Blk.ne_ {g' : Nat} {t' : TypeId} {cs' : Array Value} (h : Blk w g t cs) (h' : Blk w g' t' cs') (hne : t ≠ t') : g ≠ g' := by
  rintro rfl
  unfold Blk at h h'
  rw [h] at h'
  injection h' with h'
  injection h' with _ ht
  exact hne ht
end

/-! ### rows: what a row needs of the heap is its own block alone -/
theorem own_of {w w' : World} {base : Nat} {e : TypeId} {size n : Nat} {v : Value} {xs : List Value} (h : w.ownsRow base e size v n xs)
    (hk : ∀ k, v.ownBlock = some k → w'.heap[k]? = w.heap[k]?) : w'.ownsRow base e size v n xs := by
  refine ⟨h.1, ?_⟩
  rcases h.2 with h2 | ⟨g, cap, cur, rfl, hb, hh, r⟩
  · exact .inl h2
  · exact .inr ⟨g, cap, cur, rfl, hb, (hk g rfl).trans hh, r⟩
theorem own_base {w : World} {base base' : Nat} {e : TypeId} {size n : Nat} {v : Value} {xs : List Value} (h : w.ownsRow base e size v n xs) (hb : base' ≤ base) : w.ownsRow base' e size v n xs := by
  refine ⟨h.1, ?_⟩
  rcases h.2 with h2 | ⟨g, cap, cur, rfl, hg, r⟩
  · exact .inl h2
  · exact .inr ⟨g, cap, cur, rfl, by omega, r⟩
theorem own_row {w : World} {base : Nat} {e : TypeId} {size n g : Nat} {v : Value} {xs : List Value} (h : w.ownsRow base e size v n xs) (hg : v.ownBlock = some g) :
    ∃ cur, w.heap[g]? = some (.cells cur e (0, 0)) := by
  rcases h.2 with ⟨rfl, _⟩ | ⟨g', cap, cur, rfl, _, hh, _⟩
  · simp [Value.ownBlock] at hg
  · simp [Value.ownBlock] at hg; subst hg; exact ⟨cur, hh⟩
theorem own_blk_ne {w : World} {base : Nat} {e t : TypeId} {size n g k : Nat} {v : Value} {xs : List Value} {cs : Array Value} (h : w.ownsRow base e size v n xs) (hk : v.ownBlock = some k) (hg : Blk w g t cs) (hne : e ≠ t) : k ≠ g := by
  obtain ⟨cur, hc⟩ := own_row h hk
  exact Blk.ne_ (w := w) (t := e) hc hg hne
theorem own_own_ne {w : World} {base base' : Nat} {e e' : TypeId} {size size' n n' k k' : Nat} {v v' : Value} {xs xs' : List Value} (h : w.ownsRow base e size v n xs) (hk : v.ownBlock = some k) (h' : w.ownsRow base' e' size' v' n' xs') (hk' : v'.ownBlock = some k') (hne : e ≠ e') : k ≠ k' := by
  obtain ⟨cur, hc⟩ := own_row h hk
  obtain ⟨cur', hc'⟩ := own_row h' hk'
  exact Blk.ne_ (w := w) (t := e) hc hc' hne
/-- The first k of a row of one-cell elements. -/
theorem own_take {w : World} {base : Nat} {e : TypeId} {n cap : Nat} {a : Option Addr} {xs : List Value} (h : w.ownsRow base e 1 (.slice a n cap) n xs) (k : Nat) (hk : k ≤ n) : w.ownsRow base e 1 (.slice a k cap) k (xs.take k) := by
  have hl := h.1
  refine ⟨by simp [List.length_take]; omega, ?_⟩
  rcases h.2 with ⟨e1, rfl⟩ | ⟨g, cap', cur, e1, hb, hh, hnc, hcm, hs, ht⟩
  · injection e1 with e1 _ e2
    subst e1; subst e2
    exact .inl ⟨by rw [show k = 0 by omega], by omega⟩
  · injection e1 with e1 _ e2
    subst e1; subst e2
    refine .inr ⟨g, cap, cur, rfl, hb, hh, by omega, hcm, hs, ?_⟩
    rw [← ht, List.take_take]
    congr 1; omega

/-! ### maps, nil let in -/
section
variable {P : Program} {k : TypeId} {R : Value → Option (DU × List MemPlace)}
def MapAt (w : World) (P : Program) (k : TypeId) (R : Value → Option (DU × List MemPlace)) (m : Option Nat) (D : DU) : Prop :=
  match m with
  | none => D = .map []
  | some b => w.ownsMap P k R b (Maps.size D) D
theorem owns_tight {w : World} {b n : Nat} {D : DU} (h : w.ownsMap P k R b n D) : w.ownsMap P k R b (Maps.size D) D := by
  obtain ⟨es, clock, hb, F, hs, rfl⟩ := h
  exact ⟨es, clock, hb, F, by rw [Maps.size_eq, length_sorted]; simp, rfl⟩
theorem owns_of {w w' : World} {b n : Nat} {D : DU} (h : w.ownsMap P k R b n D) (hk : w'.heap[b]? = w.heap[b]?) : w'.ownsMap P k R b n D := by
  obtain ⟨es, clock, hb, r⟩ := h
  exact ⟨es, clock, hk.trans hb, r⟩
theorem MapAt.of {w w' : World} {m : Option Nat} {D : DU} (h : MapAt w P k R m D) (hk : ∀ b, m = some b → w'.heap[b]? = w.heap[b]?) : MapAt w' P k R m D := by
  cases m with
  | none => exact h
  | some b => exact owns_of (b := b) h (hk b rfl)
theorem MapAt.lt {w : World} {m : Option Nat} {D : DU} (h : MapAt w P k R m D) : ∀ b, m = some b → b < w.heap.size := by
  rintro b rfl
  exact World.ownsMap.lt (b := b) h
theorem MapAt.isMap {w : World} {m : Option Nat} {D : DU} (h : MapAt w P k R m D) : IsMap D := by
  cases m with
  | none => rw [show D = .map [] from h]; exact isMap_empty
  | some b => exact World.ownsMap.isMap (b := b) h
theorem MapAt.tidy (K : Keyed P k) {w : World} {m : Option Nat} {D : DU} (h : MapAt w P k R m D) : Tidy D := by
  cases m with
  | none => rw [show D = .map [] from h]; exact tidy_empty
  | some b => exact World.ownsMap.tidy (b := b) h K
theorem owns_map {w : World} {b n : Nat} {D : DU} (h : w.ownsMap P k R b n D) : ∃ es c, w.heap[b]? = some (.map es c) := by
  obtain ⟨es, clock, hb, _⟩ := h
  exact ⟨es, clock, hb⟩
theorem map_ne_blk {w : World} {b g : Nat} {es : Array MapEntry} {c : Nat} {t : TypeId} {cs : Array Value} {fz : Nat × Nat} (h : w.heap[b]? = some (.map es c)) (h' : w.heap[g]? = some (.cells cs t fz)) : b ≠ g := by
  rintro rfl
  rw [h] at h'
  cases h'
end

/-- How a file's pointer reads in the table of files: by its block's number. -/
def ptrElem (v : Value) : Option (DU × List MemPlace) :=
  match v with
  | .pointer none => some (.nil, [])
  | .pointer (some ⟨b, 0, none⟩) => some (.lit (.int .i64 b), [])
  | _ => none
theorem ptrElem_mk (b : Nat) : ptrElem (.pointer (some ⟨b, 0, none⟩)) = some (.lit (.int .i64 b), []) := rfl
theorem ptrElem_inv {v : Value} {b : Nat} {ps : List MemPlace} (h : ptrElem v = some (.lit (.int .i64 b), ps)) : v = .pointer (some ⟨b, 0, none⟩) := by
  unfold ptrElem at h
  split at h
  · simp at h
  · rename_i b'
    simp at h
    obtain ⟨h, _⟩ := h
    rw [show b' = b by omega]
  · simp at h

end Go.Proofs.YtoaiofjcjjkfaaaGreatDoor
/- The library's calls that the disk makes, by the shelf's contracts, at this program's numbers. -/
namespace Go.Proofs.YtoaiofjcjjkfaaaGreatDoor
open Go.RowKit Go.Maps Go.Sort Go.Shelf Go.Proofs
def Lay.keys_ren : Go.Shelf.Ren := ⟨fun | 7 => 104 | 10 => 160 | n => n, fun | 23 => 100 | 26 => 9 | 3 => 3 | 28 => 164 | 0 => 0 | 27 => 163 | 33 => 38 | 4 => 4 | n => n, fun | n => n⟩
theorem Lay.keys : Go.Proofs.SlLaysZ.n7 Tryz.prog Lay.keys_ren := {
  mixed := by kernel_rfl
  f7 := ⟨Tryz.f104.name, by decide, Tryz.func104.trans (congrArg some (by kernel_rfl))⟩
  f10 := ⟨Tryz.f160.name, by decide, Tryz.func160.trans (congrArg some (by kernel_rfl))⟩
  t0 := Tryz.underlying0
  a0 := Tryz.isAgg0
  z0 := Tryz.sizeOf0
  v0 := Tryz.zeroValue0
  t4 := Tryz.underlying4
  a4 := Tryz.isAgg4
  z4 := Tryz.sizeOf4
  v4 := Tryz.zeroValue4
  t23 := Tryz.underlying100
  a23 := Tryz.isAgg100
  z23 := Tryz.sizeOf100
  v23 := Tryz.zeroValue100
  t26 := Tryz.underlying9
  a26 := Tryz.isAgg9
  z26 := Tryz.sizeOf9
  v26 := Tryz.zeroValue9
  t27 := Tryz.underlying163
  a27 := Tryz.isAgg163
  z27 := Tryz.sizeOf163
  v27 := Tryz.zeroValue163
  t28 := Tryz.underlying164
  a28 := Tryz.isAgg164
  z28 := Tryz.sizeOf164
  v28 := Tryz.zeroValue164
  t33 := Tryz.underlying38
  a33 := Tryz.isAgg38
  z33 := Tryz.sizeOf38
  v33 := Tryz.zeroValue38 }
def Lay.sorted_ren : Go.Shelf.Ren := ⟨fun | 6 => 103 | 8 => 158 | 9 => 159 | 11 => 182 | 13 => 184 | 12 => 183 | 23 => 210 | 24 => 194 | 14 => 201 | 15 => 202 | 16 => 203 | 17 => 204 | 18 => 205 | 19 => 206 | 20 => 207 | 21 => 208 | 22 => 209 | 25 => 221 | 26 => 222 | 27 => 223 | 28 => 224 | 29 => 225 | 30 => 226 | 31 => 233 | n => n, fun | 26 => 9 | 28 => 164 | 24 => 22 | 0 => 0 | 3 => 3 | 37 => 150 | 48 => 135 | 50 => 82 | 4 => 4 | 40 => 244 | 39 => 243 | 45 => 196 | 5 => 5 | 9 => 9 | 51 => 259 | 55 => 263 | 57 => 275 | 58 => 276 | 33 => 38 | n => n, fun | n => n⟩
theorem Lay.sorted : Go.Proofs.SlLaysZ.n6 Tryz.prog Lay.sorted_ren := {
  mixed := by kernel_rfl
  f6 := ⟨Tryz.f103.name, by decide, Tryz.func103.trans (congrArg some (by kernel_rfl))⟩
  f8 := ⟨Tryz.f158.name, by decide, Tryz.func158.trans (congrArg some (by kernel_rfl))⟩
  f11 := ⟨Tryz.f182.name, by decide, Tryz.func182.trans (congrArg some (by kernel_rfl))⟩
  t0 := Tryz.underlying0
  a0 := Tryz.isAgg0
  z0 := Tryz.sizeOf0
  v0 := Tryz.zeroValue0
  t24 := Tryz.underlying22
  a24 := Tryz.isAgg22
  z24 := Tryz.sizeOf22
  v24 := Tryz.zeroValue22
  t26 := Tryz.underlying9
  a26 := Tryz.isAgg9
  z26 := Tryz.sizeOf9
  v26 := Tryz.zeroValue9
  t28 := Tryz.underlying164
  a28 := Tryz.isAgg164
  z28 := Tryz.sizeOf164
  v28 := Tryz.zeroValue164
  i26 := by kernel_rfl }
def Lay.sort_ren : Go.Shelf.Ren := ⟨fun | 6 => 159 | 8 => 184 | 9 => 183 | 19 => 210 | 20 => 194 | 21 => 201 | 22 => 202 | 23 => 203 | 24 => 204 | 25 => 205 | 26 => 206 | 27 => 207 | 28 => 208 | 29 => 209 | 36 => 221 | 31 => 222 | 32 => 223 | 37 => 224 | 38 => 225 | 39 => 226 | 41 => 233 | n => n, fun | 27 => 22 | 29 => 9 | 3 => 3 | 32 => 150 | 26 => 22 | 0 => 0 | 44 => 135 | 46 => 82 | 4 => 4 | 36 => 244 | 35 => 243 | 41 => 196 | 5 => 5 | 9 => 9 | 53 => 259 | 57 => 263 | 63 => 275 | 64 => 276 | n => n, fun | n => n⟩
theorem Lay.sort : Go.Proofs.SlLaysM.n6 Tryz.prog Lay.sort_ren := {
  mixed := by kernel_rfl
  f6 := ⟨Tryz.f159.name, by decide, Tryz.func159.trans (congrArg some (by kernel_rfl))⟩
  f8 := Tryz.func184.trans (congrArg some (by kernel_rfl))
  f9 := ⟨Tryz.f183.name, by decide, Tryz.func183.trans (congrArg some (by kernel_rfl))⟩
  f19 := Tryz.func210.trans (congrArg some (by kernel_rfl))
  f20 := Tryz.func194.trans (congrArg some (by kernel_rfl))
  f21 := ⟨Tryz.f201.name, by decide, Tryz.func201.trans (congrArg some (by kernel_rfl))⟩
  f22 := ⟨Tryz.f202.name, by decide, Tryz.func202.trans (congrArg some (by kernel_rfl))⟩
  f23 := ⟨Tryz.f203.name, by decide, Tryz.func203.trans (congrArg some (by kernel_rfl))⟩
  f24 := ⟨Tryz.f204.name, by decide, Tryz.func204.trans (congrArg some (by kernel_rfl))⟩
  f25 := ⟨Tryz.f205.name, by decide, Tryz.func205.trans (congrArg some (by kernel_rfl))⟩
  f26 := ⟨Tryz.f206.name, by decide, Tryz.func206.trans (congrArg some (by kernel_rfl))⟩
  f27 := ⟨Tryz.f207.name, by decide, Tryz.func207.trans (congrArg some (by kernel_rfl))⟩
  f28 := ⟨Tryz.f208.name, by decide, Tryz.func208.trans (congrArg some (by kernel_rfl))⟩
  f29 := ⟨Tryz.f209.name, by decide, Tryz.func209.trans (congrArg some (by kernel_rfl))⟩
  f31 := Tryz.func222.trans (congrArg some (by kernel_rfl))
  f32 := Tryz.func223.trans (congrArg some (by kernel_rfl))
  f36 := ⟨Tryz.f221.name, by decide, Tryz.func221.trans (congrArg some (by kernel_rfl))⟩
  f37 := ⟨Tryz.f224.name, by decide, Tryz.func224.trans (congrArg some (by kernel_rfl))⟩
  f38 := ⟨Tryz.f225.name, by decide, Tryz.func225.trans (congrArg some (by kernel_rfl))⟩
  f39 := ⟨Tryz.f226.name, by decide, Tryz.func226.trans (congrArg some (by kernel_rfl))⟩
  f41 := ⟨Tryz.f233.name, by decide, Tryz.func233.trans (congrArg some (by kernel_rfl))⟩
  t0 := Tryz.underlying0
  a0 := Tryz.isAgg0
  z0 := Tryz.sizeOf0
  v0 := Tryz.zeroValue0
  t3 := Tryz.underlying3
  a3 := Tryz.isAgg3
  z3 := Tryz.sizeOf3
  v3 := Tryz.zeroValue3
  t4 := Tryz.underlying4
  a4 := Tryz.isAgg4
  z4 := Tryz.sizeOf4
  v4 := Tryz.zeroValue4
  t5 := Tryz.underlying5
  a5 := Tryz.isAgg5
  z5 := Tryz.sizeOf5
  v5 := Tryz.zeroValue5
  t9 := Tryz.underlying9
  a9 := Tryz.isAgg9
  z9 := Tryz.sizeOf9
  v9 := Tryz.zeroValue9
  t26 := Tryz.underlying22
  a26 := Tryz.isAgg22
  z26 := Tryz.sizeOf22
  v26 := Tryz.zeroValue22
  t27 := Tryz.underlying22
  a27 := Tryz.isAgg22
  z27 := Tryz.sizeOf22
  v27 := Tryz.zeroValue22
  t29 := Tryz.underlying9
  a29 := Tryz.isAgg9
  z29 := Tryz.sizeOf9
  v29 := Tryz.zeroValue9
  t32 := Tryz.underlying150
  a32 := Tryz.isAgg150
  z32 := Tryz.sizeOf150
  v32 := Tryz.zeroValue150
  t35 := Tryz.underlying243
  a35 := Tryz.isAgg243
  z35 := Tryz.sizeOf243
  v35 := Tryz.zeroValue243
  t36 := Tryz.underlying244
  a36 := Tryz.isAgg244
  z36 := Tryz.sizeOf244
  v36 := Tryz.zeroValue244
  t41 := Tryz.underlying196
  a41 := Tryz.isAgg196
  z41 := Tryz.sizeOf196
  v41 := Tryz.zeroValue196
  t44 := Tryz.underlying135
  a44 := Tryz.isAgg135
  z44 := Tryz.sizeOf135
  v44 := Tryz.zeroValue135
  t46 := Tryz.underlying82
  a46 := Tryz.isAgg82
  z46 := Tryz.sizeOf82
  v46 := Tryz.zeroValue82
  t53 := Tryz.underlying259
  a53 := Tryz.isAgg259
  z53 := Tryz.sizeOf259
  v53 := Tryz.zeroValue259
  t57 := Tryz.underlying263
  a57 := Tryz.isAgg263
  z57 := Tryz.sizeOf263
  v57 := Tryz.zeroValue263
  t63 := Tryz.underlying275
  a63 := Tryz.isAgg275
  z63 := Tryz.sizeOf275
  v63 := Tryz.zeroValue275
  t64 := Tryz.underlying276
  a64 := Tryz.isAgg276
  z64 := Tryz.sizeOf276
  v64 := Tryz.zeroValue276 }
def Lay.clone_ren : Go.Shelf.Ren := ⟨fun | 5 => 105 | 7 => 161 | n => n, fun | 23 => 100 | 25 => 9 | 3 => 3 | 4 => 4 | 20 => 20 | n => n, fun | n => n⟩
theorem Lay.clone : Go.Proofs.SlLaysW.n5 Tryz.prog Lay.clone_ren := {
  mixed := by kernel_rfl
  f5 := ⟨Tryz.f105.name, by decide, Tryz.func105.trans (congrArg some (by kernel_rfl))⟩
  f7 := Tryz.func161.trans (congrArg some (by kernel_rfl))
  t4 := Tryz.underlying4
  a4 := Tryz.isAgg4
  z4 := Tryz.sizeOf4
  v4 := Tryz.zeroValue4
  t20 := Tryz.underlying20
  a20 := Tryz.isAgg20
  z20 := Tryz.sizeOf20
  v20 := Tryz.zeroValue20
  t23 := Tryz.underlying100
  a23 := Tryz.isAgg100
  z23 := Tryz.sizeOf100
  v23 := Tryz.zeroValue100 }
def Lay.copy_ren : Go.Shelf.Ren := ⟨fun | 5 => 54 | n => n, fun | 23 => 100 | 24 => 100 | 26 => 9 | 27 => 3 | 0 => 0 | 4 => 4 | n => n, fun | n => n⟩
theorem Lay.copy : Go.Proofs.SlLaysX.n5 Tryz.prog Lay.copy_ren := {
  mixed := by kernel_rfl
  f5 := ⟨Tryz.f54.name, by decide, Tryz.func54.trans (congrArg some (by kernel_rfl))⟩
  t0 := Tryz.underlying0
  a0 := Tryz.isAgg0
  z0 := Tryz.sizeOf0
  v0 := Tryz.zeroValue0
  t4 := Tryz.underlying4
  a4 := Tryz.isAgg4
  z4 := Tryz.sizeOf4
  v4 := Tryz.zeroValue4
  t23 := Tryz.underlying100
  a23 := Tryz.isAgg100
  z23 := Tryz.sizeOf100
  v23 := Tryz.zeroValue100
  t24 := Tryz.underlying100
  a24 := Tryz.isAgg100
  z24 := Tryz.sizeOf100
  v24 := Tryz.zeroValue100
  a26 := Tryz.isAgg9
  z26 := Tryz.sizeOf9
  a27 := Tryz.isAgg3
  z27 := Tryz.sizeOf3 }

/-! ### what they say here -/
theorem sorts (m : Nat) : AnyZ.SortsIn Tryz.prog Lay.sorted_ren Fence.wide m :=
  ⟨fun blk off cap ss W hH hblk hsz => callsIn_wide.2 (AnyM.slices_Sort_string Lay.sort blk off cap ss W hH hblk hsz),
   fun p cap W => callsIn_wide.2 (AnyM.slices_Sort_string_none Lay.sort p cap W)⟩

theorem keys_in (mb : Option Nat) (W : World) : CallsIn Fence.wide 5 Tryz.prog 104 #[.map mb] W fun e w' => e = .returned (.func (.func 160) #[] #[.pointer (some ⟨W.heap.size, 0, none⟩)]) ∧ w' = W.alloc (.cells #[.map mb] 100) :=
  AnyZ.keys_in Lay.keys Fence.wide 5 trivial rfl mb W

set_option maxHeartbeats 1000000 in
theorem sorted_keys {H : Type} (b nn : Nat) (D0 : DataW H) (R : Value → Option (DataW H × List MemPlace)) (w : World) (hown : w.ownsMap Tryz.prog 9 R b nn D0) (hmax : Maps.size D0 ≤ maxLen) (hbytes : Maps.size D0 * 16 ≤ 140737488355328) :
    CallsIn Fence.wide 5 Tryz.prog 103 #[.func (.func 160) #[] #[.pointer (some ⟨w.heap.size, 0, none⟩)]] (w.alloc (.cells #[.map (some b)] 100)) fun e w' => ∃ (v : Value) (ss : List (List UInt8)), e = .returned v ∧ ss.Perm (strKeys D0) ∧
      w'.ownsRow (w.alloc (.cells #[.map (some b)] 100)).heap.size 9 1 v ss.length ((ss.mergeSort (fun x y => decide (x ≤ y))).map encStr) ∧ (v = .slice none 0 0 ↔ ss = []) ∧ Below (w.alloc (.cells #[.map (some b)] 100)).heap.size (w.alloc (.cells #[.map (some b)] 100)) w' := by
  have hbl := hown.lt
  have hseq : SeqGives Fence.wide 2 Tryz.prog 160 #[.pointer (some ⟨w.heap.size, 0, none⟩)] encStr (fun ss => ss.Perm (strKeys D0)) (Maps.size D0) (w.alloc (.cells #[.map (some b)] 100)) :=
    AnyZ.keys_gives (ρ := Lay.keys_ren) { Lay.keys with } Fence.wide _ trivial rfl (by omega) w.heap.size b nn D0 _ (by simp) (by simp) (by
      obtain ⟨es, clock, hb, Ft, hs, hD⟩ := hown
      exact ⟨es, clock, (Below.heap_alloc _ _ b hbl).trans hb, Ft, hs, hD⟩)
  exact AnyZ.sorted_in Lay.sorted Fence.wide 5 trivial trivial trivial trivial rfl (by omega) (sorts _) (enters_of Tryz.func159 (by kernel_rfl) rfl) 160 #[.pointer (some ⟨w.heap.size, 0, none⟩)] trivial (enters_of Tryz.func160 (by kernel_rfl) rfl) _ _ hmax hbytes _ hseq

set_option maxHeartbeats 1000000 in
/-- sorted: the map's keys, rising. -/
theorem sorted_any {H : Type} (b nn : Nat) (D0 : DataW H) (R : Value → Option (DataW H × List MemPlace)) (w : World) (hown : w.ownsMap Tryz.prog 9 R b nn D0) (hmax : Maps.size D0 ≤ maxLen) (hbytes : Maps.size D0 * 16 ≤ 140737488355328) :
    Calls Tryz.prog 56 #[.map (some b)] w fun e w' => ∃ (v : Value) (ss : List (List UInt8)), e = .returned v ∧ ss.Perm (strKeys D0) ∧
      w'.ownsRow w.heap.size 9 1 v ss.length ((ss.mergeSort (fun x y => decide (x ≤ y))).map encStr) ∧ (v = .slice none 0 0 ↔ ss = []) ∧ Below w.heap.size w w' := by
  refine (callsIn_wide (n := 6)).1 ?_
  have hfK : Fence.wide.fn 104 := trivial
  have hfS : Fence.wide.fn 103 := trivial
  refine callsIn_of_wp Tryz.func56 rfl trivial ?_ rfl
  simp only [Tryz.ntmps56, List.size_toArray, List.length_cons, List.length_nil, Nat.reduceAdd, Nat.reduceSub, Array.replicate_succ, Array.replicate_zero, List.push_toArray, List.append_toArray, List.nil_append, List.cons_append]
  gi_wp2_with (first
    | (gi_at_call 104; refine (keys_in _ _).mono ?_; rintro e w' ⟨rfl, rfl⟩)
    | (gi_at_call 103; refine (sorted_keys b nn D0 R w hown hmax hbytes).mono ?_; rintro e w' ⟨v, ss, rfl, hS, hrow, hnil, hb⟩))
  go_ret
  exact ⟨v, ss, rfl, hS, ownsRow_base_a hrow (by simp), hnil, ((Below.refl _ w).alloc (Nat.le_refl _) _).trans (hb.mono (by simp))⟩

theorem clone_owns {H : Type} (R : Value → Option (DataW H × List MemPlace)) (b n : Nat) (D : DataW H) (w : World) (hown : w.ownsMap Tryz.prog 9 R b n D) :
    Calls Tryz.prog 105 #[.map (some b)] w fun e w' => e = .returned (.map (some w.heap.size)) ∧ w'.ownsMap Tryz.prog 9 R w.heap.size n D ∧ w'.ownsMap Tryz.prog 9 R b n D ∧ Below w.heap.size w w' := by
  have hcon := AnyW.maps_Clone_owns Lay.clone 9 R b n D w hown
  exact hcon

theorem law9 : Keyed Tryz.prog 9 := string_keyed Tryz.underlying9
theorem law3 : Keyed Tryz.prog 3 := int_keyed Tryz.underlying3

theorem copy_opt {H : Type} (R : Value → Option (DataW H × List MemPlace)) (bd nd : Nat) (ps : Option Nat) (Dd Ds : DataW H) (w : World) (hd : w.ownsMap Tryz.prog 9 R bd nd Dd) (hs : SrcOf Tryz.prog 9 R w ps Ds) (hne : ps ≠ some bd) (hroom : nd + Maps.size Ds ≤ maxLen) :
    Calls Tryz.prog 54 #[.map (some bd), .map ps] w fun e w' => e = .returned (.tuple #[]) ∧ w'.ownsMap Tryz.prog 9 R bd (nd + Maps.size Ds) (Lib.mergeD Dd Ds) ∧ w.grownBy w' (some bd) := by
  have hcon := AnyX.maps_Copy_opt Lay.copy law9 R bd nd ps Dd Ds w hd hs hne hroom
  exact hcon

theorem canonK_merge {H : Type} {Kd : Lit → Prop} (O : OneKind Kd) {D : DataW H} (c : CanonK Kd D) : Lib.mergeD (.map []) D = D :=
  (merged_eq O (left := fun _ => false) ⟨fun k => by simp [has], fun k z => by
    by_cases h : has D k = true
    · simp [h]
    · rw [atKey_of_not_has (by simpa using h)]; simp [DataW.atKey]⟩ (fun _ => rfl) (c.canon O) ⟨[], rfl, List.Pairwise.nil, by intro p hp; cases hp⟩ c).symm

/-- maps.Copy into a new map: the map itself. -/
theorem copy_new (R : Value → Option (DU × List MemPlace)) (bd : Nat) (m : Option Nat) (D : DU) (w : World) (hd : w.ownsMap Tryz.prog 9 R bd 0 (.map [])) (hs : MapAt w Tryz.prog 9 R m D) (hne : m ≠ some bd) (hroom : Maps.size D ≤ maxLen) :
    Calls Tryz.prog 54 #[.map (some bd), .map m] w fun e w' => e = .returned (.tuple #[]) ∧ w'.ownsMap Tryz.prog 9 R bd (Maps.size D) D ∧ w.grownBy w' (some bd) := by
  cases m with
  | none =>
    have hD : D = .map [] := hs
    subst hD
    exact (copy_opt R bd 0 none (.map []) .nil w hd (.inl ⟨rfl, rfl⟩) hne (Nat.zero_le _)).mono fun e w' ⟨he, h1, h2⟩ => ⟨he, h1, h2⟩
  | some b =>
    have ho : w.ownsMap Tryz.prog 9 R b (Maps.size D) D := hs
    refine (copy_opt R bd 0 (some b) (.map []) D w hd (.inr ⟨b, _, rfl, ho⟩) hne (by omega)).mono fun e w' ⟨he, h1, h2⟩ => ⟨he, ?_, h2⟩
    rw [canonK_merge law9.one (ho.canonK law9)] at h1
    simpa using h1
end Go.Proofs.YtoaiofjcjjkfaaaGreatDoor
/- What a disk is: the state as the document has it, and how it lies in memory. -/
namespace Go.Proofs.YtoaiofjcjjkfaaaGreatDoor
open Go.RowKit Go.Maps
set_option linter.unusedVariables false

/-- A loose change of names. -/
structure Ch where
  frm : List UInt8
  to : List UInt8
  file : Int
/-- A file. -/
structure FR where
  bytes : List UInt8
  firm : Nat
/-- A disk. -/
structure AS where
  room : Int
  on : Bool
  armed : Bool
  left : Int
  steps : Int
  last : Int
  names : DU
  firm : DU
  loose : List Ch
  file : Int → Option FR

def Ch.cells (c : Ch) : List Value := [.string ⟨c.frm.toArray⟩, .string ⟨c.to.toArray⟩, .int .i64 c.file]
def byteV (u : UInt8) : Value := .int .u8 u.toNat

/-- Where it lies. -/
structure Rp where
  nm : Option Nat
  fm : Option Nat
  fb : Option Nat
  lv : Value
  rc : Int → Nat × Value
  FD : DU

def cellsOf (S : AS) (R : Rp) : Array Value :=
  #[.int .i64 S.room, .bool S.on, .bool S.armed, .int .i64 S.left, .int .i64 S.steps, .map R.nm, .map R.fm, R.lv, .map R.fb, .int .i64 S.last]


/-- How file n lies. -/
def FileAt (w : World) (R : Rp) (n : Int) : Option FR → Prop
  | none => has R.FD (.int .i64 n) = false
  | some r => (∀ z, R.FD.atKey (.int .i64 n) z = .lit (.int .i64 (R.rc n).1)) ∧ Blk w (R.rc n).1 126 #[(R.rc n).2, .int .i64 r.firm] ∧ w.ownsRow 0 5 1 (R.rc n).2 r.bytes.length (r.bytes.map byteV)

structure At (w : World) (d : Nat) (R : Rp) (S : AS) : Prop where
  blk : Blk w d 109 (cellsOf S R)
  names : MapAt w Tryz.prog 9 (plainElem Tryz.prog 3) R.nm S.names
  firm : MapAt w Tryz.prog 9 (plainElem Tryz.prog 3) R.fm S.firm
  files : MapAt w Tryz.prog 3 ptrElem R.fb R.FD
  loose : w.ownsRow 0 114 3 R.lv S.loose.length (S.loose.flatMap Ch.cells)
  fd : ∀ n, FileAt w R n (S.file n)
  ne1 : ∀ b, R.nm = some b → R.fm ≠ some b
  ne2 : ∀ b, R.nm = some b → R.fb ≠ some b
  ne3 : ∀ b, R.fm = some b → R.fb ≠ some b
  ap : ∀ n m r q, n ≠ m → S.file n = some r → S.file m = some q → (R.rc n).1 ≠ (R.rc m).1 ∧ ∀ k, (R.rc n).2.ownBlock = some k → (R.rc m).2.ownBlock ≠ some k
  onn : S.on = true → ∃ b c, R.nm = some b ∧ R.fb = some c

/-- The blocks that are the disk's. -/
def foot (d : Nat) (R : Rp) (S : AS) (k : Nat) : Prop :=
  k = d ∨ R.nm = some k ∨ R.fm = some k ∨ R.fb = some k ∨ R.lv.ownBlock = some k ∨ ∃ n r, S.file n = some r ∧ (k = (R.rc n).1 ∨ (R.rc n).2.ownBlock = some k)

theorem FileAt.of {w w' : World} {R : Rp} {n : Int} {o : Option FR} (h : FileAt w R n o) (hk : ∀ r, o = some r → ∀ k, (k = (R.rc n).1 ∨ (R.rc n).2.ownBlock = some k) → w'.heap[k]? = w.heap[k]?) : FileAt w' R n o := by
  cases o with
  | none => exact h
  | some r =>
    obtain ⟨h1, h2, h3⟩ := h
    exact ⟨h1, h2.of (hk r rfl _ (.inl rfl)), own_of h3 fun k hb => hk r rfl k (.inr hb)⟩

theorem At.of {w w' : World} {d : Nat} {R : Rp} {S : AS} (h : At w d R S) (hk : ∀ k, foot d R S k → w'.heap[k]? = w.heap[k]?) : At w' d R S where
  blk := h.blk.of (hk _ (.inl rfl))
  names := h.names.of fun b hb => hk _ (.inr (.inl hb))
  firm := h.firm.of fun b hb => hk _ (.inr (.inr (.inl hb)))
  files := h.files.of fun b hb => hk _ (.inr (.inr (.inr (.inl hb))))
  loose := own_of h.loose fun b hb => hk _ (.inr (.inr (.inr (.inr (.inl hb)))))
  fd n := (h.fd n).of fun r hr k hb => hk _ (.inr (.inr (.inr (.inr (.inr ⟨n, r, hr, hb⟩)))))
  ne1 := h.ne1
  ne2 := h.ne2
  ne3 := h.ne3
  ap := h.ap
  onn := h.onn

theorem At.lt {w : World} {d : Nat} {R : Rp} {S : AS} (h : At w d R S) : ∀ k, foot d R S k → k < w.heap.size := by
  intro k hk
  rcases hk with rfl | hk | hk | hk | hk | ⟨n, r, hr, hk⟩
  · exact h.blk.lt
  · exact h.names.lt k hk
  · exact h.firm.lt k hk
  · exact h.files.lt k hk
  · exact (h.loose.lt k hk).2
  · have := h.fd n
    rw [hr] at this
    obtain ⟨_, h2, h3⟩ := this
    rcases hk with rfl | hk
    · exact h2.lt
    · exact (h3.lt k hk).2

theorem At.fr {w w' : World} {d : Nat} {R : Rp} {S : AS} (h : At w d R S) {F : Nat → Prop} (hf : Fr F w w') (hd : ∀ k, F k → ¬ foot d R S k) : At w' d R S :=
  h.of fun k hk => hf.block k (h.lt k hk) fun hF => hd k hF hk
theorem At.keep {w w' : World} {d : Nat} {R : Rp} {S : AS} (h : At w d R S) (hf : Fr No w w') : At w' d R S := h.fr hf fun _ hF => hF.elim
theorem At.drewN {w : World} {d : Nat} {R : Rp} {S : AS} (h : At w d R S) (n : Nat) : At (w.drewN n) d R S := h.keep ((Fr.refl _ _).drewN n)
theorem At.below {w w' : World} {d : Nat} {R : Rp} {S : AS} (h : At w d R S) (hb : Below w.heap.size w w') : At w' d R S := h.keep (Fr.of_below hb)

/-- d's own block is none of the others. -/
theorem At.apart {w : World} {d : Nat} {R : Rp} {S : AS} (h : At w d R S) : R.nm ≠ some d ∧ R.fm ≠ some d ∧ R.fb ≠ some d ∧ R.lv.ownBlock ≠ some d ∧ ∀ n r, S.file n = some r → (R.rc n).1 ≠ d ∧ (R.rc n).2.ownBlock ≠ some d := by
  have hb := h.blk
  have mp : ∀ {k : TypeId} {E : Value → Option (DU × List MemPlace)} {m : Option Nat} {D : DU}, MapAt w Tryz.prog k E m D → m ≠ some d := by
    rintro k E m D hm rfl
    obtain ⟨es, c, he⟩ := owns_map (b := d) hm
    exact map_ne_blk he hb rfl
  refine ⟨mp h.names, mp h.firm, mp h.files, fun e => own_blk_ne h.loose e hb (by decide) rfl, fun n r hr => ?_⟩
  have hf := h.fd n
  rw [hr] at hf
  obtain ⟨_, h2, h3⟩ := hf
  exact ⟨h2.ne_ hb (by decide), fun e => own_blk_ne h3 e hb (by decide) rfl⟩

/-- d alone -/
def One (d k : Nat) : Prop := k = d
theorem Fr.set1 {d : Nat} {a w : World} (h : Fr (One d) a w) (i : Nat) (u : Value) : Fr (One d) a (w.setCell ⟨d, i, none⟩ u) := h.setCell (p := ⟨d, i, none⟩) (fun _ => rfl) u
theorem Fr.set0 (d : Nat) (w : World) (i : Nat) (u : Value) : Fr (One d) w (w.setCell ⟨d, i, none⟩ u) := (Fr.refl _ w).set1 i u

/-- Only d's own block has turned. -/
theorem At.own {w w' : World} {d : Nat} {R : Rp} {S S' : AS} (h : At w d R S) (hf : Fr (One d) w w') (hb : Blk w' d 109 (cellsOf S' R))
    (e1 : S'.names = S.names) (e2 : S'.firm = S.firm) (e3 : S'.loose = S.loose) (e4 : S'.file = S.file) (e5 : S'.on = true → ∃ b c, R.nm = some b ∧ R.fb = some c) : At w' d R S' := by
  obtain ⟨a1, a2, a3, a4, a5⟩ := h.apart
  have hk : ∀ k, foot d R S k → k ≠ d → w'.heap[k]? = w.heap[k]? := fun k hk hn => hf.block k (h.lt k hk) hn
  exact {
    blk := hb
    names := by rw [e1]; exact h.names.of fun b hb => hk _ (.inr (.inl hb)) (fun e => a1 (e ▸ hb))
    firm := by rw [e2]; exact h.firm.of fun b hb => hk _ (.inr (.inr (.inl hb))) (fun e => a2 (e ▸ hb))
    files := h.files.of fun b hb => hk _ (.inr (.inr (.inr (.inl hb)))) (fun e => a3 (e ▸ hb))
    loose := by rw [e3]; exact own_of h.loose fun b hb => hk _ (.inr (.inr (.inr (.inr (.inl hb))))) (fun e => a4 (e ▸ hb))
    fd := fun n => by
      rw [e4]
      exact (h.fd n).of fun r hr k hq => hk _ (.inr (.inr (.inr (.inr (.inr ⟨n, r, hr, hq⟩))))) (fun e => by
        rcases hq with hq | hq
        · exact (a5 n r hr).1 (hq ▸ e)
        · exact (a5 n r hr).2 (e ▸ hq))
    ne1 := h.ne1
    ne2 := h.ne2
    ne3 := h.ne3
    ap := by rw [e4]; exact h.ap
    onn := e5 }

/-- Where there is a file there is a table of them. -/
theorem At.fbs {w : World} {d : Nat} {R : Rp} {S : AS} (h : At w d R S) {n : Int} {r : FR} (hr : S.file n = some r) : ∃ c, R.fb = some c := by
  cases hb : R.fb with
  | some c => exact ⟨c, rfl⟩
  | none =>
    have hf := h.files
    rw [hb] at hf
    have hD : R.FD = .map [] := hf
    have hfd := h.fd n
    rw [hr] at hfd
    have := hfd.1 .nil
    rw [hD] at this
    cases this

theorem At.cells {w : World} {d : Nat} {R : Rp} {S : AS} (h : At w d R S) (i : Nat) : w.cell? ⟨d, i, none⟩ = (cellsOf S R)[i]? := h.blk.cell i

end Go.Proofs.YtoaiofjcjjkfaaaGreatDoor
/- What the disk's own fields do: armed, steps, room. -/
namespace Go.Proofs.YtoaiofjcjjkfaaaGreatDoor
open Go.RowKit Go.Maps
set_option linter.unusedVariables false

def AS.arm (S : AS) (n : Int) : AS := { S with armed := decide (0 ≤ n), left := max n 0 }

theorem cells_all {w : World} {d : Nat} {R : Rp} {S : AS} (h : At w d R S) :
    w.cell? ⟨d, 0, none⟩ = some (.int .i64 S.room) ∧ w.cell? ⟨d, 1, none⟩ = some (.bool S.on) ∧ w.cell? ⟨d, 2, none⟩ = some (.bool S.armed) ∧ w.cell? ⟨d, 3, none⟩ = some (.int .i64 S.left) ∧
    w.cell? ⟨d, 4, none⟩ = some (.int .i64 S.steps) ∧ w.cell? ⟨d, 5, none⟩ = some (.map R.nm) ∧ w.cell? ⟨d, 6, none⟩ = some (.map R.fm) ∧ w.cell? ⟨d, 7, none⟩ = some R.lv ∧ w.cell? ⟨d, 8, none⟩ = some (.map R.fb) ∧ w.cell? ⟨d, 9, none⟩ = some (.int .i64 S.last) :=
  ⟨h.cells 0, h.cells 1, h.cells 2, h.cells 3, h.cells 4, h.cells 5, h.cells 6, h.cells 7, h.cells 8, h.cells 9⟩

theorem arm_nil (n : Int) (w : World) : Calls Tryz.prog 20 #[.pointer none, .int .i64 n] w fun e w' => e = .returned (.tuple #[]) ∧ w = w' := by
  go_enter Tryz.func20, Tryz.ntmps20
  go_wp2
  exact bodyPost_ret (results_none rfl _ _ _) rfl ⟨rfl, rfl⟩

set_option maxHeartbeats 400000 in
theorem arm_any (d : Nat) (R : Rp) (S : AS) (n : Int) (w : World) (h : At w d R S) :
    Calls Tryz.prog 20 #[.pointer (some ⟨d, 0, none⟩), .int .i64 n] w fun e w' => e = .returned (.tuple #[]) ∧ At w' d R (S.arm n) ∧ Fr (One d) w w' := by
  obtain ⟨c0, c1, c2, c3, c4, c5, c6, c7, c8, c9⟩ := cells_all h
  have f2 := h.blk.frozen 2
  have f3 := h.blk.frozen 3
  go_enter Tryz.func20, Tryz.ntmps20
  go_wp2
  go_end0
  have hf : Fr (One d) w ((w.setCell ⟨d, 2, none⟩ (.bool (decide (0 ≤ n)))).setCell ⟨d, 3, none⟩ (.int .i64 (max n 0))) := (Fr.set0 d w 2 _).set1 3 _
  exact ⟨rfl, h.own hf ((h.blk.set_ 2 _).set_ 3 _) rfl rfl rfl rfl h.onn, hf⟩

def roomOf (n : Int) : Int := min (max n 0) 16777216
def AS.limit (S : AS) (n : Int) : AS := { S with room := roomOf n }

theorem limit_nil (n : Int) (w : World) : Calls Tryz.prog 25 #[.pointer none, .int .i64 n] w fun e w' => e = .returned (.tuple #[]) ∧ w = w' := by
  go_enter Tryz.func25, Tryz.ntmps25
  go_wp2
  exact bodyPost_ret (results_none rfl _ _ _) rfl ⟨rfl, rfl⟩

set_option maxHeartbeats 400000 in
theorem limit_any (d : Nat) (R : Rp) (S : AS) (n : Int) (w : World) (h : At w d R S) :
    Calls Tryz.prog 25 #[.pointer (some ⟨d, 0, none⟩), .int .i64 n] w fun e w' => e = .returned (.tuple #[]) ∧ At w' d R (S.limit n) ∧ Fr (One d) w w' := by
  have c0 := (cells_all h).1
  have f0 := h.blk.frozen 0
  go_enter Tryz.func25, Tryz.ntmps25
  go_wp2
  go_end0
  have hf : Fr (One d) w (w.setCell ⟨d, 0, none⟩ (.int .i64 (roomOf n))) := Fr.set0 d w 0 _
  exact ⟨rfl, h.own hf (h.blk.set_ 0 _) rfl rfl rfl rfl h.onn, hf⟩

theorem on_nil (w : World) : Calls Tryz.prog 60 #[.pointer none] w fun e w' => e = .returned (.bool false) ∧ w = w' := by
  go_enter Tryz.func60, Tryz.ntmps60
  go_wp2
  go_ret
  exact ⟨rfl, rfl⟩
theorem on_any (d : Nat) (R : Rp) (S : AS) (w : World) (h : At w d R S) :
    Calls Tryz.prog 60 #[.pointer (some ⟨d, 0, none⟩)] w fun e w' => e = .returned (.bool S.on) ∧ w = w' := by
  have c1 := (cells_all h).2.1
  go_enter Tryz.func60, Tryz.ntmps60
  go_wp2
  go_ret
  exact ⟨rfl, rfl⟩

theorem steps_nil (w : World) : Calls Tryz.prog 75 #[.pointer none] w fun e w' => e = .returned (.int .i64 0) ∧ w = w' := by
  go_enter Tryz.func75, Tryz.ntmps75
  go_wp2
  go_ret
  exact ⟨rfl, rfl⟩

set_option maxHeartbeats 400000 in
theorem load_any (d i : Nat) (n : Int) (w : World) (hc : w.cell? ⟨d, i, none⟩ = some (.int .i64 n)) :
    Calls Tryz.prog 132 #[.pointer (some ⟨d, i, none⟩)] w fun e w' => e = .returned (.int .i64 n) ∧ w = w' := by
  have hl := run_call_load (P := Tryz.prog) Tryz.func172 (by kernel_rfl) (by kernel_rfl) (by kernel_rfl) .i64 (by kernel_rfl) (w := w) (a := ⟨d, i, none⟩) (x := n) hc
  go_enter Tryz.func132, Tryz.ntmps132
  go_wp2
  go_ret
  exact ⟨rfl, rfl⟩

set_option maxHeartbeats 400000 in
theorem add_any (d i : Nat) (n : Int) (w : World) (hc : w.cell? ⟨d, i, none⟩ = some (.int .i64 n)) (hf : w.frozen? ⟨d, i, none⟩ = false) :
    Calls Tryz.prog 186 #[.pointer (some ⟨d, i, none⟩), .int .i64 1] w fun e w' => e = .returned (.int .i64 (wrap64 (n + 1))) ∧ w.setCell ⟨d, i, none⟩ (.int .i64 (wrap64 (n + 1))) = w' := by
  have hadd := run_call_add (P := Tryz.prog) Tryz.func212 (by kernel_rfl) (by kernel_rfl) (by kernel_rfl) .i64 (by kernel_rfl) (w := w) (a := ⟨d, i, none⟩) (x := n) (y := 1) (s := wrap64 (n + 1)) hc hf (by simp [go_sem]; exact IntWalk.i64_left _)
  go_enter Tryz.func186, Tryz.ntmps186
  go_wp2
  go_ret
  exact ⟨rfl, rfl⟩

theorem steps_any (d : Nat) (R : Rp) (S : AS) (w : World) (h : At w d R S) :
    Calls Tryz.prog 75 #[.pointer (some ⟨d, 0, none⟩)] w fun e w' => e = .returned (.int .i64 S.steps) ∧ w = w' := by
  have c4 := (cells_all h).2.2.2.2.1
  go_enter Tryz.func75, Tryz.ntmps75
  go_wp2_with (go_at_call 132; refine (load_any _ _ _ _ c4).mono ?_; rintro e w' ⟨rfl, rfl⟩)
  go_ret
  exact ⟨rfl, rfl⟩

/-- A step: is the power out? -/
def AS.step (S : AS) : AS :=
  if S.armed then (if 0 < S.left then { S with steps := wrap64 (S.steps + 1), left := S.left - 1 } else { S with steps := wrap64 (S.steps + 1), on := false, armed := false, left := 0 })
  else { S with steps := wrap64 (S.steps + 1) }
def AS.stepE (S : AS) : Int := if S.armed then (if 0 < S.left then 0 else 13) else 0

set_option maxHeartbeats 400000 in
theorem step_any (d : Nat) (R : Rp) (S : AS) (w : World) (h : At w d R S) (hl : S.left ≤ 9223372036854775807) :
    Calls Tryz.prog 167 #[.pointer (some ⟨d, 0, none⟩)] w fun e w' => e = .returned (.int .i64 S.stepE) ∧ At w' d R S.step ∧ Fr (One d) w w' := by
  obtain ⟨c0, c1, c2, c3, c4, c5, c6, c7, c8, c9⟩ := cells_all h
  have f1 := h.blk.frozen 1
  have f3 := h.blk.frozen 3
  have f4 := h.blk.frozen 4
  by_cases ha : S.armed = true
  · by_cases hp : 0 < S.left
    · rw [ha] at c2
      have eS : S.step = { S with steps := wrap64 (S.steps + 1), left := S.left - 1 } := by unfold AS.step; rw [if_pos ha, if_pos hp]
      have eE : S.stepE = 0 := by unfold AS.stepE; rw [if_pos ha, if_pos hp]
      rw [eS, eE]
      clear eS eE ha
      go_enter Tryz.func167, Tryz.ntmps167
      go_wp2_with (go_at_call 186; refine (add_any _ _ _ _ c4 f4).mono ?_; rintro e w' ⟨rfl, rfl⟩)
      go_ret
      have hf : Fr (One d) w ((w.setCell ⟨d, 4, none⟩ (.int .i64 (wrap64 (S.steps + 1)))).setCell ⟨d, 3, none⟩ (.int .i64 (S.left - 1))) := (Fr.set0 d w 4 _).set1 3 _
      exact ⟨rfl, h.own hf ((h.blk.set_ 4 _).set_ 3 _) rfl rfl rfl rfl h.onn, hf⟩
    · rw [ha] at c2
      have eS : S.step = { S with steps := wrap64 (S.steps + 1), on := false, armed := false, left := 0 } := by unfold AS.step; rw [if_pos ha, if_neg hp]
      have eE : S.stepE = 13 := by unfold AS.stepE; rw [if_pos ha, if_neg hp]
      rw [eS, eE]
      clear eS eE ha
      go_enter Tryz.func167, Tryz.ntmps167
      go_wp2_with (go_at_call 186; refine (add_any _ _ _ _ c4 f4).mono ?_; rintro e w' ⟨rfl, rfl⟩)
      have hf : Fr (One d) w ((w.setCell ⟨d, 4, none⟩ (.int .i64 (wrap64 (S.steps + 1)))).setCell ⟨d, 1, none⟩ (.bool false)) := (Fr.set0 d w 4 _).set1 1 _
      have h1 : At _ d R { S with steps := wrap64 (S.steps + 1), on := false } := h.own hf ((h.blk.set_ 4 _).set_ 1 _) rfl rfl rfl rfl (fun e => by cases e)
      refine (arm_any d R _ (-1) _ h1).mono ?_
      rintro e w' ⟨rfl, h2, hf2⟩
      go_wp2
      go_ret
      exact ⟨rfl, h2, hf.trans hf2 (fun _ _ hj => hj)⟩
  · have c2' : w.cell? ⟨d, 2, none⟩ = some (.bool false) := by rw [c2]; simp [ha]
    clear c2
    have eS : S.step = { S with steps := wrap64 (S.steps + 1) } := by unfold AS.step; rw [if_neg ha]
    have eE : S.stepE = 0 := by unfold AS.stepE; rw [if_neg ha]
    rw [eS, eE]
    clear eS eE ha
    go_enter Tryz.func167, Tryz.ntmps167
    go_wp2_with (go_at_call 186; refine (add_any _ _ _ _ c4 f4).mono ?_; rintro e w' ⟨rfl, rfl⟩)
    go_ret
    have hf : Fr (One d) w (w.setCell ⟨d, 4, none⟩ (.int .i64 (wrap64 (S.steps + 1)))) := Fr.set0 d w 4 _
    exact ⟨rfl, h.own hf (h.blk.set_ 4 _) rfl rfl rfl rfl h.onn, hf⟩

end Go.Proofs.YtoaiofjcjjkfaaaGreatDoor
/- The tables of names and of files, asked and written; find. -/
namespace Go.Proofs.YtoaiofjcjjkfaaaGreatDoor
open Go.RowKit Go.Maps
set_option linter.unusedVariables false

/-! ### names, as a plain function -/
def look (D : DU) (s : List UInt8) : Option Int :=
  match D.atKey (.string s) .nil with
  | .lit (.int .i64 n) => some n
  | _ => none

theorem isKey (s : List UInt8) : WideAt.IsKeyLit (.string s) := by simp [WideAt.IsKeyLit]
theorem isKeyI (n : Int) : WideAt.IsKeyLit (.int .i64 n) := by simp [WideAt.IsKeyLit]
theorem key_ne {s t : List UInt8} (h : s ≠ t) : (Lit.string s) ≠ .string t := by simpa using h
theorem keyI_ne {s t : Int} (h : s ≠ t) : (Lit.int .i64 s) ≠ .int .i64 t := by simpa using h

theorem look_empty (s : List UInt8) : look (.map []) s = none := rfl
theorem look_put_same {D : DU} (h : IsMap D) (s : List UInt8) (n : Int) : look (D.put (.string s) (.lit (.int .i64 n))) s = some n := by
  unfold look; rw [atKey_put_same h (isKey s)]
theorem look_put_other {D : DU} {s t : List UInt8} (h : t ≠ s) (d : DU) : look (D.put (.string s) d) t = look D t := by
  unfold look; rw [atKey_put_other (key_ne h)]
theorem look_del_same {D : DU} (s : List UInt8) : look (D.del (.string s)) s = none := by
  unfold look; rw [atKey_del_same]
theorem look_del_other {D : DU} {s t : List UInt8} (h : t ≠ s) : look (D.del (.string s)) t = look D t := by
  unfold look; rw [atKey_del_other (key_ne h)]

/-- All that the table holds are numbers. -/
def Ints (D : DU) : Prop := ∀ s, has D (.string s) = true → ∃ n, ∀ z, D.atKey (.string s) z = .lit (.int .i64 n)
theorem atKey_any {D : DU} {k : Lit} (h : has D k = true) (y z : DU) : D.atKey k y = D.atKey k z := by
  cases D with
  | map es =>
    rw [has_eq, List.any_eq_true] at h
    obtain ⟨p, hp, hs⟩ := h
    simp only [DataW.atKey]
    cases hf : es.find? (fun p => p.1.sameKey k) with
    | some q => rfl
    | none => rw [List.find?_eq_none] at hf; exact absurd hs (hf p hp)
  | _ => simp [has] at h
theorem key9 (l : List UInt8) (hl : l.length ≤ maxLen) : keyOf Tryz.prog 9 (.string ⟨l.toArray⟩) = some (.string l) := by
  have := WideMaps.keyOf_string_mk (P := Tryz.prog) (k := 9) Tryz.underlying9 (s := ⟨l.toArray⟩) (by simpa [ByteArray.size] using hl)
  simpa using this
theorem key3 (n : Int) (hn : (Lit.int .i64 n).wf = true) : keyOf Tryz.prog 3 (.int .i64 n) = some (.int .i64 n) := keyOf_int_mk Tryz.underlying3 hn

theorem owns_key {w : World} {b n : Nat} {D : DU} {P : Program} {k : TypeId} {R : Value → Option (DU × List MemPlace)} (h : w.ownsMap P k R b n D) {kl : Lit} (hh : has D kl = true) : ∃ key, keyOf P k key = some kl := by
  obtain ⟨es, clock, hb, F, hs, rfl⟩ := h
  rw [has_eq, List.any_eq_true] at hh
  obtain ⟨p, hp, hsm⟩ := hh
  have hp' := mem_sorted.1 hp
  obtain ⟨x, hx, rfl⟩ := List.mem_map.1 hp'
  obtain ⟨y, hy⟩ := F.reads x hx
  have h1 := WideElems.rd_key hy
  rw [WideElems.rg_of hy] at hsm
  refine ⟨x.key, ?_⟩
  rw [h1]
  by_cases e : y.1 = kl
  · rw [e]
  · rw [sameKey_ne e] at hsm; cases hsm

theorem owns_ints {w : World} {b n : Nat} {D : DU} (h : w.ownsMap Tryz.prog 9 (plainElem Tryz.prog 3) b n D) : Ints D := by
  intro s hs
  obtain ⟨key, hk⟩ := owns_key h hs
  obtain ⟨c, _, hat, _⟩ := h.lookup_int law9 Tryz.underlying100 Tryz.underlying3 (Tryz.zeroValue3 w) hk
  exact ⟨c, fun z => by rw [atKey_any hs z (.lit (.int .i64 0)), hat]⟩
theorem MapAt.ints {w : World} {m : Option Nat} {D : DU} (h : MapAt w Tryz.prog 9 (plainElem Tryz.prog 3) m D) : Ints D := by
  cases m with
  | none => rw [show D = .map [] from h]; intro s hs; simp [has] at hs
  | some b => exact owns_ints (b := b) h
theorem has_look {D : DU} (h : Ints D) (s : List UInt8) : has D (.string s) = (look D s).isSome := by
  cases hh : has D (.string s) with
  | true =>
    obtain ⟨n, hn⟩ := h s hh
    unfold look; rw [hn .nil]; rfl
  | false =>
    unfold look; rw [atKey_of_not_has hh]; rfl
theorem look_some {D : DU} (h : Ints D) {s : List UInt8} {n : Int} (hl : look D s = some n) (z : DU) : D.atKey (.string s) z = .lit (.int .i64 n) := by
  have hh : has D (.string s) = true := by rw [has_look h, hl]; rfl
  obtain ⟨m, hm⟩ := h s hh
  unfold look at hl
  rw [hm .nil] at hl
  cases hl
  exact hm z

/-! ### the operations -/
theorem run_look_some {w : World} {b n : Nat} {D : DU} (h : w.ownsMap Tryz.prog 9 (plainElem Tryz.prog 3) b n D) {l : List UInt8} (hl : l.length ≤ maxLen) {c : Int} (hc : look D l = some c) :
    (Instr.lookup 100 (.map (some b)) (.string ⟨l.toArray⟩) true).run Tryz.prog w = .ok (.tuple #[.int .i64 c, .bool true]) w := by
  have hi := owns_ints h
  obtain ⟨v, ps, hr, hv⟩ := h.look_ok law9 Tryz.underlying100 (Tryz.zeroValue3 w) (plainElem_int Tryz.underlying3 (by decide)) (key9 l hl)
  rw [look_some hi hc] at hv
  obtain ⟨c', rfl, hc', _⟩ := plainElem_int_inv Tryz.underlying3 hv
  have : c = c' := by simpa using congrArg Prod.fst hc'
  subst this
  rw [hr, has_look hi, hc]; rfl
theorem run_look_none {w : World} {b n : Nat} {D : DU} (h : w.ownsMap Tryz.prog 9 (plainElem Tryz.prog 3) b n D) {l : List UInt8} (hl : l.length ≤ maxLen) (hc : look D l = none) :
    (Instr.lookup 100 (.map (some b)) (.string ⟨l.toArray⟩) true).run Tryz.prog w = .ok (.tuple #[.int .i64 0, .bool false]) w := by
  have hi := owns_ints h
  have hh : has D (.string l) = false := by rw [has_look hi, hc]; rfl
  obtain ⟨v, ps, hr, hv⟩ := h.look_ok law9 Tryz.underlying100 (Tryz.zeroValue3 w) (plainElem_int Tryz.underlying3 (by decide)) (key9 l hl)
  rw [atKey_of_not_has hh] at hv
  obtain ⟨c', rfl, hc', _⟩ := plainElem_int_inv Tryz.underlying3 hv
  have : (0 : Int) = c' := by simpa using congrArg Prod.fst hc'
  subst this
  rw [hr, hh]
theorem run_look1_some {w : World} {b n : Nat} {D : DU} (h : w.ownsMap Tryz.prog 9 (plainElem Tryz.prog 3) b n D) {l : List UInt8} (hl : l.length ≤ maxLen) {c : Int} (hc : look D l = some c) :
    (Instr.lookup 100 (.map (some b)) (.string ⟨l.toArray⟩) false).run Tryz.prog w = .ok (.int .i64 c) w := by
  have hi := owns_ints h
  obtain ⟨c', hr, hat, _⟩ := h.lookup_int law9 Tryz.underlying100 Tryz.underlying3 (Tryz.zeroValue3 w) (key9 l hl)
  rw [look_some hi hc] at hat
  have : c = c' := by simpa using hat
  subst this
  exact hr
theorem run_file {w : World} {b n : Nat} {D : DU} (h : w.ownsMap Tryz.prog 3 ptrElem b n D) {c : Int} (hw : (Lit.int .i64 c).wf = true) {g : Nat} (hc : ∀ z, D.atKey (.int .i64 c) z = .lit (.int .i64 g)) :
    (Instr.lookup 101 (.map (some b)) (.int .i64 c) false).run Tryz.prog w = .ok (.pointer (some ⟨g, 0, none⟩)) w := by
  obtain ⟨v, ps, hr, hv⟩ := h.lookup law3 Tryz.underlying101 (Tryz.zeroValue117 w) (zd := .nil) (zp := []) rfl (key3 c hw)
  rw [hc] at hv
  rw [hr, ptrElem_inv hv]

section
variable {ops : Array Oper} {rest : List Oper} {o : Oper} {a : Act} {Q : Exit → Act → World → Prop} {w : World}
theorem wpList_run (hg : o.guard = none) (t : TypeId) (m x : Operand) (ok : Bool) (hop : o.op = Op.lookup t m x ok) (vm vx v : Value) (hm : a.eval m = vm) (hx : a.eval x = vx)
    (hr : (Instr.lookup t vm vx ok).run Tryz.prog w = .ok v w) (hK : wpList Tryz.prog ops Q rest (a.put o.dst v) w) : wpList Tryz.prog ops Q (o :: rest) a w := by
  refine wpList_plain hg fun K' hK' => ?_
  unfold Oper.wp
  simp [execOp, hop, hm, hx, hr, Result.andThen]
  exact hK' _ _ hK
end

/-! ### find -/
theorem wf64 {n : Int} (h0 : -9223372036854775808 ≤ n) (h1 : n ≤ 9223372036854775807) : (Lit.int .i64 n).wf = true := WalkArith.wf_i64 ⟨h0, h1⟩

theorem At.alloc {w : World} {d : Nat} {R : Rp} {S : AS} (h : At w d R S) (o : Obj) : At (w.alloc o) d R S := h.keep ((Fr.refl _ w).alloc o)

theorem check_l (d : Nat) (ad : Addr) (l : List UInt8) (on : Bool) (E : Int) (w : World) (hE : checkOf on [l] = E) (hl : l.length ≤ maxLen) (hon : w.cell? ⟨d, 1, none⟩ = some (.bool on)) (hc : w.cell? ad = some (.string ⟨l.toArray⟩)) :
    Calls Tryz.prog 165 #[.pointer (some ⟨d, 0, none⟩), .slice (some ad) 1 1] w fun e w' => e = .returned (.int .i64 E) ∧ w = w' := by
  refine (check_one d ad ⟨l.toArray⟩ w on hon (by simpa [ByteArray.size] using hl) hc).mono ?_
  rintro e w' ⟨he, hw⟩
  exact ⟨by rw [he, ← hE], hw⟩

/-- check, called with one name that lies in a new row: what find and Write do. -/
theorem check_new (d : Nat) (R : Rp) (S : AS) (l : List UInt8) (E : Int) (w : World) (h : At w d R S) (hE : checkOf S.on [l] = E) (hl : l.length ≤ maxLen) :
    Calls Tryz.prog 165 #[.pointer (some ⟨d, 0, none⟩), .slice (some ⟨w.heap.size, 0, none⟩) 1 1] (w.alloc (.cells #[.string ⟨l.toArray⟩] 9)) fun e w' => e = .returned (.int .i64 E) ∧ w.alloc (.cells #[.string ⟨l.toArray⟩] 9) = w' :=
  check_l d _ l S.on E _ hE hl (cells_all (h.alloc _)).2.1 (by simp)

set_option maxHeartbeats 400000 in
theorem find_bad (d : Nat) (R : Rp) (S : AS) (l : List UInt8) (E : Int) (w : World) (h : At w d R S) (hl : l.length ≤ maxLen) (hE : checkOf S.on [l] = E) (hb : E ≠ 0) :
    Calls Tryz.prog 131 #[.pointer (some ⟨d, 0, none⟩), .string ⟨l.toArray⟩] w fun e w' => e = .returned (.tuple #[.pointer none, .int .i64 E]) ∧ Fr No w w' := by
  have hne2 : (E != 0) = true := by simpa using hb
  have hcon := check_new d R S l E w h hE hl
  clear hE hb hl
  go_enter Tryz.func131, Tryz.ntmps131
  go_wp2_with fail
  refine hcon.mono ?_
  rintro e w' ⟨rfl, rfl⟩
  go_wp2
  go_ret2
  exact ⟨rfl, (Fr.refl _ _).alloc _⟩

set_option maxHeartbeats 400000 in
theorem find_none (d : Nat) (R : Rp) (S : AS) (l : List UInt8) (w : World) (h : At w d R S) (hl : l.length ≤ maxLen) (hE : checkOf S.on [l] = 0) (hn : look S.names l = none) :
    Calls Tryz.prog 131 #[.pointer (some ⟨d, 0, none⟩), .string ⟨l.toArray⟩] w fun e w' => e = .returned (.tuple #[.pointer none, .int .i64 11]) ∧ Fr No w w' := by
  have hcon := check_new d R S l 0 w h hE hl
  have hon : S.on = true := by
    cases ho : S.on
    · rw [ho] at hE; simp [checkOf] at hE
    · rfl
  obtain ⟨nb, fb, e1, e2⟩ := h.onn hon
  have ha := h.alloc (.cells #[.string ⟨l.toArray⟩] 9)
  have hnm := ha.names
  rw [e1] at hnm
  have hrun := run_look_none (b := nb) hnm hl hn
  have c5 := (cells_all ha).2.2.2.2.2.1
  rw [e1] at c5
  clear hE hl hn h ha hnm hon e1 e2
  go_enter Tryz.func131, Tryz.ntmps131
  go_wp2_with fail
  refine hcon.mono ?_
  rintro e w' ⟨rfl, rfl⟩
  go_wp2
  go_ret2
  exact ⟨rfl, (Fr.refl _ _).alloc _⟩

set_option maxHeartbeats 400000 in
theorem find_some (d : Nat) (R : Rp) (S : AS) (l : List UInt8) (n : Int) (r : FR) (w : World) (h : At w d R S) (hl : l.length ≤ maxLen) (hE : checkOf S.on [l] = 0) (hn : look S.names l = some n) (hr : S.file n = some r) (hw : (Lit.int .i64 n).wf = true) :
    Calls Tryz.prog 131 #[.pointer (some ⟨d, 0, none⟩), .string ⟨l.toArray⟩] w fun e w' => e = .returned (.tuple #[.pointer (some ⟨(R.rc n).1, 0, none⟩), .int .i64 0]) ∧ Fr No w w' := by
  have hcon := check_new d R S l 0 w h hE hl
  have hon : S.on = true := by
    cases ho : S.on
    · rw [ho] at hE; simp [checkOf] at hE
    · rfl
  obtain ⟨nb, fb, e1, e2⟩ := h.onn hon
  have ha := h.alloc (.cells #[.string ⟨l.toArray⟩] 9)
  have hnm := ha.names
  have hfl := ha.files
  rw [e1] at hnm
  rw [e2] at hfl
  have hrun := run_look_some (b := nb) hnm hl hn
  have hfd := ha.fd n
  rw [hr] at hfd
  have hrun2 := run_file (b := fb) hfl hw hfd.1
  have c5 := (cells_all ha).2.2.2.2.2.1
  have c8 := (cells_all ha).2.2.2.2.2.2.2.2.1
  rw [e1] at c5
  rw [e2] at c8
  clear hE hl hn h ha hnm hon e1 e2 hfl hfd hr hw
  go_enter Tryz.func131, Tryz.ntmps131
  go_wp2_with fail
  refine hcon.mono ?_
  rintro e w' ⟨rfl, rfl⟩
  go_wp2
  go_ret2
  exact ⟨rfl, (Fr.refl _ _).alloc _⟩

end Go.Proofs.YtoaiofjcjjkfaaaGreatDoor
/- Files' bytes: read, made firm; what follows from one file's turning. -/
namespace Go.Proofs.YtoaiofjcjjkfaaaGreatDoor
open Go.RowKit Go.Maps
set_option linter.unusedVariables false

theorem info5 : (Tryz.prog.info? 5).map (fun i => (i.zero, i.size, i.bytes)) = some (some (.int .u8 0), 1, 1) := by kernel_rfl

/-- The bytes of an owned row, as a text. -/
theorem run_text {w : World} {base : Nat} {v : Value} {l : List UInt8} (h : w.ownsRow base 5 1 v l.length (l.map byteV)) :
    (convert 65 9 v).run Tryz.prog w = .ok (.string ⟨l.toArray⟩) w := by
  rcases h.2 with ⟨rfl, hl⟩ | ⟨g, cap, cur, rfl, hb, hh, hnc, hcm, hs, ht⟩
  · have : l = [] := List.eq_nil_of_length_eq_zero hl
    subst this
    exact run_convert_bytes_nil w 65 5 Tryz.underlying65 Tryz.underlying5 0 0 9 Tryz.underlying9
  · have hc := h.cells (g := g) rfl
    have hcell : ∀ i, i < l.length → w.cell? ⟨g, 0 + i, none⟩ = some (.int .u8 ((l.map fun u => (u.toNat : Int)).getD i 0)) := by
      intro i hi
      have h1 := hc i (byteV l[i]) (by simp [List.getElem?_eq_getElem hi])
      have e : ((⟨g, 0, none⟩ : Addr).add i) = ⟨g, 0 + i, none⟩ := by unfold Addr.add; split <;> simp_all
      rw [e] at h1
      rw [h1]
      simp [byteV, List.getD, List.getElem?_eq_getElem hi]
    have h2 := run_convert_bytes_arg w 65 5 Tryz.underlying65 Tryz.underlying5 g 0 l.length cap (l.map fun u => (u.toNat : Int)) (List.length_map _) hcell 9 Tryz.underlying9
    refine h2.trans ?_
    have e2 : strOfNums (l.map fun u => (u.toNat : Int)) = ⟨l.toArray⟩ := by
      unfold strOfNums
      rw [List.map_map]
      have : ((fun n : Int => UInt8.ofNat n.toNat) ∘ fun u : UInt8 => (u.toNat : Int)) = id := by
        funext u; simp
      rw [this, List.map_id]
    rw [e2]

theorem len_row {w : World} {base : Nat} {v : Value} {n : Nat} {e : TypeId} {size : Nat} {xs : List Value} (h : w.ownsRow base e size v n xs) : ∃ A c, v = .slice A n c := by
  rcases h.2 with ⟨rfl, rfl⟩ | ⟨g, cap, cur, rfl, _⟩
  · exact ⟨_, _, rfl⟩
  · exact ⟨_, _, rfl⟩

/-- A disk, well made: what the document's words keep. -/
structure WF (S : AS) : Prop where
  left : 0 ≤ S.left ∧ S.left ≤ 9223372036854775807
  room : 0 ≤ S.room ∧ S.room ≤ 16777216
  last : 0 ≤ S.last ∧ S.last ≤ 4611686018427387904
  ref : ∀ l n, look S.names l = some n → ∃ r, S.file n = some r
  file : ∀ n r, S.file n = some r → 1 ≤ n ∧ n ≤ S.last ∧ r.firm ≤ r.bytes.length ∧ r.bytes.length ≤ 16777216

theorem WF.wf {S : AS} (h : WF S) {n : Int} {r : FR} (hr : S.file n = some r) : (Lit.int .i64 n).wf = true := by
  have h1 := h.file n r hr
  have h2 := h.last
  exact wf64 (by omega) (by omega)

/-- What a call leaves of a disk. -/
structure PR (d : Nat) (R : Rp) (S : AS) (w : World) (R' : Rp) (S' : AS) (w' : World) : Prop where
  at_ : At w' d R' S'
  fr : Fr (foot d R S) w w'
  foot : ∀ k, foot d R' S' k → foot d R S k ∨ w.heap.size ≤ k
def Post (d : Nat) (R : Rp) (S : AS) (w : World) (S' : AS) (w' : World) : Prop := ∃ R', PR d R S w R' S' w'
theorem PR.post {d : Nat} {R R' : Rp} {S S' : AS} {w w' : World} (h : PR d R S w R' S' w') : Post d R S w S' w' := ⟨R', h⟩
theorem PR.refl {d : Nat} {R : Rp} {S : AS} {w : World} (h : At w d R S) : PR d R S w R S w := ⟨h, Fr.refl _ _, fun k hk => .inl hk⟩
theorem PR.same {d : Nat} {R : Rp} {S : AS} {w w' : World} (h : At w d R S) (hf : Fr No w w') : PR d R S w R S w' := ⟨h.keep hf, hf.any, fun k hk => .inl hk⟩
theorem PR.own {d : Nat} {R : Rp} {S S' : AS} {w w' : World} (h : At w' d R S') (hf : Fr (One d) w w') (e : S'.file = S.file) : PR d R S w R S' w' :=
  ⟨h, hf.mono (fun k _ hk => .inl hk), fun k hk => by
    rcases hk with hk | hk | hk | hk | hk | ⟨n, r, hr, hk⟩
    · exact .inl (.inl hk)
    · exact .inl (.inr (.inl hk))
    · exact .inl (.inr (.inr (.inl hk)))
    · exact .inl (.inr (.inr (.inr (.inl hk))))
    · exact .inl (.inr (.inr (.inr (.inr (.inl hk)))))
    · exact .inl (.inr (.inr (.inr (.inr (.inr ⟨n, r, e ▸ hr, hk⟩)))))⟩
theorem PR.trans {d : Nat} {R R1 R2 : Rp} {S S1 S2 : AS} {w w1 w2 : World} (h : PR d R S w R1 S1 w1) (k : PR d R1 S1 w1 R2 S2 w2) : PR d R S w R2 S2 w2 := by
  obtain ⟨h1, f1, g1⟩ := h
  obtain ⟨h2, f2, g2⟩ := k
  refine ⟨h2, f1.trans f2 (fun j hj hf => (g1 j hf).resolve_right (by omega)), fun j hj => ?_⟩
  rcases g2 j hj with hj | hj
  · exact g1 j hj
  · exact .inr (by have := f1.size; omega)

/-! ### Read -/
set_option maxHeartbeats 400000 in
theorem read_bad (d : Nat) (R : Rp) (S : AS) (l : List UInt8) (E : Int) (w : World) (h : At w d R S) (hl : l.length ≤ maxLen) (hE : checkOf S.on [l] = E) (hb : E ≠ 0) :
    Calls Tryz.prog 73 #[.pointer (some ⟨d, 0, none⟩), .string ⟨l.toArray⟩] w fun e w' => e = .returned (.tuple #[.string ⟨[].toArray⟩, .int .i64 E]) ∧ Fr No w w' := by
  have hcon := find_bad d R S l E w h hl hE hb
  have hne2 : (E != 0) = true := by simpa using hb
  clear hE hb hl h
  go_enter Tryz.func73, Tryz.ntmps73
  go_wp2_with fail
  refine hcon.mono ?_
  rintro e w' ⟨rfl, hf⟩
  have HF := Lib.hid hf; clear hf
  go_wp2
  go_ret2
  exact ⟨rfl, HF.out⟩

set_option maxHeartbeats 400000 in
theorem read_none (d : Nat) (R : Rp) (S : AS) (l : List UInt8) (w : World) (h : At w d R S) (hl : l.length ≤ maxLen) (hE : checkOf S.on [l] = 0) (hn : look S.names l = none) :
    Calls Tryz.prog 73 #[.pointer (some ⟨d, 0, none⟩), .string ⟨l.toArray⟩] w fun e w' => e = .returned (.tuple #[.string ⟨[].toArray⟩, .int .i64 11]) ∧ Fr No w w' := by
  have hcon := find_none d R S l w h hl hE hn
  clear hE hn hl h
  go_enter Tryz.func73, Tryz.ntmps73
  go_wp2_with fail
  refine hcon.mono ?_
  rintro e w' ⟨rfl, hf⟩
  have HF := Lib.hid hf; clear hf
  go_wp2
  go_ret2
  exact ⟨rfl, HF.out⟩

set_option maxHeartbeats 400000 in
theorem read_some (d : Nat) (R : Rp) (S : AS) (l : List UInt8) (n : Int) (r : FR) (w : World) (h : At w d R S) (hW : WF S) (hl : l.length ≤ maxLen) (hE : checkOf S.on [l] = 0) (hn : look S.names l = some n) (hr : S.file n = some r) :
    Calls Tryz.prog 73 #[.pointer (some ⟨d, 0, none⟩), .string ⟨l.toArray⟩] w fun e w' => e = .returned (.tuple #[.string ⟨r.bytes.toArray⟩, .int .i64 0]) ∧ Fr No w w' := by
  have hcon := find_some d R S l n r w h hl hE hn hr (hW.wf hr)
  go_enter Tryz.func73, Tryz.ntmps73
  go_wp2_with fail
  refine hcon.mono ?_
  rintro e w' ⟨rfl, hf⟩
  have h1 := h.keep hf
  have hfd := h1.fd n
  rw [hr] at hfd
  obtain ⟨_, hb, ho⟩ := hfd
  have c0 := hb.cell 0
  have hcv := run_text ho
  have HF := Lib.hid hf
  have c0' : w'.cell? ⟨(R.rc n).1, 0, none⟩ = some (R.rc n).2 := c0
  clear hf h h1 hb ho c0 hE hn hr hW hl hcon
  go_wp2
  go_ret2
  exact ⟨rfl, HF.out⟩

end Go.Proofs.YtoaiofjcjjkfaaaGreatDoor
/- One file turns: its bytes, and which are firm. Sync, Cut, and what Write does to a file that is there. -/
namespace Go.Proofs.YtoaiofjcjjkfaaaGreatDoor
open Go.RowKit Go.Maps
set_option linter.unusedVariables false

def upd {α : Type} (f : Int → α) (n : Int) (x : α) (m : Int) : α := if m = n then x else f m
theorem upd_same {α : Type} (f : Int → α) (n : Int) (x : α) : upd f n x n = x := by simp [upd]
theorem upd_other {α : Type} (f : Int → α) {n m : Int} (x : α) (h : m ≠ n) : upd f n x m = f m := by simp [upd, h]

/-- The blocks of file n. -/
def fileB (R : Rp) (n : Int) (k : Nat) : Prop := k = (R.rc n).1 ∨ (R.rc n).2.ownBlock = some k

theorem At.other {w : World} {d : Nat} {R : Rp} {S : AS} (h : At w d R S) {n : Int} {r : FR} (hr : S.file n = some r) {k : Nat} (hk : fileB R n k) :
    k ≠ d ∧ R.nm ≠ some k ∧ R.fm ≠ some k ∧ R.fb ≠ some k ∧ R.lv.ownBlock ≠ some k ∧ ∀ m q, m ≠ n → S.file m = some q → k ≠ (R.rc m).1 ∧ (R.rc m).2.ownBlock ≠ some k := by
  have hf := h.fd n
  rw [hr] at hf
  obtain ⟨_, h2, h3⟩ := hf
  have hap := h.apart.2.2.2.2 n r hr
  have hcells : ∃ cs t fz, w.heap[k]? = some (.cells cs t fz) := by
    rcases hk with rfl | hk
    · exact ⟨_, _, _, h2⟩
    · obtain ⟨cur, hc⟩ := own_row h3 hk
      exact ⟨_, _, _, hc⟩
  have mp : ∀ {K : TypeId} {E : Value → Option (DU × List MemPlace)} {m : Option Nat} {D : DU}, MapAt w Tryz.prog K E m D → m ≠ some k := by
    rintro K E m D hm rfl
    obtain ⟨es, c, he⟩ := owns_map (b := k) hm
    obtain ⟨cs, t, fz, hc⟩ := hcells
    exact map_ne_blk he hc rfl
  refine ⟨?_, mp h.names, mp h.firm, mp h.files, fun e => ?_, fun m q hm hq => ?_⟩
  · rcases hk with rfl | hk
    · exact hap.1
    · intro e; subst e; exact hap.2 hk
  · rcases hk with rfl | hk
    · exact own_blk_ne h.loose e h2 (by decide) rfl
    · exact own_own_ne h.loose e h3 hk (by decide) rfl
  · have hf' := h.fd m
    rw [hq] at hf'
    obtain ⟨_, h2', h3'⟩ := hf'
    have ap := h.ap n m r q (Ne.symm hm) hr hq
    rcases hk with rfl | hk
    · exact ⟨ap.1, fun e => own_blk_ne h3' e h2 (by decide) rfl⟩
    · exact ⟨own_blk_ne h3 hk h2' (by decide), ap.2 k hk⟩

/-- File n has turned, and nothing else of the disk. -/
theorem At.file {w w' : World} {d : Nat} {R : Rp} {S : AS} (h : At w d R S) {n : Int} {r r' : FR} {v' : Value} (hr : S.file n = some r) (hf : Fr (fileB R n) w w')
    (hb : Blk w' (R.rc n).1 126 #[v', .int .i64 r'.firm]) (ho : w'.ownsRow 0 5 1 v' r'.bytes.length (r'.bytes.map byteV)) (hv : ∀ k, v'.ownBlock = some k → (R.rc n).2.ownBlock = some k ∨ w.heap.size ≤ k) :
    At w' d { R with rc := upd R.rc n ((R.rc n).1, v') } { S with file := upd S.file n (some r') } := by
  have same : ∀ k, k < w.heap.size → ¬ fileB R n k → w'.heap[k]? = w.heap[k]? := hf.block
  have lt := h.lt
  have oth := fun k (hk : fileB R n k) => h.other hr hk
  have hfd := h.fd n
  rw [hr] at hfd
  exact {
    blk := h.blk.of (same _ (lt _ (.inl rfl)) fun hk => (oth _ hk).1 rfl)
    names := h.names.of fun b hb => same _ (lt _ (.inr (.inl hb))) fun hk => (oth _ hk).2.1 hb
    firm := h.firm.of fun b hb => same _ (lt _ (.inr (.inr (.inl hb)))) fun hk => (oth _ hk).2.2.1 hb
    files := h.files.of fun b hb => same _ (lt _ (.inr (.inr (.inr (.inl hb))))) fun hk => (oth _ hk).2.2.2.1 hb
    loose := own_of h.loose fun b hb => same _ (lt _ (.inr (.inr (.inr (.inr (.inl hb)))))) fun hk => (oth _ hk).2.2.2.2.1 hb
    fd := fun m => by
      by_cases e : m = n
      · subst e
        show FileAt w' _ _ (upd S.file m (some r') m)
        rw [upd_same]
        refine ⟨fun z => ?_, ?_, ?_⟩
        · show R.FD.atKey _ z = .lit (.int .i64 (upd R.rc m ((R.rc m).1, v') m).1)
          rw [upd_same]; exact hfd.1 z
        · show Blk w' (upd R.rc m ((R.rc m).1, v') m).1 126 #[(upd R.rc m ((R.rc m).1, v') m).2, _]
          rw [upd_same]; exact hb
        · show w'.ownsRow 0 5 1 (upd R.rc m ((R.rc m).1, v') m).2 _ _
          rw [upd_same]; exact ho
      · show FileAt w' _ _ (upd S.file n (some r') m)
        rw [upd_other _ _ e]
        have hm := h.fd m
        cases hq : S.file m with
        | none => rw [hq] at hm; exact hm
        | some q =>
          rw [hq] at hm
          obtain ⟨h1, h2, h3⟩ := hm
          refine ⟨fun z => ?_, ?_, ?_⟩
          · show R.FD.atKey _ z = .lit (.int .i64 (upd R.rc n ((R.rc n).1, v') m).1)
            rw [upd_other _ _ e]; exact h1 z
          · show Blk w' (upd R.rc n ((R.rc n).1, v') m).1 126 #[(upd R.rc n ((R.rc n).1, v') m).2, _]
            rw [upd_other _ _ e]
            exact h2.of (same _ h2.lt fun hk => ((oth _ hk).2.2.2.2.2 m q e hq).1 rfl)
          · show w'.ownsRow 0 5 1 (upd R.rc n ((R.rc n).1, v') m).2 _ _
            rw [upd_other _ _ e]
            exact own_of h3 fun k hk => same k (h3.lt k hk).2 fun hf => ((oth _ hf).2.2.2.2.2 m q e hq).2 hk
    ne1 := h.ne1
    ne2 := h.ne2
    ne3 := h.ne3
    ap := fun m1 m2 q1 q2 hne h1 h2 => by
      show (upd R.rc n ((R.rc n).1, v') m1).1 ≠ (upd R.rc n ((R.rc n).1, v') m2).1 ∧ ∀ k, (upd R.rc n ((R.rc n).1, v') m1).2.ownBlock = some k → (upd R.rc n ((R.rc n).1, v') m2).2.ownBlock ≠ some k
      have h1' : upd S.file n (some r') m1 = some q1 := h1
      have h2' : upd S.file n (some r') m2 = some q2 := h2
      by_cases e1 : m1 = n
      · subst e1
        have e2 : m2 ≠ m1 := Ne.symm hne
        rw [upd_other _ _ e2] at h2'
        rw [upd_same, upd_other _ _ e2]
        have ap := h.ap m1 m2 r q2 hne hr h2'
        have hm := h.fd m2
        rw [h2'] at hm
        refine ⟨ap.1, fun k hk hk2 => ?_⟩
        rcases hv k hk with hk' | hk'
        · exact ap.2 k hk' hk2
        · have := (hm.2.2.lt k hk2).2; omega
      · rw [upd_other _ _ e1] at h1'
        rw [upd_other _ _ e1]
        by_cases e2 : m2 = n
        · subst e2
          rw [upd_same]
          have ap := h.ap m1 m2 q1 r hne h1' hr
          have hm := h.fd m1
          rw [h1'] at hm
          refine ⟨ap.1, fun k hk hk2 => ?_⟩
          rcases hv k hk2 with hk' | hk'
          · exact ap.2 k hk hk'
          · have := (hm.2.2.lt k hk).2; omega
        · rw [upd_other _ _ e2] at h2'
          rw [upd_other _ _ e2]
          exact h.ap m1 m2 q1 q2 hne h1' h2'
    onn := h.onn }

theorem PR.file {w w' : World} {d : Nat} {R : Rp} {S : AS} (h : At w d R S) {n : Int} {r r' : FR} {v' : Value} (hr : S.file n = some r) (hf : Fr (fileB R n) w w')
    (hb : Blk w' (R.rc n).1 126 #[v', .int .i64 r'.firm]) (ho : w'.ownsRow 0 5 1 v' r'.bytes.length (r'.bytes.map byteV)) (hv : ∀ k, v'.ownBlock = some k → (R.rc n).2.ownBlock = some k ∨ w.heap.size ≤ k) :
    PR d R S w { R with rc := upd R.rc n ((R.rc n).1, v') } { S with file := upd S.file n (some r') } w' := by
  refine ⟨h.file hr hf hb ho hv, hf.mono fun k _ hk => .inr (.inr (.inr (.inr (.inr ⟨n, r, hr, hk⟩)))), fun k hk => ?_⟩
  rcases hk with hk | hk | hk | hk | hk | ⟨m, q, hq, hk⟩
  · exact .inl (.inl hk)
  · exact .inl (.inr (.inl hk))
  · exact .inl (.inr (.inr (.inl hk)))
  · exact .inl (.inr (.inr (.inr (.inl hk))))
  · exact .inl (.inr (.inr (.inr (.inr (.inl hk)))))
  · have hq' : upd S.file n (some r') m = some q := hq
    have hk' : k = (upd R.rc n ((R.rc n).1, v') m).1 ∨ (upd R.rc n ((R.rc n).1, v') m).2.ownBlock = some k := hk
    by_cases e : m = n
    · subst e
      rw [upd_same] at hk'
      rcases hk' with hk' | hk'
      · exact .inl (.inr (.inr (.inr (.inr (.inr ⟨m, r, hr, .inl hk'⟩)))))
      · rcases hv k hk' with h1 | h1
        · exact .inl (.inr (.inr (.inr (.inr (.inr ⟨m, r, hr, .inr h1⟩)))))
        · exact .inr h1
    · rw [upd_other _ _ e] at hq' hk'
      exact .inl (.inr (.inr (.inr (.inr (.inr ⟨m, q, hq', hk'⟩)))))

end Go.Proofs.YtoaiofjcjjkfaaaGreatDoor
/- Sync, and Cut. -/
namespace Go.Proofs.YtoaiofjcjjkfaaaGreatDoor
open Go.RowKit Go.Maps
set_option linter.unusedVariables false

theorem step_same (S : AS) : S.step.names = S.names ∧ S.step.firm = S.firm ∧ S.step.loose = S.loose ∧ S.step.file = S.file ∧ S.step.room = S.room ∧ S.step.last = S.last := by
  unfold AS.step; split
  · split <;> exact ⟨rfl, rfl, rfl, rfl, rfl, rfl⟩
  · exact ⟨rfl, rfl, rfl, rfl, rfl, rfl⟩
theorem step_left {S : AS} (h : 0 ≤ S.left ∧ S.left ≤ 9223372036854775807) : 0 ≤ S.step.left ∧ S.step.left ≤ 9223372036854775807 := by
  unfold AS.step; split
  · split <;> simp <;> omega
  · exact h
theorem WF.step {S : AS} (h : WF S) : WF S.step := by
  obtain ⟨e1, e2, e3, e4, e5, e6⟩ := step_same S
  exact ⟨step_left h.left, by rw [e5]; exact h.room, by rw [e6]; exact h.last, by rw [e1, e4]; exact h.ref, by rw [e4, e6]; exact h.file⟩

/-- What Sync does where there is nothing against it. -/
def AS.synced (S : AS) (n : Int) (r : FR) : AS := { S with file := upd S.file n (some { bytes := r.bytes, firm := r.bytes.length }) }
def AS.sync (S : AS) (l : List UInt8) : AS × Int :=
  if checkOf S.on [l] = 0 then
    match look S.names l with
    | none => (S, 11)
    | some n =>
      match S.file n with
      | none => (S, 11)
      | some r => if S.stepE = 0 then (S.step.synced n r, 0) else (S.step, S.stepE)
  else (S, checkOf S.on [l])

theorem stepE_01 (S : AS) : S.stepE = 0 ∨ S.stepE = 13 := by
  unfold AS.stepE; split
  · split
    · exact .inl rfl
    · exact .inr rfl
  · exact .inl rfl

theorem row_len {v : Value} {w : World} {base : Nat} {l : List UInt8} (h : w.ownsRow base 5 1 v l.length (l.map byteV)) : ∃ A c, v = .slice A l.length c := len_row h

set_option maxHeartbeats 400000 in
theorem sync_err (d : Nat) (R : Rp) (S : AS) (l : List UInt8) (v : Option Addr) (E : Int) (w : World) (hE : E ≠ 0)
    (hfind : Calls Tryz.prog 131 #[.pointer (some ⟨d, 0, none⟩), .string ⟨l.toArray⟩] w fun e w' => e = .returned (.tuple #[.pointer v, .int .i64 E]) ∧ Fr No w w') :
    Calls Tryz.prog 112 #[.pointer (some ⟨d, 0, none⟩), .string ⟨l.toArray⟩] w fun e w' => e = .returned (.int .i64 E) ∧ Fr No w w' := by
  have hne2 : (E != 0) = true := by simpa using hE
  go_enter Tryz.func112, Tryz.ntmps112
  go_wp2_with fail
  refine hfind.mono ?_
  rintro e w' ⟨rfl, hf⟩
  have HF := Lib.hid hf; clear hf hfind
  go_wp2
  go_ret
  exact ⟨rfl, HF.out⟩

/-- find, then a step: where both go well. -/
theorem step_ok (d : Nat) (R : Rp) (S : AS) (w : World) (h : At w d R S) (hl : S.left ≤ 9223372036854775807) (E : Int) (hE : S.stepE = E) :
    Calls Tryz.prog 167 #[.pointer (some ⟨d, 0, none⟩)] w fun e w' => e = .returned (.int .i64 E) ∧ At w' d R S.step ∧ Fr (One d) w w' := hE ▸ step_any d R S w h hl

set_option maxHeartbeats 400000 in
theorem sync_out (d : Nat) (R : Rp) (S : AS) (l : List UInt8) (n : Int) (r : FR) (w : World) (h : At w d R S) (hW : WF S) (hl : l.length ≤ maxLen) (hE : checkOf S.on [l] = 0) (hn : look S.names l = some n) (hr : S.file n = some r) (he : S.stepE = 13) :
    Calls Tryz.prog 112 #[.pointer (some ⟨d, 0, none⟩), .string ⟨l.toArray⟩] w fun e w' => e = .returned (.int .i64 13) ∧ PR d R S w R S.step w' := by
  have hcon := find_some d R S l n r w h hl hE hn hr (hW.wf hr)
  have hst := fun w1 (h1 : At w1 d R S) => step_ok d R S w1 h1 hW.left.2 13 he
  have HST := Lib.hid hst
  clear hE hn hl hW he hst
  go_enter Tryz.func112, Tryz.ntmps112
  go_wp2_with fail
  refine hcon.mono ?_
  rintro e w1 ⟨rfl, hf⟩
  have P1 := PR.same h hf
  clear hcon h hf hr
  go_wp2_with fail
  refine (HST.out w1 P1.at_).mono ?_
  rintro e w2 ⟨rfl, h2, hf2⟩
  have P2 := P1.trans (PR.own h2 hf2 (step_same S).2.2.2.1)
  clear HST h2 hf2 P1
  go_wp2
  go_ret
  exact ⟨rfl, P2⟩

set_option maxHeartbeats 400000 in
theorem sync_ok (d : Nat) (R : Rp) (S : AS) (l : List UInt8) (n : Int) (r : FR) (w : World) (h : At w d R S) (hW : WF S) (hl : l.length ≤ maxLen) (hE : checkOf S.on [l] = 0) (hn : look S.names l = some n) (hr : S.file n = some r) (he : S.stepE = 0) :
    Calls Tryz.prog 112 #[.pointer (some ⟨d, 0, none⟩), .string ⟨l.toArray⟩] w fun e w' => e = .returned (.int .i64 0) ∧ Post d R S w (S.step.synced n r) w' := by
  have hcon := find_some d R S l n r w h hl hE hn hr (hW.wf hr)
  have hst := fun w1 (h1 : At w1 d R S) => step_ok d R S w1 h1 hW.left.2 0 he
  have HST := Lib.hid hst
  have hr2 : S.step.file n = some r := by rw [(step_same S).2.2.2.1]; exact hr
  have HR := Lib.hid hr2
  clear hE hn hl hW he hst hr2
  go_enter Tryz.func112, Tryz.ntmps112
  go_wp2_with fail
  refine hcon.mono ?_
  rintro e w1 ⟨rfl, hf⟩
  have P1 := PR.same h hf
  clear hcon h hf hr
  go_wp2_with fail
  refine (HST.out w1 P1.at_).mono ?_
  rintro e w2 ⟨rfl, h2, hf2⟩
  have P2 := P1.trans (PR.own h2 hf2 (step_same S).2.2.2.1)
  have hfd := h2.fd n
  rw [HR.out] at hfd
  obtain ⟨_, hb, ho⟩ := hfd
  obtain ⟨A, c, hv⟩ := row_len ho
  have c0 : w2.cell? ⟨(R.rc n).1, 0, none⟩ = some (R.rc n).2 := hb.cell 0
  rw [hv] at c0
  have f1 := hb.frozen 1
  have c1 : w2.cell? ⟨(R.rc n).1, 1, none⟩ = some (.int .i64 r.firm) := hb.cell 1
  have HB := Lib.hid hb
  have HO := Lib.hid ho
  clear HST h2 hf2 P1 hv hb ho
  go_wp2
  go_ret
  have hf3 : Fr (fileB R n) w2 (w2.setCell ⟨(R.rc n).1, 1, none⟩ (.int .i64 r.bytes.length)) := (Fr.refl _ _).setCell (p := ⟨(R.rc n).1, 1, none⟩) (fun _ => .inl rfl) _
  have ho3 : (w2.setCell ⟨(R.rc n).1, 1, none⟩ (.int .i64 r.bytes.length)).ownsRow 0 5 1 (R.rc n).2 r.bytes.length (r.bytes.map byteV) :=
    own_of HO.out fun k hk => Below.heap_setCell _ _ _ _ (own_blk_ne HO.out hk HB.out (by decide))
  exact ⟨rfl, (P2.trans (PR.file (r' := { bytes := r.bytes, firm := r.bytes.length }) P2.at_ HR.out hf3 (HB.out.set_ 1 _) ho3 fun k hk => .inl hk)).post⟩

theorem sync_any (d : Nat) (R : Rp) (S : AS) (l : List UInt8) (w : World) (h : At w d R S) (hW : WF S) (hl : l.length ≤ maxLen) :
    Calls Tryz.prog 112 #[.pointer (some ⟨d, 0, none⟩), .string ⟨l.toArray⟩] w fun e w' => e = .returned (.int .i64 (S.sync l).2) ∧ Post d R S w (S.sync l).1 w' := by
  unfold AS.sync
  by_cases hE : checkOf S.on [l] = 0
  · rw [if_pos hE]
    cases hn : look S.names l with
    | none =>
      refine (sync_err d R S l _ 11 w (by decide) (find_none d R S l w h hl hE hn)).mono ?_
      rintro e w' ⟨he, hf⟩
      exact ⟨he, (PR.same h hf).post⟩
    | some n =>
      obtain ⟨r, hr⟩ := hW.ref l n hn
      simp only [hr]
      rcases stepE_01 S with he | he
      · rw [if_pos he]
        exact sync_ok d R S l n r w h hW hl hE hn hr he
      · rw [if_neg (by rw [he]; decide), he]
        refine (sync_out d R S l n r w h hW hl hE hn hr he).mono ?_
        rintro e w' ⟨h1, h2⟩
        exact ⟨h1, h2.post⟩
  · rw [if_neg hE]
    refine (sync_err d R S l _ _ w hE (find_bad d R S l _ w h hl rfl hE)).mono ?_
    rintro e w' ⟨he, hf⟩
    exact ⟨he, (PR.same h hf).post⟩

end Go.Proofs.YtoaiofjcjjkfaaaGreatDoor
/- A change of names: made in a table, and kept in the list of loose ones. -/
namespace Go.Proofs.YtoaiofjcjjkfaaaGreatDoor
open Go.RowKit Go.Maps
set_option linter.unusedVariables false

/-- A change, made in a table of names. -/
def Ch.app (c : Ch) (D : DU) : DU :=
  if c.to = [] then D.del (.string c.frm) else (D.del (.string c.frm)).put (.string c.to) (.lit (.int .i64 c.file))

theorem mapTurned_one {w w' : World} {b : Nat} (h : w.mapTurned w' b) : Fr (One b) w w' :=
  (Fr.refl _ w).grown h.grown fun k hk _ => by cases hk; rfl

theorem turned_new {w w1 : World} {b : Nat} {cs : Array Value} {t : TypeId} (hb : b < w.heap.size) (h : (w.alloc (.cells cs t)).mapTurned w1 b) (i : Nat) : w1.cell? ⟨w.heap.size, i, none⟩ = cs[i]? := by
  have hx := h.grown.block w.heap.size (by simp) (by simp; omega)
  exact Blk.cell (t := t) ((hx.trans (heap_alloc_new w _) : Blk w1 w.heap.size t cs)) i

set_option maxRecDepth 100000 in
set_option maxHeartbeats 800000 in
theorem apply_gone (c : Ch) (b n : Nat) (D : DU) (w : World) (hown : w.ownsMap Tryz.prog 9 (plainElem Tryz.prog 3) b n D) (hf : c.frm.length ≤ maxLen) (ht : c.to = []) :
    Calls Tryz.prog 55 #[.agg #[.string ⟨c.frm.toArray⟩, .string ⟨c.to.toArray⟩, .int .i64 c.file], .map (some b)] w fun e w' => e = .returned (.tuple #[]) ∧ w'.ownsMap Tryz.prog 9 (plainElem Tryz.prog 3) b n (D.del (.string c.frm)) ∧ Fr (One b) w w' := by
  have hb := hown.lt
  have hkey := key9 c.frm hf
  rw [ht]
  clear ht hf
  go_enter Tryz.func55, Tryz.ntmps55
  have hoa := hown.alloc (.cells #[.string ⟨c.frm.toArray⟩, .string ⟨[].toArray⟩, .int .i64 c.file] 114)
  clear hown
  go_wp2_with (at_delete; refine wpList_delete_own _ rfl _ _ 100 9 rfl 3 law9 Tryz.underlying100 _ b n D rfl hoa _ _ rfl hkey ?_; intro w1 hown1 hturn1; have c1 := turned_new hb hturn1 1; have HT := Lib.hid hturn1; have HO := Lib.hid hown1; clear hturn1 hown1 hoa hkey)
  go_end0
  exact ⟨rfl, HO.out, ((Fr.refl _ w).alloc _).trans (mapTurned_one HT.out) fun _ _ hj => hj⟩

set_option maxRecDepth 100000 in
set_option maxHeartbeats 800000 in
theorem apply_put (c : Ch) (b n : Nat) (D : DU) (w : World) (hown : w.ownsMap Tryz.prog 9 (plainElem Tryz.prog 3) b n D) (hf : c.frm.length ≤ maxLen) (hl : c.to.length ≤ maxLen) (ht : c.to ≠ []) (hn : n < maxLen) (hw : (Lit.int .i64 c.file).wf = true) :
    Calls Tryz.prog 55 #[.agg #[.string ⟨c.frm.toArray⟩, .string ⟨c.to.toArray⟩, .int .i64 c.file], .map (some b)] w fun e w' => e = .returned (.tuple #[]) ∧ w'.ownsMap Tryz.prog 9 (plainElem Tryz.prog 3) b (n + 1) ((D.del (.string c.frm)).put (.string c.to) (.lit (.int .i64 c.file))) ∧ Fr (One b) w w' := by
  have hb := hown.lt
  have hkey := key9 c.frm hf
  have hkey2 := key9 c.to hl
  have hval : plainElem (H := Unit) Tryz.prog 3 (.int .i64 c.file) = some (.lit (.int .i64 c.file), []) := plainElem_int Tryz.underlying3 hw
  have HK := Lib.hid hkey2
  have HV := Lib.hid hval
  have hte : (c.to == []) = false := by simpa using ht
  clear ht hf hl hw hkey2 hval
  go_enter Tryz.func55, Tryz.ntmps55
  have hoa := hown.alloc (.cells #[.string ⟨c.frm.toArray⟩, .string ⟨c.to.toArray⟩, .int .i64 c.file] 114)
  clear hown
  go_wp2_with (first
    | (at_delete; refine wpList_delete_own _ rfl _ _ 100 9 rfl 3 law9 Tryz.underlying100 _ b n D rfl hoa _ _ rfl hkey ?_; intro w1 hown1 hturn1; have c1 := turned_new hb hturn1 1; have c2 := turned_new hb hturn1 2; have HT := Lib.hid hturn1; have HO := Lib.hid hown1; clear hturn1 hown1 hoa hkey)
    | (at_mapUpdate; refine wpList_mapUpdate_in _ rfl _ _ _ 100 rfl 9 3 law9 Tryz.underlying100 _ b n _ rfl HO.out hn _ _ _ rfl rfl HK.out _ _ HV.out ?_; intro w2 hown2 hturn2; have HT2 := Lib.hid hturn2; have HO2 := Lib.hid hown2; clear hturn2 hown2))
  go_end0
  exact ⟨rfl, HO2.out, (((Fr.refl _ w).alloc _).trans (mapTurned_one HT.out) fun _ _ hj => hj).trans (mapTurned_one HT2.out) fun _ _ hj => hj⟩

theorem apply_any (c : Ch) (b n : Nat) (D : DU) (w : World) (hown : w.ownsMap Tryz.prog 9 (plainElem Tryz.prog 3) b n D) (hf : c.frm.length ≤ maxLen) (hl : c.to.length ≤ maxLen) (hn : n < maxLen) (hw : (Lit.int .i64 c.file).wf = true) :
    Calls Tryz.prog 55 #[.agg #[.string ⟨c.frm.toArray⟩, .string ⟨c.to.toArray⟩, .int .i64 c.file], .map (some b)] w fun e w' => e = .returned (.tuple #[]) ∧ w'.ownsMap Tryz.prog 9 (plainElem Tryz.prog 3) b (Maps.size (c.app D)) (c.app D) ∧ Fr (One b) w w' := by
  by_cases ht : c.to = []
  · refine (apply_gone c b n D w hown hf ht).mono ?_
    rintro e w' ⟨he, ho, hfr⟩
    rw [show c.app D = D.del (.string c.frm) from by unfold Ch.app; rw [if_pos ht]]
    exact ⟨he, owns_tight ho, hfr⟩
  · refine (apply_put c b n D w hown hf hl ht hn hw).mono ?_
    rintro e w' ⟨he, ho, hfr⟩
    rw [show c.app D = (D.del (.string c.frm)).put (.string c.to) (.lit (.int .i64 c.file)) from by unfold Ch.app; rw [if_neg ht]]
    exact ⟨he, owns_tight ho, hfr⟩

/-! ### alter -/
/-- The table of names has turned, and nothing else. -/
theorem At.named {w w' : World} {d b : Nat} {R : Rp} {S : AS} (h : At w d R S) (hnm : R.nm = some b) {D : DU} (hf : Fr (One b) w w') (ho : w'.ownsMap Tryz.prog 9 (plainElem Tryz.prog 3) b (Maps.size D) D) :
    At w' d R { S with names := D } := by
  have lt := h.lt
  have ne : ∀ k, foot d R S k → k ≠ b → w'.heap[k]? = w.heap[k]? := fun k hk hn => hf.block k (lt k hk) hn
  have hb := owns_map (b := b) (by have := h.names; rw [hnm] at this; exact this)
  obtain ⟨es, cl, hb⟩ := hb
  have cne : ∀ {k : Nat} {cs : Array Value} {t : TypeId} {fz : Nat × Nat}, w.heap[k]? = some (.cells cs t fz) → k ≠ b := fun hc e => map_ne_blk hb hc e.symm
  exact {
    blk := h.blk.of (ne _ (.inl rfl) (cne h.blk))
    names := by rw [hnm]; exact ho
    firm := h.firm.of fun k hk => ne _ (.inr (.inr (.inl hk))) fun e => h.ne1 b hnm (e ▸ hk)
    files := h.files.of fun k hk => ne _ (.inr (.inr (.inr (.inl hk)))) fun e => h.ne2 b hnm (e ▸ hk)
    loose := own_of h.loose fun k hk => ne _ (.inr (.inr (.inr (.inr (.inl hk))))) (by obtain ⟨cur, hc⟩ := own_row h.loose hk; exact cne hc)
    fd := fun n => (h.fd n).of fun r hr k hk => ne _ (.inr (.inr (.inr (.inr (.inr ⟨n, r, hr, hk⟩))))) (by
      have hf := h.fd n
      rw [hr] at hf
      rcases hk with rfl | hk
      · exact cne hf.2.1
      · obtain ⟨cur, hc⟩ := own_row hf.2.2 hk; exact cne hc)
    ne1 := h.ne1
    ne2 := h.ne2
    ne3 := h.ne3
    ap := h.ap
    onn := h.onn }

/-- The list of loose changes has turned, and nothing else. -/
theorem At.listed {w w' : World} {d : Nat} {R : Rp} {S : AS} (h : At w d R S) {L : List Ch} {lv : Value} (hf : Fr (fun k => k = d ∨ R.lv.ownBlock = some k) w w')
    (hb : Blk w' d 109 (cellsOf S { R with lv := lv })) (ho : w'.ownsRow 0 114 3 lv L.length (L.flatMap Ch.cells)) : At w' d { R with lv := lv } { S with loose := L } := by
  have lt := h.lt
  obtain ⟨a1, a2, a3, a4, a5⟩ := h.apart
  have ne : ∀ k, foot d R S k → k ≠ d → R.lv.ownBlock ≠ some k → w'.heap[k]? = w.heap[k]? := fun k hk hn hm => hf.block k (lt k hk) (by rintro (e | e); exact hn e; exact hm e)
  have mp : ∀ {K : TypeId} {E : Value → Option (DU × List MemPlace)} {m : Option Nat} {D : DU} {k : Nat}, MapAt w Tryz.prog K E m D → m = some k → R.lv.ownBlock ≠ some k := by
    intro K E m D k hm hk e
    subst hk
    obtain ⟨es, c, he⟩ := owns_map (b := k) hm
    obtain ⟨cur, hc⟩ := own_row h.loose e
    exact map_ne_blk he hc rfl
  exact {
    blk := hb
    names := h.names.of fun b hb => ne _ (.inr (.inl hb)) (fun e => a1 (e ▸ hb)) (mp h.names hb)
    firm := h.firm.of fun b hb => ne _ (.inr (.inr (.inl hb))) (fun e => a2 (e ▸ hb)) (mp h.firm hb)
    files := h.files.of fun b hb => ne _ (.inr (.inr (.inr (.inl hb)))) (fun e => a3 (e ▸ hb)) (mp h.files hb)
    loose := ho
    fd := fun n => (h.fd n).of fun r hr k hk => ne _ (.inr (.inr (.inr (.inr (.inr ⟨n, r, hr, hk⟩)))))
      (fun e => by
        rcases hk with hk | hk
        · exact (a5 n r hr).1 (hk ▸ e)
        · exact (a5 n r hr).2 (e ▸ hk))
      (fun e => (h.other hr hk).2.2.2.2.1 e)
    ne1 := h.ne1
    ne2 := h.ne2
    ne3 := h.ne3
    ap := h.ap
    onn := h.onn }

def AS.altered (S : AS) (c : Ch) : AS := { S with names := c.app S.names, loose := S.loose ++ [c] }

theorem alter_end {w w1 w3 : World} {d b g cap : Nat} {R : Rp} {S : AS} {c : Ch} {o : Obj} (hnm : R.nm = some b) (hfr : Fr (One b) w w1) (h1 : At w1 d R { S with names := c.app S.names })
    (hg : ((w1.alloc o).drew).grownBy w3 R.lv.ownBlock)
    (ho3 : w3.ownsRow 0 114 3 (.slice (some ⟨g, 0, none⟩) (S.loose.length + 1) cap) (S.loose.length + 1) (S.loose.flatMap Ch.cells ++ [.string ⟨c.frm.toArray⟩, .string ⟨c.to.toArray⟩, .int .i64 c.file]))
    (hb3 : Blk w3 d 109 (cellsOf S R)) (hat : R.lv.ownBlock = some g ∨ g = w1.heap.size + 1) :
    Post d R S w (S.altered c) (w3.setCell ⟨d, 7, none⟩ (.slice (some ⟨g, 0, none⟩) (S.loose.length + 1) cap)) := by
  have hgd : g ≠ d := own_blk_ne ho3 rfl hb3 (by decide)
  have hf : Fr (fun k => k = d ∨ R.lv.ownBlock = some k) w1 (w3.setCell ⟨d, 7, none⟩ (.slice (some ⟨g, 0, none⟩) (S.loose.length + 1) cap)) :=
    ((((Fr.refl _ w1).alloc o).drew).grown hg (fun k hk _ => .inr hk)).setCell (p := ⟨d, 7, none⟩) (fun _ => .inl rfl) _
  have ho4 : (w3.setCell ⟨d, 7, none⟩ (.slice (some ⟨g, 0, none⟩) (S.loose.length + 1) cap)).ownsRow 0 114 3 (.slice (some ⟨g, 0, none⟩) (S.loose.length + 1) cap) (S.loose ++ [c]).length ((S.loose ++ [c]).flatMap Ch.cells) := by
    have := own_of ho3 (w' := w3.setCell ⟨d, 7, none⟩ (.slice (some ⟨g, 0, none⟩) (S.loose.length + 1) cap)) (fun k hk => Below.heap_setCell _ _ _ _ (by
      simp [Value.ownBlock] at hk; subst hk; exact hgd))
    rw [List.length_append, List.flatMap_append]
    simpa [Ch.cells] using this
  have h4 := h1.listed hf (hb3.set_ 7 _) ho4
  have hfr' : Fr (foot d R S) w w1 := hfr.mono fun k _ hk => .inr (.inl (by rw [hnm, show k = b from hk]))
  refine ⟨_, h4, hfr'.trans hf (fun k _ hk => ?_), fun k hk => ?_⟩
  · rcases hk with hk | hk
    · exact .inl hk
    · exact .inr (.inr (.inr (.inr (.inl hk))))
  · rcases hk with hk | hk | hk | hk | hk | hk
    · exact .inl (.inl hk)
    · exact .inl (.inr (.inl hk))
    · exact .inl (.inr (.inr (.inl hk)))
    · exact .inl (.inr (.inr (.inr (.inl hk))))
    · have e : g = k := by simpa [Value.ownBlock] using hk
      subst e
      rcases hat with hat | hat
      · exact .inl (.inr (.inr (.inr (.inr (.inl hat)))))
      · exact .inr (by have := hfr.size; omega)
    · exact .inl (.inr (.inr (.inr (.inr (.inr hk)))))

theorem info73 : (Tryz.prog.info? 114).map (fun i => (i.zero, i.size, i.bytes)) = some (some (.agg #[.string ⟨#[]⟩, .string ⟨#[]⟩, .int .i64 0]), 3, 40) := by kernel_rfl

set_option maxRecDepth 100000 in
set_option maxHeartbeats 800000 in
theorem alter_any (d : Nat) (R : Rp) (S : AS) (c : Ch) (b : Nat) (w : World) (h : At w d R S) (hnm : R.nm = some b) (hf : c.frm.length ≤ maxLen) (hl : c.to.length ≤ maxLen) (hn : Maps.size S.names < maxLen) (hw : (Lit.int .i64 c.file).wf = true) (hll : S.loose.length < 3000000000000) :
    Calls Tryz.prog 166 #[.pointer (some ⟨d, 0, none⟩), .string ⟨c.frm.toArray⟩, .string ⟨c.to.toArray⟩, .int .i64 c.file] w fun e w' => e = .returned (.tuple #[]) ∧ Post d R S w (S.altered c) w' := by
  generalize hcs : (#[.string ⟨c.frm.toArray⟩, .string ⟨c.to.toArray⟩, .int .i64 c.file] : Array Value) = cs at *
  obtain ⟨w0, hw0⟩ : ∃ w0, w.alloc (.cells cs 114) = w0 := ⟨_, rfl⟩
  have f0 : Fr No w w0 := by rw [← hw0]; exact (Fr.refl _ w).alloc _
  have h0 := h.keep f0
  have hbk : Blk w0 w.heap.size 114 cs := by rw [← hw0]; exact Blk.new w 114 cs
  have hbl : b < w.heap.size := by have := h.names.lt b hnm; exact this
  have n0 : w0.cell? ⟨w.heap.size, 0, none⟩ = some (.string ⟨c.frm.toArray⟩) := by rw [hbk.cell, ← hcs]; rfl
  have n1 : w0.cell? ⟨w.heap.size, 1, none⟩ = some (.string ⟨c.to.toArray⟩) := by rw [hbk.cell, ← hcs]; rfl
  have n2 : w0.cell? ⟨w.heap.size, 2, none⟩ = some (.int .i64 c.file) := by rw [hbk.cell, ← hcs]; rfl
  have c5 := (cells_all h0).2.2.2.2.2.1
  rw [hnm] at c5
  have hown := h0.names
  rw [hnm] at hown
  have happ := apply_any c b _ S.names _ (World.ownsMap.drew hown) hf hl hn hw
  have HA := Lib.hid happ
  have H0 := Lib.hid h0
  have HF0 := Lib.hid f0
  have HB := Lib.hid hbk
  subst hcs
  clear happ hown h hf hl hn hw h0 f0 hbk
  go_enter Tryz.func166, Tryz.ntmps166
  go_wp2_with fail
  clear hw0
  go_still_tail 5, (by kernel_rfl)
  change wpList _ _ _ _ _ (World.drew _)
  go_wp2_with fail
  refine HA.out.mono ?_
  rintro e w1 ⟨rfl, ho1, hf1⟩
  have hfr : Fr (One b) w w1 := (HF0.out.any.drew).trans hf1 fun _ _ hj => hj
  have h1 := H0.out.named hnm (w' := w1) (D := c.app S.names) ⟨hf1.os, hf1.tape, hf1.output, hf1.size, hf1.block⟩ ho1
  have hb1 : Blk w1 w.heap.size 114 #[.string ⟨c.frm.toArray⟩, .string ⟨c.to.toArray⟩, .int .i64 c.file] := HB.out.of (hf1.block _ HB.out.lt (by
    intro e
    have := hbl
    unfold One at e
    omega))
  have d7 := (cells_all h1).2.2.2.2.2.2.2.1
  have m0 := hb1.cell 0
  have m1 := hb1.cell 1
  have m2 := hb1.cell 2
  have fz := h1.blk.frozen 7
  have HFR := Lib.hid hfr
  have H1 := Lib.hid h1
  clear hfr hf1 ho1 h1 hb1 n0 n1 n2 c5 HA
  obtain ⟨i0, hi0, hz0, hz1, hz2⟩ := info_parts info73
  have hlo : w1.ownsRow 0 114 3 R.lv S.loose.length (S.loose.flatMap Ch.cells) := H1.out.loose
  have HL := Lib.hid hlo
  clear hlo
  have hq : ∀ (o : Obj) (w3 : World), ((w1.alloc o).drew).grownBy w3 R.lv.ownBlock → w3.cell? ⟨d, 7, none⟩ = some R.lv ∧ w3.frozen? ⟨d, 7, none⟩ = false ∧ Blk w3 d 109 (cellsOf S R) := by
    intro o w3 hg
    have hdl := H1.out.blk.lt
    have hb3 : Blk w3 d 109 (cellsOf S R) := H1.out.blk.of ((hg.block d (by simp; omega) (fun e => H1.out.apart.2.2.2.1 e.symm)).trans (Below.heap_alloc w1 o d hdl))
    exact ⟨hb3.cell 7, hb3.frozen 7, hb3⟩
  have HQ := Lib.hid hq
  clear hq
  have hdl1 : d < w1.heap.size := H1.out.blk.lt
  go_wp2_with fail
  go_region_law (first | (refine step_append_lies _ (by rfl) _ _ _ (by rfl) 0 114 i0 _ 3 40 Tryz.underlying107 hi0 hz0 hz1 hz2 rfl (by omega) R.lv _ _ (by rfl) ((HL.out.alloc _).drew) ⟨w1.heap.size, 0, none⟩ 1 1 [.string ⟨c.frm.toArray⟩, .string ⟨c.to.toArray⟩, .int .i64 c.file] (by rfl) (by rfl) (World.news_of_block (cs := #[.string ⟨c.frm.toArray⟩, .string ⟨c.to.toArray⟩, .int .i64 c.file]) (t := 114) (fr := (0, 0)) (heap_alloc_new w1 _)) (by simp [Value.oneCell']) (by omega) (by unfold maxLen; omega) (by omega) (by simp) (w1.heap.size + 1) (by simp) ?_; intro g cap w3 hown3 hgrow hat hlt; have q7 := (HQ.out _ _ hgrow).1; have qf := (HQ.out _ _ hgrow).2.1; have HB3 := Lib.hid (HQ.out _ _ hgrow).2.2; have HG := Lib.hid hgrow; have HO3 := Lib.hid hown3; have HAT := Lib.hid hat; clear hgrow hown3 hat))
  all_goals (go_wp2; go_end0)
  all_goals exact ⟨rfl, alter_end hnm HFR.out H1.out HG.out HO3.out HB3.out HAT.out⟩

end Go.Proofs.YtoaiofjcjjkfaaaGreatDoor
/- How many bytes the files have. -/
namespace Go.Proofs.YtoaiofjcjjkfaaaGreatDoor
open Go.RowKit Go.Maps
set_option linter.unusedVariables false

/-- How long the file is that an entry of a table of names stands for. -/
def flen (f : Int → Option FR) (p : Lit × DU) : Int :=
  match p.2 with
  | .lit (.int .i64 n) => match f n with | some r => r.bytes.length | none => 0
  | _ => 0
def usedOf (f : Int → Option FR) (D : DU) : Int :=
  match D with
  | .map es => (es.map (flen f)).sum
  | _ => 0
def leftSum (f : Int → Option FR) (D : DU) (left : Lit → Bool) : Int :=
  match D with
  | .map es => ((es.filter fun p => left p.1).map (flen f)).sum
  | _ => 0

theorem flen_nonneg (f : Int → Option FR) (p : Lit × DU) : 0 ≤ flen f p := by
  unfold flen; split
  · split <;> omega
  · omega
theorem sum_nonneg (f : Int → Option FR) : ∀ l : List (Lit × DU), 0 ≤ (l.map (flen f)).sum
  | [] => by simp
  | p :: l => by have := sum_nonneg f l; have := flen_nonneg f p; simp; omega
theorem sum_le {f : Int → Option FR} {M : Int} (h : ∀ n r, f n = some r → (r.bytes.length : Int) ≤ M) (hM : 0 ≤ M) : ∀ l : List (Lit × DU), (l.map (flen f)).sum ≤ l.length * M
  | [] => by simp
  | p :: l => by
    have h1 := sum_le h hM l
    have h2 : flen f p ≤ M := by
      unfold flen; split
      · split
        · rename_i hr; exact h _ _ hr
        · exact hM
      · exact hM
    simp only [List.map_cons, List.sum_cons, List.length_cons]
    have : ((l.length + 1 : Nat) : Int) * M = l.length * M + M := by push_cast; rw [Int.add_mul]; omega
    omega

theorem sum_take (f : Int → Option FR) (left : Lit → Bool) (kl : Lit) (hk : WideAt.IsKeyLit kl) (hl : left kl = true) : ∀ es : List (Lit × DU), es.Pairwise (fun p q => p.1 ≠ q.1) → ∀ p ∈ es, p.1 = kl →
    ((es.filter fun p => left p.1).map (flen f)).sum = flen f p + ((es.filter fun p => left p.1 && !p.1.sameKey kl).map (flen f)).sum
  | [], _, _, hp, _ => by cases hp
  | x :: es, hd, p, hp, he => by
    obtain ⟨h1, h2⟩ := List.pairwise_cons.1 hd
    by_cases hx : x.1 = kl
    · have hpx : p = x := by
        rcases List.mem_cons.1 hp with h | h
        · exact h
        · exact absurd (hx.trans he.symm) (h1 p h)
      subst hpx
      have hrest : es.filter (fun p => left p.1 && !p.1.sameKey kl) = es.filter fun p => left p.1 := by
        apply List.filter_congr
        intro q hq
        rw [sameKey_ne (a := q.1) (b := kl) (fun e => h1 q hq (he.trans e.symm))]
        simp
      rw [List.filter_cons_of_pos (by rw [he]; exact hl), List.filter_cons_of_neg (by rw [he, WideAt.sameKey_self hk]; simp), hrest]
      simp
    · have hp' : p ∈ es := by
        rcases List.mem_cons.1 hp with h | h
        · subst h; exact absurd he hx
        · exact h
      have ih := sum_take f left kl hk hl es h2 p hp' he
      by_cases hlx : left x.1 = true
      · rw [List.filter_cons_of_pos (by exact hlx), List.filter_cons_of_pos (by rw [hlx, sameKey_ne hx]; rfl)]
        simp only [List.map_cons, List.sum_cons]
        omega
      · rw [List.filter_cons_of_neg (by simpa using hlx), List.filter_cons_of_neg (by simp [hlx])]
        exact ih

theorem leftSum_step (f : Int → Option FR) {D : DU} (ht : Tidy D) (left : Lit → Bool) (kl : Lit) (hk : WideAt.IsKeyLit kl) (hl : left kl = true) {n : Int} (hat : ∀ z, D.atKey kl z = .lit (.int .i64 n)) {r : FR} (hr : f n = some r) :
    leftSum f D left = r.bytes.length + leftSum f D (fun z => left z && !z.sameKey kl) := by
  obtain ⟨es, rfl, hp⟩ := ht
  have hh := has_true_of_atKey hat
  rw [has_eq, List.any_eq_true] at hh
  obtain ⟨p, hpm, hs⟩ := hh
  have hpk : p.1 = kl := by
    by_cases e : p.1 = kl
    · exact e
    · rw [sameKey_ne e] at hs; cases hs
  have hv : p.2 = .lit (.int .i64 n) := by
    have h1 := hat .nil
    simp only [DataW.atKey] at h1
    cases hf : es.find? (fun p => p.1.sameKey kl) with
    | none => rw [List.find?_eq_none] at hf; exact absurd hs (hf p hpm)
    | some q =>
      rw [hf] at h1
      have hq := List.mem_of_find?_eq_some hf
      have hqs := List.find?_some hf
      have hqk : q.1 = kl := by
        by_cases e : q.1 = kl
        · exact e
        · rw [sameKey_ne e] at hqs; cases hqs
      have : p = q := by
        have hpw := hp
        by_cases e : p = q
        · exact e
        · exact absurd (hpk.trans hqk.symm) (by
            intro he
            rcases List.getElem_of_mem hpm with ⟨i, hi, rfl⟩
            rcases List.getElem_of_mem hq with ⟨j, hj, rfl⟩
            have hij : i ≠ j := fun h => e (by subst h; rfl)
            rcases Nat.lt_or_gt_of_ne hij with h | h
            · exact List.pairwise_iff_getElem.1 hpw i j hi hj h he
            · exact List.pairwise_iff_getElem.1 hpw j i hj hi h he.symm)
      rw [this]; exact h1
  have := sum_take f left kl hk hl es hp p hpm hpk
  unfold leftSum
  simp only
  rw [this]
  congr 1
  unfold flen
  rw [hv]
  simp only [hr]

theorem leftSum_start (f : Int → Option FR) {D : DU} (ht : Tidy D) (hk : ∀ es, D = .map es → ∀ p ∈ es, WideAt.IsKeyLit p.1) : leftSum f D (has D) = usedOf f D := by
  obtain ⟨es, rfl, hp⟩ := ht
  unfold leftSum usedOf
  simp only
  congr 2
  rw [List.filter_eq_self]
  intro p hpm
  rw [has_eq, List.any_eq_true]
  exact ⟨p, hpm, WideAt.sameKey_self (hk es rfl p hpm)⟩
theorem leftSum_end (f : Int → Option FR) (D : DU) {left : Lit → Bool} (h : ∀ k, left k = false) : leftSum f D left = 0 := by
  unfold leftSum
  cases D with
  | map es =>
    have : es.filter (fun p => left p.1) = [] := by rw [List.filter_eq_nil_iff]; intro p _; simp [h]
    simp only [this]; rfl
  | _ => rfl
theorem leftSum_nonneg (f : Int → Option FR) (D : DU) (left : Lit → Bool) : 0 ≤ leftSum f D left := by
  unfold leftSum
  cases D with
  | map es => exact sum_nonneg f _
  | _ => simp
theorem usedOf_le {f : Int → Option FR} {M : Int} (h : ∀ n r, f n = some r → (r.bytes.length : Int) ≤ M) (hM : 0 ≤ M) (D : DU) : usedOf f D ≤ Maps.size D * M := by
  unfold usedOf
  cases D with
  | map es => exact sum_le h hM es
  | _ => simp [Maps.size]


theorem used_nil (w : World) : Calls Tryz.prog 24 #[.pointer none] w fun e w' => e = .returned (.int .i64 0) ∧ w = w' := by
  go_enter Tryz.func24, Tryz.ntmps24
  go_wp2
  go_ret
  exact ⟨rfl, rfl⟩

theorem key_string {x : Value} {kl : Lit} (h : keyOf Tryz.prog 9 x = some kl) : ∃ s, kl = .string s := by
  obtain ⟨s, _, e, _⟩ := Maps.keyOf_str Tryz.underlying9 h
  exact ⟨s, e⟩

set_option maxRecDepth 100000 in
set_option maxHeartbeats 1000000 in
theorem used_any (d : Nat) (R : Rp) (S : AS) (b : Nat) (w : World) (h : At w d R S) (hW : WF S) (hnm : R.nm = some b) (hsz : Maps.size S.names ≤ 1000000) :
    Calls Tryz.prog 24 #[.pointer (some ⟨d, 0, none⟩)] w fun e w' => e = .returned (.int .i64 (usedOf S.file S.names)) ∧ Fr No w w' := by
  have c5 := (cells_all h).2.2.2.2.2.1
  rw [hnm] at c5
  have hown := h.names
  rw [hnm] at hown
  have hown' : w.ownsMap Tryz.prog 9 (plainElem Tryz.prog 3) b (Maps.size S.names) S.names := hown
  clear hown
  have hU : usedOf S.file S.names ≤ 16777216000000 := by
    have := usedOf_le (f := S.file) (M := 16777216) (fun n r hr => by have := (hW.file n r hr).2.2.2; omega) (by omega) S.names
    omega
  go_enter Tryz.func24, Tryz.ntmps24
  go_wp2_with (first
    | (at_range; refine wpList_range_own _ rfl _ 100 rfl 9 3 law9 Tryz.underlying100 (plainElem Tryz.prog 3) b _ _ rfl hown' ?_; intro w0 hrg0 hg0 hs0)
    | go_in)
  go_frame
  go_loopw [3] (fun u wr => ∃ (left : Lit → Bool) (cnt : Nat) (acc : Int), u = .int .i64 acc ∧ wr.ranges Tryz.prog 9 (plainElem Tryz.prog 3) b w.heap.size (Maps.size S.names) S.names left cnt ∧ Fr No w wr ∧ acc + leftSum S.file S.names left = usedOf S.file S.names ∧ 0 ≤ acc)
    (fun _ wr => wr.rangeLeft b w.heap.size)
  case atStart =>
    obtain ⟨es, he, hp, hk⟩ := hown'.canon law9
    exact ⟨_, _, 0, rfl, hrg0, (Fr.refl _ w).grown hg0 (fun k hk => by cases hk), by
      rw [leftSum_start S.file (hown'.tidy law9) (fun es' e' => by rw [he] at e'; cases e'; exact hk)]; omega, by omega⟩
  case round =>
    obtain ⟨left, cnt, acc, rfl, hrg, hfr, hacc, h0⟩ := hrel
    have HW := Lib.hid hown'
    have H := Lib.hid h
    have HWF := Lib.hid hW
    have HC := Lib.hid hacc
    have HF := Lib.hid hfr
    have HE := Lib.hid hnm
    clear hown' h hW hacc hfr hnm c5 hg0 hrg0
    go_wp2_with (first
      | (at_next; refine wpList_next_ranges _ rfl _ rfl 9 law9 (plainElem Tryz.prog 3) id (Value.int .i64) (fun key _ _ => ⟨key, rfl⟩) (fun v y hv => by obtain ⟨c, rfl, _⟩ := plainElem_int_inv Tryz.underlying3 hv; exact ⟨c, rfl⟩) b w.heap.size _ _ _ _ rfl hrg ?_ ?_)
      | go_in)
    · intro hc0 hl0
      go_wp2
      go_ret
      have hacc := HC.out
      rw [leftSum_end _ _ hl0] at hacc
      exact ⟨ret_int (by omega), HF.out⟩
    · intro x c kl yl yp w1 cnt1 hkey hlx hv hat hrg1 hlt hg1 hs1 hen
      have hfr1 : Fr No w w1 := HF.out.grown hg1 (fun k hk hlt => by cases hk; omega)
      have h1 := H.out.keep hfr1
      obtain ⟨c', ec, ey, hwc⟩ := plainElem_int_inv Tryz.underlying3 hv
      cases ec
      cases ey
      obtain ⟨sk, rfl⟩ := key_string hkey
      have hlk : look S.names sk = some c := by unfold look; rw [hat .nil]
      obtain ⟨r, hr⟩ := HWF.out.ref sk c hlk
      have hfd := h1.fd c
      rw [hr] at hfd
      obtain ⟨hfa, hfb, hfo⟩ := hfd
      obtain ⟨fb, hfbe⟩ := H.out.fbs hr
      have hfl := h1.files
      rw [hfbe] at hfl
      have hrun2 := run_file (b := fb) hfl hwc hfa
      have c5 := (cells_all h1).2.2.2.2.2.1
      have c8 := (cells_all h1).2.2.2.2.2.2.2.2.1
      rw [hfbe] at c8
      obtain ⟨A, cp, hav⟩ := row_len hfo
      have c0 : w1.cell? ⟨(R.rc c).1, 0, none⟩ = some (R.rc c).2 := hfb.cell 0
      rw [hav] at c0
      have hstep := leftSum_step S.file (H.out.names.tidy law9) left _ (isKey sk) hlx hat hr
      have hnn := leftSum_nonneg S.file S.names (fun z => left z && !z.sameKey (.string sk))
      have hbd : acc + (r.bytes.length : Int) ≤ 16777216000000 := by have := HC.out; omega
      have HS := Lib.hid hstep
      have HR1 := Lib.hid hrg1
      have HF1 := Lib.hid hfr1
      have HRG := Lib.hid hrg
      clear hstep hrg1 hfr1 hrg h1 hfa hfb hfo hfl hav hfbe hr hlk hv hat hkey hlx hg1 hs1 hwc hnn
      go_wp2
      go_roundw
      case rel => exact ⟨_, _, _, rfl, HR1.out, HF1.out, by have := HC.out; have := HS.out; omega, by omega⟩
      case measure => rw [HR1.out.left_eq, HRG.out.left_eq]; exact hlt

end Go.Proofs.YtoaiofjcjjkfaaaGreatDoor
/- Write. -/
namespace Go.Proofs.YtoaiofjcjjkfaaaGreatDoor
open Go.RowKit Go.Maps Go.Sort
set_option linter.unusedVariables false

theorem mixed : Tryz.prog.follows .mixedOrders = true := by kernel_rfl

theorem At.regrown {w : World} {d : Nat} {R : Rp} {S : AS} (h : At w d R S) (dd : Nat) (os : Array Obj) : At (grow (redrawn w dd) os) d R S := h.below (below_regrown w dd os)

theorem on_of {on : Bool} {ss : List (List UInt8)} (h : checkOf on ss = 0) : on = true := by
  cases on
  · simp [checkOf] at h
  · rfl

theorem run_look_any {w : World} {b n : Nat} {D : DU} (h : w.ownsMap Tryz.prog 9 (plainElem Tryz.prog 3) b n D) {l : List UInt8} (hl : l.length ≤ maxLen) {o : Option Int} (hc : look D l = o) :
    (Instr.lookup 100 (.map (some b)) (.string ⟨l.toArray⟩) true).run Tryz.prog w = .ok (.tuple #[.int .i64 (o.getD 0), .bool o.isSome]) w := by
  cases o with
  | none => exact run_look_none h hl hc
  | some c => exact run_look_some h hl hc

/-- append of a text to a file's bytes. -/
theorem run_app {w : World} {v : Value} {n : Nat} {xs : List Value} (h : w.ownsRow 0 5 1 v n xs) (l : List UInt8) (hb : n + l.length ≤ 140737488355328) (ty : TypeId) :
    ∃ v' w', (Builtin.append_ #[65, 9] ty #[v, .string ⟨l.toArray⟩]).run Tryz.prog w = .ok v' w' ∧ w'.ownsRow 0 5 1 v' (n + l.length) (xs ++ l.map byteV) ∧ w.grownBy w' v.ownBlock ∧ ∀ k, v'.ownBlock = some k → v.ownBlock = some k ∨ w.heap.size ≤ k := by
  obtain ⟨i0, hi, hz, hs, hby⟩ := info_parts info5
  have hsz : (⟨l.toArray⟩ : ByteArray).size = l.length := by simp [ByteArray.size]
  have hsc : Lib.strCells ⟨l.toArray⟩ = l.map byteV := by simp [Lib.strCells, byteV]
  obtain ⟨v', w', hr, ho, hg, hnil⟩ := Lib.run_append_own_string w 0 65 9 ty 5 i0 Tryz.underlying65 Tryz.underlying9 hi hz hs hby v n xs h ⟨l.toArray⟩ (by rw [hsz]; unfold maxLen; omega) (by rw [hsz]; exact hb) (Nat.zero_le _)
  rw [hsz, hsc] at ho
  refine ⟨v', w', hr, ho, hg, fun k hk => ?_⟩
  rw [hsz] at hnil
  rcases h.2 with ⟨rfl, rfl⟩ | ⟨g, cap, cur, rfl, hbg, hh, hnc, hcm, hcs, ht⟩
  · by_cases h0 : l.length = 0
    · rw [hnil.2 ⟨rfl, h0⟩] at hk; simp [Value.ownBlock] at hk
    · have hr2 := run_append_nil_string w 65 9 ty 5 i0 _ Tryz.underlying65 Tryz.underlying9 hi hz ⟨l.toArray⟩ (by rw [hsz]; omega) (by rw [hsz]; omega) (by rw [hsz, hby]; omega)
      rw [hr2] at hr
      injection hr with e1 e2
      subst e1
      simp [Value.ownBlock] at hk
      exact .inr (by omega)
  · by_cases hroom : n + l.length ≤ cap
    · have hr2 := Lib.run_append_room_string (P := Tryz.prog) w 65 9 ty 5 i0 Tryz.underlying65 Tryz.underlying9 hi hs g n cap cur hh ⟨l.toArray⟩ (by rw [hsz]; exact hroom) (by rw [hsz]; omega)
      rw [hr2] at hr
      injection hr with e1 e2
      subst e1
      exact .inl hk
    · have hcells := h.cells (g := g) rfl
      have hr2 := Lib.run_append_grow_string (P := Tryz.prog) w 65 9 ty 5 i0 _ Tryz.underlying65 Tryz.underlying9 hi hz ⟨g, 0, none⟩ n cap xs (by rw [hs]; exact h.1) hcells ⟨l.toArray⟩ (by rw [hsz]; omega) (by rw [hsz]; omega) (by rw [hsz, hby]; exact growslice_fits (by omega) (by omega))
      rw [hr2] at hr
      injection hr with e1 e2
      subst e1
      simp [Value.ownBlock] at hk
      exact .inr (by omega)

section
variable {ops : Array Oper} {rest : List Oper} {o : Oper} {a : Act} {Q : Exit → Act → World → Prop} {w : World}
theorem wpList_app (hgd : o.guard = none) (sl x : Operand) (ho : o.op = .call { callee := .builtin .append, args := #[sl, x], argTypes := #[65, 9] })
    (v : Value) (n : Nat) (xs : List Value) (l : List UInt8) (hs : a.eval sl = v) (hx : a.eval x = .string ⟨l.toArray⟩) (hown : w.ownsRow 0 5 1 v n xs) (hb : n + l.length ≤ 140737488355328)
    (h : ∀ A c w', w'.ownsRow 0 5 1 (.slice A (n + l.length) c) (n + l.length) (xs ++ l.map byteV) → w.grownBy w' v.ownBlock → (∀ k, (Value.slice A (n + l.length) c).ownBlock = some k → v.ownBlock = some k ∨ w.heap.size ≤ k) → wpList Tryz.prog ops Q rest (a.put o.dst (.slice A (n + l.length) c)) w') : wpList Tryz.prog ops Q (o :: rest) a w := by
  refine wpList_plain hgd fun K hK => ?_
  obtain ⟨v', w', hr, h2, h3, h4⟩ := run_app hown l hb o.type
  obtain ⟨A, c, rfl⟩ := len_row h2
  unfold Oper.wp execOp
  simp only [ho, resolve, invoke, builtin, Sem.run_bind, Sem.run_pure, Result.andThen_ok, List.map_toArray, List.map_cons, List.map_nil, hs, hx, hr]
  exact hK _ _ (h A c w' h2 h3 h4)
end

/-- What holds of a disk's used bytes. -/
theorem used_bounds {w : World} {d : Nat} {R : Rp} {S : AS} (h : At w d R S) (hW : WF S) (hsz : Maps.size S.names ≤ 1000000) : usedOf S.file S.names ≤ 16777216000000 ∧ 0 ≤ usedOf S.file S.names := by
  refine ⟨?_, ?_⟩
  · have := usedOf_le (f := S.file) (M := 16777216) (fun n r hr => by have := (hW.file n r hr).2.2.2; omega) (by omega) S.names
    omega
  · obtain ⟨es, he, _⟩ := h.names.tidy law9
    rw [he]; exact sum_nonneg _ _
theorem used_regrown {w : World} {d b : Nat} {R : Rp} {S : AS} (h : At w d R S) (hW : WF S) (e1 : R.nm = some b) (hsz : Maps.size S.names ≤ 1000000) (dd : Nat) (os : Array Obj) :
    Calls Tryz.prog 24 #[.pointer (some ⟨d, 0, none⟩)] (grow (redrawn w dd) os) fun e w'' => e = .returned (.int .i64 (usedOf S.file S.names)) ∧ ∃ p : Regrown, w'' = grow (redrawn w p.d) p.os :=
  Calls.regrown_of ((used_any d R S b (grow (redrawn w dd) os) (h.regrown dd os) hW e1 hsz).mono fun e w' ⟨he, hf⟩ => ⟨he, hf.below⟩)

set_option maxRecDepth 100000 in
set_option maxHeartbeats 1000000 in
theorem write_full1 (d : Nat) (R : Rp) (S : AS) (l : List UInt8) (o : Option Int) (data : ByteArray) (w : World) (h : At w d R S) (hW : WF S) (hl : l.length ≤ maxLen) (hE : checkOf S.on [l] = 0) (hn : look S.names l = o)
    (hsz : Maps.size S.names ≤ 1000000) (hd : data.size ≤ maxLen) (hfull : S.room < usedOf S.file S.names + data.size) :
    Calls Tryz.prog 110 #[.pointer (some ⟨d, 0, none⟩), .string ⟨l.toArray⟩, .string data] w fun e w' => e = .returned (.int .i64 12) ∧ Fr No w w' := by
  have hcon := check_new d R S l 0 w h hE hl
  have hon := on_of hE
  obtain ⟨nb, fb, e1, e2⟩ := h.onn hon
  obtain ⟨w1, hw1⟩ : ∃ w1, w.alloc (.cells #[.string ⟨l.toArray⟩] 9) = w1 := ⟨_, rfl⟩
  have f1 : Fr No w w1 := by rw [← hw1]; exact (Fr.refl _ w).alloc _
  rw [hw1] at hcon
  have h1 := h.keep f1
  have hnm := h1.names
  rw [e1] at hnm
  have hrun := run_look_any (b := nb) hnm hl hn
  have c5 := (cells_all h1).2.2.2.2.2.1
  rw [e1] at c5
  have hused := used_regrown h1 hW e1 hsz
  have HU := Lib.hid hused
  have c0 : ∀ dd os, (grow (redrawn w1 dd) os).cell? ⟨d, 0, none⟩ = some (.int .i64 S.room) := fun dd os => (cells_all (h1.regrown dd os)).1
  have hU := used_bounds h hW hsz
  obtain ⟨hU1, hU2⟩ := hU
  have hr := hW.room
  generalize hu : usedOf S.file S.names = U at *
  have hu' := Lib.hid hu
  unfold maxLen at hd
  have t1 : IntKind.i64.wrap (S.room - U) = S.room - U := IntWalk.i64_in _ (by omega)
  have t2 : decide (S.room - U < (data.size : Int)) = true := by simp; omega
  have HF := Lib.hid f1
  have HC := Lib.hid hcon
  clear hused hu hn hE h hW hon e1 e2 h1 hnm f1 hl hcon
  go_enter Tryz.func110, Tryz.ntmps110
  go_wp2_with fail
  refine HC.out.mono ?_
  rintro e w' ⟨rfl, rfl⟩
  go_wp2_with fail
  refine wp_region_quiet_below mixed (by kernel_rfl) ?_
  repeat (first | go_big_quiet_step (exact HU.out _ _) | quiet_step (exact HU.out _ _))
  refine wpQuiet_nil ?_
  rintro w2 ⟨p, rfl⟩
  go_wp2
  go_ret
  exact ⟨rfl, HF.out.trans (Fr.of_below (below_regrown w1 p.d p.os)) fun _ _ hj => hj⟩

end Go.Proofs.YtoaiofjcjjkfaaaGreatDoor
/- A new file comes. -/
namespace Go.Proofs.YtoaiofjcjjkfaaaGreatDoor
open Go.RowKit Go.Maps Go.Sort
set_option linter.unusedVariables false

def AS.written (S : AS) (n : Int) (r : FR) (data : List UInt8) : AS := { S with file := upd S.file n (some { bytes := r.bytes ++ data, firm := r.firm }) }
def AS.opened (S : AS) : AS := { S with last := S.last + 1, file := upd S.file (S.last + 1) (some { bytes := [], firm := 0 }) }
def AS.made (S : AS) (l : List UInt8) : AS := S.opened.altered { frm := [], to := l, file := S.last + 1 }
def Rp.opened (R : Rp) (n : Int) (g : Nat) : Rp := { R with FD := R.FD.put (.int .i64 n) (.lit (.int .i64 g)), rc := upd R.rc n (g, .slice none 0 0) }

theorem At.opened {w w' : World} {d g fb : Nat} {R : Rp} {S : AS} (h : At w d R S) (hfb : R.fb = some fb) (hn : S.file (S.last + 1) = none) (hf : Fr (fun k => k = d ∨ k = fb) w w')
    (hb : Blk w' d 109 (cellsOf S.opened R)) (hm : w'.ownsMap Tryz.prog 3 ptrElem fb (Maps.size (R.opened (S.last + 1) g).FD) (R.opened (S.last + 1) g).FD) (hg : Blk w' g 126 #[.slice none 0 0, .int .i64 0]) (hgn : w.heap.size ≤ g) :
    At w' d (R.opened (S.last + 1) g) S.opened := by
  have lt := h.lt
  obtain ⟨a1, a2, a3, a4, a5⟩ := h.apart
  have hfm := h.files
  rw [hfb] at hfm
  obtain ⟨es, cl, hfbh⟩ := owns_map (b := fb) hfm
  have cne : ∀ {k : Nat} {cs : Array Value} {t : TypeId} {fz : Nat × Nat}, w.heap[k]? = some (.cells cs t fz) → k ≠ fb := fun hc e => map_ne_blk hfbh hc e.symm
  have ne : ∀ k, foot d R S k → k ≠ d → k ≠ fb → w'.heap[k]? = w.heap[k]? := fun k hk h1 h2 => hf.block k (lt k hk) (by rintro (e | e); exact h1 e; exact h2 e)
  have hIs : IsMap R.FD := h.files.isMap
  exact {
    blk := hb
    names := h.names.of fun b hb => ne _ (.inr (.inl hb)) (fun e => a1 (e ▸ hb)) (fun e => h.ne2 b hb (e ▸ hfb))
    firm := h.firm.of fun b hb => ne _ (.inr (.inr (.inl hb))) (fun e => a2 (e ▸ hb)) (fun e => h.ne3 b hb (e ▸ hfb))
    files := by show MapAt w' Tryz.prog 3 ptrElem R.fb _; rw [hfb]; exact hm
    loose := own_of h.loose fun k hk => ne _ (.inr (.inr (.inr (.inr (.inl hk))))) (fun e => a4 (e ▸ hk)) (by obtain ⟨cur, hc⟩ := own_row h.loose hk; exact cne hc)
    fd := fun m => by
      by_cases e : m = S.last + 1
      · subst e
        show FileAt w' _ _ (upd S.file (S.last + 1) _ (S.last + 1))
        rw [upd_same]
        have er : (R.opened (S.last + 1) g).rc (S.last + 1) = (g, .slice none 0 0) := upd_same _ _ _
        refine ⟨fun z => ?_, ?_, ?_⟩
        · rw [er]; exact atKey_put_same hIs (isKeyI _) _ z
        · rw [er]; exact hg
        · rw [er]; exact World.ownsRow_nil w' 0 5 1
      · show FileAt w' _ _ (upd S.file (S.last + 1) _ m)
        rw [upd_other _ _ e]
        have er : (R.opened (S.last + 1) g).rc m = R.rc m := upd_other _ _ e
        have hm2 := h.fd m
        cases hq : S.file m with
        | none =>
          rw [hq] at hm2
          show has (R.FD.put _ _) _ = false
          rw [has_put_other (keyI_ne e)]; exact hm2
        | some q =>
          rw [hq] at hm2
          obtain ⟨h1, h2, h3⟩ := hm2
          have ap5 := a5 m q hq
          refine ⟨fun z => ?_, ?_, ?_⟩
          · rw [er]
            show (R.FD.put _ _).atKey _ z = _
            rw [atKey_put_other (keyI_ne e)]; exact h1 z
          · rw [er]; exact h2.of (ne _ (.inr (.inr (.inr (.inr (.inr ⟨m, q, hq, .inl rfl⟩))))) ap5.1 (cne h2))
          · rw [er]; exact own_of h3 fun k hk => ne _ (.inr (.inr (.inr (.inr (.inr ⟨m, q, hq, .inr hk⟩))))) (fun e => ap5.2 (e ▸ hk)) (by obtain ⟨cur, hc⟩ := own_row h3 hk; exact cne hc)
    ne1 := h.ne1
    ne2 := h.ne2
    ne3 := h.ne3
    ap := fun m1 m2 q1 q2 hne h1 h2 => by
      have h1' : upd S.file (S.last + 1) _ m1 = some q1 := h1
      have h2' : upd S.file (S.last + 1) _ m2 = some q2 := h2
      have blt : ∀ m q, S.file m = some q → (R.rc m).1 < w.heap.size := fun m q hq => by
        have := h.fd m; rw [hq] at this; exact this.2.1.lt
      by_cases e1 : m1 = S.last + 1
      · subst e1
        have e2 : m2 ≠ S.last + 1 := Ne.symm hne
        rw [upd_other _ _ e2] at h2'
        have er1 : (R.opened (S.last + 1) g).rc (S.last + 1) = (g, .slice none 0 0) := upd_same _ _ _
        have er2 : (R.opened (S.last + 1) g).rc m2 = R.rc m2 := upd_other _ _ e2
        rw [er1, er2]
        exact ⟨fun e => by have := blt m2 q2 h2'; simp at e; omega, fun k hk => by simp [Value.ownBlock] at hk⟩
      · rw [upd_other _ _ e1] at h1'
        have er1 : (R.opened (S.last + 1) g).rc m1 = R.rc m1 := upd_other _ _ e1
        by_cases e2 : m2 = S.last + 1
        · subst e2
          have er2 : (R.opened (S.last + 1) g).rc (S.last + 1) = (g, .slice none 0 0) := upd_same _ _ _
          rw [er1, er2]
          exact ⟨fun e => by have := blt m1 q1 h1'; simp at e; omega, fun k _ hk => by simp [Value.ownBlock] at hk⟩
        · rw [upd_other _ _ e2] at h2'
          have er2 : (R.opened (S.last + 1) g).rc m2 = R.rc m2 := upd_other _ _ e2
          rw [er1, er2]
          exact h.ap m1 m2 q1 q2 hne h1' h2'
    onn := h.onn }

theorem PR.opened {w w' : World} {d g fb : Nat} {R : Rp} {S : AS} (h : At w d R S) (hfb : R.fb = some fb) (hn : S.file (S.last + 1) = none) (hf : Fr (fun k => k = d ∨ k = fb) w w')
    (hb : Blk w' d 109 (cellsOf S.opened R)) (hm : w'.ownsMap Tryz.prog 3 ptrElem fb (Maps.size (R.opened (S.last + 1) g).FD) (R.opened (S.last + 1) g).FD) (hg : Blk w' g 126 #[.slice none 0 0, .int .i64 0]) (hgn : w.heap.size ≤ g) :
    PR d R S w (R.opened (S.last + 1) g) S.opened w' := by
  refine ⟨h.opened hfb hn hf hb hm hg hgn, hf.mono (fun k _ hk => ?_), fun k hk => ?_⟩
  · rcases hk with hk | hk
    · exact .inl hk
    · exact .inr (.inr (.inr (.inl (hk ▸ hfb))))
  · rcases hk with hk | hk | hk | hk | hk | ⟨m, q, hq, hk⟩
    · exact .inl (.inl hk)
    · exact .inl (.inr (.inl hk))
    · exact .inl (.inr (.inr (.inl hk)))
    · exact .inl (.inr (.inr (.inr (.inl hk))))
    · exact .inl (.inr (.inr (.inr (.inr (.inl hk)))))
    · have hq' : upd S.file (S.last + 1) _ m = some q := hq
      by_cases e : m = S.last + 1
      · subst e
        have er : (R.opened (S.last + 1) g).rc (S.last + 1) = (g, .slice none 0 0) := upd_same _ _ _
        rw [er] at hk
        rcases hk with hk | hk
        · exact .inr (by simp at hk; omega)
        · simp [Value.ownBlock] at hk
      · rw [upd_other _ _ e] at hq'
        have er : (R.opened (S.last + 1) g).rc m = R.rc m := upd_other _ _ e
        rw [er] at hk
        exact .inl (.inr (.inr (.inr (.inr (.inr ⟨m, q, hq', hk⟩)))))

end Go.Proofs.YtoaiofjcjjkfaaaGreatDoor
/- Write, to a file that is there. -/
namespace Go.Proofs.YtoaiofjcjjkfaaaGreatDoor
open Go.RowKit Go.Maps Go.Sort
set_option linter.unusedVariables false

theorem blk_grown {w w' : World} {g : Nat} {t : TypeId} {cs : Array Value} {row : Option Nat} (h : Blk w g t cs) (hg : w.grownBy w' row) (hne : row ≠ some g) : Blk w' g t cs := h.of (hg.block g h.lt (fun e => hne e.symm))

/-- The text has been put behind a file's end. -/
theorem app_end {w w3 : World} {d : Nat} {R : Rp} {S : AS} {n : Int} {r : FR} {data : List UInt8} {v' : Value} (h : At w d R S) (hr : S.file n = some r)
    (ho : w3.ownsRow 0 5 1 v' (r.bytes.length + data.length) (r.bytes.map byteV ++ data.map byteV)) (hg : w.grownBy w3 (R.rc n).2.ownBlock) (hv : ∀ k, v'.ownBlock = some k → (R.rc n).2.ownBlock = some k ∨ w.heap.size ≤ k) :
    PR d R S w { R with rc := upd R.rc n ((R.rc n).1, v') } (S.written n r data) (w3.setCell ⟨(R.rc n).1, 0, none⟩ v') := by
  have hfd := h.fd n
  rw [hr] at hfd
  obtain ⟨_, h2, h3⟩ := hfd
  have hrow : (R.rc n).2.ownBlock ≠ some (R.rc n).1 := fun e => own_blk_ne h3 e h2 (by decide) rfl
  have hb3 := blk_grown h2 hg hrow
  have hf : Fr (fileB R n) w (w3.setCell ⟨(R.rc n).1, 0, none⟩ v') := ((Fr.refl _ w).grown hg (fun k hk _ => .inr hk)).setCell (p := ⟨(R.rc n).1, 0, none⟩) (fun _ => .inl rfl) _
  refine PR.file (r' := { bytes := r.bytes ++ data, firm := r.firm }) h hr hf (hb3.set_ 0 _) ?_ hv
  have := own_of ho (w' := w3.setCell ⟨(R.rc n).1, 0, none⟩ v') (fun k hk => Below.heap_setCell _ _ _ _ (own_blk_ne ho hk hb3 (by decide)))
  simpa [List.length_append, List.map_append] using this

theorem written_step (S : AS) (n : Int) (r : FR) (data : List UInt8) : (S.written n r data).stepE = S.stepE ∧ (S.written n r data).left = S.left := ⟨rfl, rfl⟩

set_option maxRecDepth 100000 in
set_option maxHeartbeats 2000000 in
theorem write_old (d : Nat) (R : Rp) (S : AS) (l : List UInt8) (n : Int) (r : FR) (data : List UInt8) (w : World) (h : At w d R S) (hW : WF S) (hl : l.length ≤ maxLen) (hE : checkOf S.on [l] = 0) (hn : look S.names l = some n) (hr : S.file n = some r)
    (hsz : Maps.size S.names ≤ 1000000) (hfit : usedOf S.file S.names + data.length ≤ S.room) :
    Calls Tryz.prog 110 #[.pointer (some ⟨d, 0, none⟩), .string ⟨l.toArray⟩, .string ⟨data.toArray⟩] w fun e w' => e = .returned (.int .i64 S.stepE) ∧ Post d R S w (S.written n r data).step w' := by
  have hcon := check_new d R S l 0 w h hE hl
  have hon := on_of hE
  obtain ⟨nb, fb, e1, e2⟩ := h.onn hon
  obtain ⟨w1, hw1⟩ : ∃ w1, w.alloc (.cells #[.string ⟨l.toArray⟩] 9) = w1 := ⟨_, rfl⟩
  have f1 : Fr No w w1 := by rw [← hw1]; exact (Fr.refl _ w).alloc _
  rw [hw1] at hcon
  have h1 := h.keep f1
  have P1 := PR.same h f1
  have hnm := h1.names
  rw [e1] at hnm
  have hrun := run_look_some (b := nb) hnm hl hn
  have c5 := (cells_all h1).2.2.2.2.2.1
  rw [e1] at c5
  have hused := used_regrown h1 hW e1 hsz
  have HU := Lib.hid hused
  have c0 : ∀ dd os, (grow (redrawn w1 dd) os).cell? ⟨d, 0, none⟩ = some (.int .i64 S.room) := fun dd os => (cells_all (h1.regrown dd os)).1
  obtain ⟨hU1, hU2⟩ := used_bounds h hW hsz
  have hroom := hW.room
  generalize hu : usedOf S.file S.names = U at *
  have hsd : (⟨data.toArray⟩ : ByteArray).size = data.length := by simp [ByteArray.size]
  have t1 : IntKind.i64.wrap (S.room - U) = S.room - U := IntWalk.i64_in _ (by omega)
  have t2 : decide (S.room - U < (data.length : Int)) = false := by simp; omega
  have HC := Lib.hid hcon
  have hwf := hW.wf hr
  have hblen : r.bytes.length + data.length ≤ 140737488355328 := by have := (hW.file n r hr).2.2.2; omega
  have hst := fun R' w' (h' : At w' d R' (S.written n r data)) => step_any d R' (S.written n r data) w' h' hW.left.2
  have HST := Lib.hid hst
  have HP1 := Lib.hid P1
  clear hused hu hn hE h hW hon e1 h1 hnm f1 hl hcon P1 hst hsd
  go_enter Tryz.func110, Tryz.ntmps110
  go_wp2_with fail
  refine HC.out.mono ?_
  rintro e w' ⟨rfl, rfl⟩
  go_wp2_with fail
  refine wp_region_quiet_below mixed (by kernel_rfl) ?_
  repeat (first | go_big_quiet_step (exact HU.out _ _) | quiet_step (exact HU.out _ _))
  refine wpQuiet_nil ?_
  intro w2 hp
  have hb2 : Below w1.heap.size w1 w2 := by obtain ⟨p, rfl⟩ := hp; exact below_regrown _ _ _
  have P2 := HP1.out.trans (PR.same HP1.out.at_ (Fr.of_below hb2))
  have h2 := P2.at_
  have hfl := h2.files
  rw [e2] at hfl
  have hfd := h2.fd n
  rw [hr] at hfd
  obtain ⟨hfa, hfb, hfo⟩ := hfd
  have hrun2 := run_file (b := fb) hfl hwf hfa
  have c8 := (cells_all h2).2.2.2.2.2.2.2.2.1
  rw [e2] at c8
  have k0 : w2.cell? ⟨(R.rc n).1, 0, none⟩ = some (R.rc n).2 := hfb.cell 0
  have hq : ∀ w3, w2.grownBy w3 (R.rc n).2.ownBlock → w3.cell? ⟨(R.rc n).1, 0, none⟩ = some (R.rc n).2 ∧ w3.frozen? ⟨(R.rc n).1, 0, none⟩ = false := fun w3 hg => by
    have := blk_grown hfb hg (fun e => own_blk_ne hfo e hfb (by decide) rfl)
    exact ⟨this.cell 0, this.frozen 0⟩
  have HQ := Lib.hid hq
  have HO := Lib.hid hfo
  have HP2 := Lib.hid P2
  clear hp hb2 P2 h2 hfl hfa hfb hfo hq HP1 HU HC c0 c5 hrun hwf e2 t1 t2
  go_wp2_with (at_builtin; refine wpList_app rfl _ _ rfl _ _ _ data rfl rfl HO.out hblen ?_; intro vA vc w3 ho3 hg3 hv3; have q0 := (HQ.out w3 hg3).1; have qf := (HQ.out w3 hg3).2; have P3 := HP2.out.trans (app_end HP2.out.at_ hr ho3 hg3 hv3); have HP3 := Lib.hid P3; clear ho3 hg3 hv3 P3 HQ HO HP2)
  refine (HST.out _ _ HP3.out.at_).mono ?_
  rintro e w4 ⟨rfl, h4, f4⟩
  have P4 := HP3.out.trans (PR.own h4 f4 (step_same _).2.2.2.1)
  clear h4 f4 HP3 HST
  go_wp2
  go_ret
  exact ⟨rfl, P4.post⟩

end Go.Proofs.YtoaiofjcjjkfaaaGreatDoor
/- Write, that makes a file; Write, refused. -/
namespace Go.Proofs.YtoaiofjcjjkfaaaGreatDoor
open Go.RowKit Go.Maps Go.Sort
set_option linter.unusedVariables false

set_option maxHeartbeats 400000 in
theorem write_bad (d : Nat) (R : Rp) (S : AS) (l : List UInt8) (data : ByteArray) (E : Int) (w : World) (h : At w d R S) (hl : l.length ≤ maxLen) (hE : checkOf S.on [l] = E) (hb : E ≠ 0) :
    Calls Tryz.prog 110 #[.pointer (some ⟨d, 0, none⟩), .string ⟨l.toArray⟩, .string data] w fun e w' => e = .returned (.int .i64 E) ∧ Fr No w w' := by
  have hne2 : (E != 0) = true := by simpa using hb
  have hcon := check_new d R S l E w h hE hl
  clear hE hb hl
  go_enter Tryz.func110, Tryz.ntmps110
  go_wp2_with fail
  refine hcon.mono ?_
  rintro e w' ⟨rfl, rfl⟩
  go_wp2
  go_ret
  exact ⟨rfl, (Fr.refl _ _).alloc _⟩

theorem len_regrown {w : World} {d b : Nat} {R : Rp} {S : AS} (h : At w d R S) (e1 : R.nm = some b) (dd : Nat) (os : Array Obj) (ty : TypeId) :
    (Builtin.len_ #[100] ty #[.map (some b)]).run Tryz.prog (grow (redrawn w dd) os) = .ok (.int .i64 (Maps.size S.names)) (grow (redrawn w dd) os) := by
  have := (h.regrown dd os).names
  rw [e1] at this
  exact World.ownsMap.len (b := b) this Tryz.underlying100 ty

set_option maxRecDepth 100000 in
set_option maxHeartbeats 1000000 in
theorem write_full2 (d : Nat) (R : Rp) (S : AS) (l : List UInt8) (data : List UInt8) (w : World) (h : At w d R S) (hW : WF S) (hl : l.length ≤ maxLen) (hE : checkOf S.on [l] = 0) (hn : look S.names l = none)
    (hsz : Maps.size S.names ≤ 1000000) (hfit : usedOf S.file S.names + data.length ≤ S.room) (hfull : 64 ≤ Maps.size S.names) :
    Calls Tryz.prog 110 #[.pointer (some ⟨d, 0, none⟩), .string ⟨l.toArray⟩, .string ⟨data.toArray⟩] w fun e w' => e = .returned (.int .i64 12) ∧ Fr No w w' := by
  have hcon := check_new d R S l 0 w h hE hl
  have hon := on_of hE
  obtain ⟨nb, fb, e1, e2⟩ := h.onn hon
  obtain ⟨w1, hw1⟩ : ∃ w1, w.alloc (.cells #[.string ⟨l.toArray⟩] 9) = w1 := ⟨_, rfl⟩
  have f1 : Fr No w w1 := by rw [← hw1]; exact (Fr.refl _ w).alloc _
  rw [hw1] at hcon
  have h1 := h.keep f1
  have hnm := h1.names
  rw [e1] at hnm
  have hrun := run_look_none (b := nb) hnm hl hn
  have c5 := (cells_all h1).2.2.2.2.2.1
  rw [e1] at c5
  have hused := used_regrown h1 hW e1 hsz
  have HU := Lib.hid hused
  have c0 : ∀ dd os, (grow (redrawn w1 dd) os).cell? ⟨d, 0, none⟩ = some (.int .i64 S.room) := fun dd os => (cells_all (h1.regrown dd os)).1
  have c5' : ∀ dd os, (grow (redrawn w1 dd) os).cell? ⟨d, 5, none⟩ = some (.map (some nb)) := fun dd os => by
    have := (cells_all (h1.regrown dd os)).2.2.2.2.2.1
    rw [e1] at this; exact this
  have hlen := len_regrown h1 e1
  obtain ⟨hU1, hU2⟩ := used_bounds h hW hsz
  have hroom := hW.room
  generalize hu : usedOf S.file S.names = U at *
  have t1 : IntKind.i64.wrap (S.room - U) = S.room - U := IntWalk.i64_in _ (by omega)
  have t2 : decide (S.room - U < (data.length : Int)) = false := by simp; omega
  have t3 : decide ((64 : Int) ≤ (Maps.size S.names : Int)) = true := by simp; omega
  have HF := Lib.hid f1
  have HC := Lib.hid hcon
  clear hused hu hn hE h hW hon e1 e2 h1 hnm f1 hl hcon
  go_enter Tryz.func110, Tryz.ntmps110
  go_wp2_with fail
  refine HC.out.mono ?_
  rintro e w' ⟨rfl, rfl⟩
  go_wp2_with fail
  refine wp_region_quiet_below mixed (by kernel_rfl) ?_
  repeat (first | go_big_quiet_step (exact HU.out _ _) | quiet_step (exact HU.out _ _))
  refine wpQuiet_nil ?_
  rintro w2 ⟨p, rfl⟩
  go_wp2
  go_ret
  exact ⟨rfl, HF.out.trans (Fr.of_below (below_regrown w1 p.d p.os)) fun _ _ hj => hj⟩

end Go.Proofs.YtoaiofjcjjkfaaaGreatDoor
/- Write, that makes a file. -/
namespace Go.Proofs.YtoaiofjcjjkfaaaGreatDoor
open Go.RowKit Go.Maps Go.Sort
set_option linter.unusedVariables false

theorem rising_len : ∀ (l : List Int) (lo hi : Int), l.Pairwise (· < ·) → (∀ x ∈ l, lo ≤ x ∧ x ≤ hi) → (l.length : Int) ≤ max 0 (hi - lo + 1)
  | [], lo, hi, _, _ => by simp; omega
  | x :: l, lo, hi, hp, hb => by
    obtain ⟨h1, h2⟩ := List.pairwise_cons.1 hp
    have hx := hb x (by simp)
    have ih := rising_len l (x + 1) hi h2 (fun y hy => by have := h1 y hy; have := hb y (by simp [hy]); omega)
    simp only [List.length_cons]
    push_cast
    omega

theorem fd_size {w : World} {d : Nat} {R : Rp} {S : AS} (h : At w d R S) (hW : WF S) : (Maps.size R.FD : Int) ≤ S.last := by
  have hl := hW.last
  cases hb : R.fb with
  | none =>
    have := h.files
    rw [hb] at this
    rw [show R.FD = .map [] from this]
    simp [Maps.size]; omega
  | some fb =>
    have hm := h.files
    rw [hb] at hm
    have ho : w.ownsMap Tryz.prog 3 ptrElem fb (Maps.size R.FD) R.FD := hm
    obtain ⟨es, he, hp, hk⟩ := ho.canon law3
    obtain ⟨es', he', hk'⟩ := ho.keysOf
    rw [he] at he'
    cases he'
    have hint : ∀ p ∈ es, ∃ n, p.1 = .int .i64 n := fun p hp => by
      obtain ⟨v, hv⟩ := hk' p hp
      obtain ⟨x, _, hx, _⟩ := Maps.keyOf_int_inv Tryz.underlying3 hv
      exact ⟨x, hx⟩
    let f : Lit × DU → Int := fun p => match p.1 with | .int _ n => n | _ => 0
    have hr := rising_len (es.map f) 1 S.last (by
      rw [List.pairwise_map]
      refine hp.imp_of_mem ?_
      intro p q hpm hqm hb
      obtain ⟨n, hn⟩ := hint p hpm
      obtain ⟨m, hm⟩ := hint q hqm
      show (match p.1 with | .int _ n => n | _ => 0) < (match q.1 with | .int _ n => n | _ => 0)
      rw [hn, hm] at hb ⊢
      simpa [Lit.before] using hb) (fun x hx => by
      obtain ⟨p, hpm, rfl⟩ := List.mem_map.1 hx
      obtain ⟨n, hn⟩ := hint p hpm
      have hh : has R.FD (.int .i64 n) = true := by
        rw [he, has_eq, List.any_eq_true]
        exact ⟨p, hpm, by rw [← hn]; exact WideAt.sameKey_self (hk p hpm)⟩
      have hfd := h.fd n
      show 1 ≤ (match p.1 with | .int _ n => n | _ => 0) ∧ (match p.1 with | .int _ n => n | _ => 0) ≤ S.last
      rw [hn]
      cases hf : S.file n with
      | none => rw [hf] at hfd; rw [show has R.FD (.int .i64 n) = false from hfd] at hh; cases hh
      | some r => have := hW.file n r hf; exact ⟨this.1, this.2.1⟩)
    rw [he, Maps.size_eq]
    rw [List.length_map] at hr
    omega

theorem opened_mem {w2 w3 : World} {d fb : Nat} {R : Rp} {S : AS} (h : At w2 d R S) (hfb : R.fb = some fb) (hn : S.file (S.last + 1) = none)
    (ho : w3.ownsMap Tryz.prog 3 ptrElem fb (Maps.size R.FD + 1) (R.FD.put (.int .i64 (S.last + 1)) (.lit (.int .i64 w2.heap.size))))
    (ht : ((w2.setCell ⟨d, 9, none⟩ (.int .i64 (S.last + 1))).alloc (.cells #[.slice none 0 0, .int .i64 0] 126)).mapTurned w3 fb) :
    PR d R S w2 (R.opened (S.last + 1) w2.heap.size) S.opened w3 := by
  have hfbd : fb ≠ d := fun e => h.apart.2.2.1 (e ▸ hfb)
  have hfl : fb < w2.heap.size := h.files.lt fb hfb
  have hs : (w2.setCell ⟨d, 9, none⟩ (.int .i64 (S.last + 1))).heap.size = w2.heap.size := by simp [World.setCell]
  have hg := ht.grown
  have hf : Fr (fun k => k = d ∨ k = fb) w2 w3 := (((Fr.refl _ w2).setCell (p := ⟨d, 9, none⟩) (fun _ => .inl rfl) _).alloc _).grown hg (fun k hk _ => .inr (by cases hk; rfl))
  have hd := h.blk.lt
  refine PR.opened h hfb hn hf ?_ (owns_tight ho) ?_ (Nat.le_refl _)
  · refine Blk.of (w := (w2.setCell ⟨d, 9, none⟩ (.int .i64 (S.last + 1))).alloc (.cells #[.slice none 0 0, .int .i64 0] 126)) ?_ (hg.block d (by simp [hs]; omega) (fun e => hfbd (by cases e; rfl)))
    exact Blk.of (h.blk.set_ 9 (.int .i64 (S.last + 1))) (Below.heap_alloc _ _ d (by rw [hs]; exact hd))
  · have hnew := Blk.new (w2.setCell ⟨d, 9, none⟩ (.int .i64 (S.last + 1))) 126 #[.slice none 0 0, .int .i64 0]
    rw [hs] at hnew
    exact hnew.of (hg.block _ (by simp [hs]) (fun e => by cases e; omega))

set_option maxRecDepth 100000 in
set_option maxHeartbeats 4000000 in
theorem write_new (d : Nat) (R : Rp) (S : AS) (l : List UInt8) (data : List UInt8) (w : World) (h : At w d R S) (hW : WF S) (hl : l.length ≤ maxLen) (hE : checkOf S.on [l] = 0) (hn : look S.names l = none)
    (hsz : Maps.size S.names ≤ 1000000) (hfit : usedOf S.file S.names + data.length ≤ S.room) (hfew : Maps.size S.names < 64) (hlast : S.last < 4611686018427387904) (hll : S.loose.length < 3000000000000) :
    Calls Tryz.prog 110 #[.pointer (some ⟨d, 0, none⟩), .string ⟨l.toArray⟩, .string ⟨data.toArray⟩] w fun e w' => e = .returned (.int .i64 S.stepE) ∧ Post d R S w ((S.made l).written (S.last + 1) { bytes := [], firm := 0 } data).step w' := by
  have hcon := check_new d R S l 0 w h hE hl
  have hon := on_of hE
  obtain ⟨nb, fb, e1, e2⟩ := h.onn hon
  obtain ⟨w1, hw1⟩ : ∃ w1, w.alloc (.cells #[.string ⟨l.toArray⟩] 9) = w1 := ⟨_, rfl⟩
  have f1 : Fr No w w1 := by rw [← hw1]; exact (Fr.refl _ w).alloc _
  rw [hw1] at hcon
  have h1 := h.keep f1
  have P1 := PR.same h f1
  have hnm := h1.names
  rw [e1] at hnm
  have hrun := run_look_none (b := nb) hnm hl hn
  have c5 := (cells_all h1).2.2.2.2.2.1
  rw [e1] at c5
  have hused := used_regrown h1 hW e1 hsz
  have HU := Lib.hid hused
  have c0 : ∀ dd os, (grow (redrawn w1 dd) os).cell? ⟨d, 0, none⟩ = some (.int .i64 S.room) := fun dd os => (cells_all (h1.regrown dd os)).1
  have c5' : ∀ dd os, (grow (redrawn w1 dd) os).cell? ⟨d, 5, none⟩ = some (.map (some nb)) := fun dd os => by
    have := (cells_all (h1.regrown dd os)).2.2.2.2.2.1
    rw [e1] at this; exact this
  have hlen := len_regrown h1 e1
  obtain ⟨hU1, hU2⟩ := used_bounds h hW hsz
  have hroom := hW.room
  generalize hu : usedOf S.file S.names = U at *
  have t1 : IntKind.i64.wrap (S.room - U) = S.room - U := IntWalk.i64_in _ (by omega)
  have t2 : decide (S.room - U < (data.length : Int)) = false := by simp; omega
  have t3 : decide ((64 : Int) ≤ (Maps.size S.names : Int)) = false := by simp; omega
  have hnone : S.file (S.last + 1) = none := by
    cases hf : S.file (S.last + 1) with
    | none => rfl
    | some r => have := (hW.file _ r hf).2.1; omega
  have hwl := hW.last
  have hwf : (Lit.int .i64 (S.last + 1)).wf = true := wf64 (by omega) (by omega)
  have hfds : Maps.size R.FD < maxLen := by have := fd_size h hW; unfold maxLen; omega
  have HC := Lib.hid hcon
  have HP1 := Lib.hid P1
  have HWF := Lib.hid hwf
  have HNN := Lib.hid hnone
  have HON := Lib.hid hon
  have hdlen : data.length ≤ 16777216 := by omega
  have HE1 := Lib.hid e1
  have HE2 := Lib.hid e2
  have hst := fun R' w' (h' : At w' d R' ((S.made l).written (S.last + 1) { bytes := [], firm := 0 } data)) => step_any d R' ((S.made l).written (S.last + 1) { bytes := [], firm := 0 } data) w' h' hW.left.2
  have HST := Lib.hid hst
  have halt := fun g w' (h' : At w' d (R.opened (S.last + 1) g) S.opened) => alter_any d (R.opened (S.last + 1) g) S.opened { frm := [], to := l, file := S.last + 1 } nb w' h' e1 (by simp [maxLen]) hl (by show Maps.size S.names < maxLen; unfold maxLen; omega) hwf hll
  have HAL := Lib.hid halt
  clear halt hst hused hu hn hE h hW hon h1 hnm f1 hl hcon P1 hwf hnone e1 e2
  go_enter Tryz.func110, Tryz.ntmps110
  go_wp2_with fail
  refine HC.out.mono ?_
  rintro e w' ⟨rfl, rfl⟩
  go_wp2_with fail
  refine wp_region_quiet_below mixed (by kernel_rfl) ?_
  repeat (first | go_big_quiet_step (exact HU.out _ _) | quiet_step (exact HU.out _ _))
  refine wpQuiet_nil ?_
  intro w2 hp
  have hb2 : Below w1.heap.size w1 w2 := by obtain ⟨p, rfl⟩ := hp; exact below_regrown _ _ _
  have P2 := HP1.out.trans (PR.same HP1.out.at_ (Fr.of_below hb2))
  have h2 := P2.at_
  have HP2 := Lib.hid P2
  have c9 := (cells_all h2).2.2.2.2.2.2.2.2.2
  have c8 := (cells_all h2).2.2.2.2.2.2.2.2.1
  rw [HE2.out] at c8
  have z9 := h2.blk.frozen 9
  have hfm := h2.files
  rw [HE2.out] at hfm
  have hfd : fb ≠ d := fun e => h2.apart.2.2.1 (e ▸ HE2.out)
  have hfm' : ((w2.setCell ⟨d, 9, none⟩ (.int .i64 (S.last + 1))).alloc (.cells #[.slice none 0 0, .int .i64 0] 126)).ownsMap Tryz.prog 3 ptrElem fb (Maps.size R.FD) R.FD :=
    (World.ownsMap.setCell (b := fb) hfm (a := ⟨d, 9, none⟩) hfd _).alloc _
  have HFM := Lib.hid hfm'
  clear hp hb2 P2 h2 HP1 HU HC c0 c5 c5' hlen hrun t1 t2 t3 hfm hfm' hfd
  go_wp2_with (at_mapUpdate; refine wpList_mapUpdate_in _ rfl _ _ _ 101 rfl 3 117 law3 Tryz.underlying101 ptrElem fb _ R.FD rfl HFM.out hfds _ _ (.int .i64 (S.last + 1)) rfl rfl (key3 _ HWF.out) (.lit (.int .i64 w2.heap.size)) [] (ptrElem_mk w2.heap.size) ?_; intro w3 hown3 hturn3; have P3 := HP2.out.trans (opened_mem HP2.out.at_ HE2.out HNN.out hown3 hturn3); have HP3 := Lib.hid P3; clear hown3 hturn3 P3 HP2 HFM)
  refine (HAL.out _ _ HP3.out.at_).mono ?_
  rintro e w4 ⟨rfl, hpost⟩
  obtain ⟨R2, P4'⟩ := hpost
  have P4 := HP3.out.trans P4'
  have h4 : At w4 d R2 (S.made l) := P4.at_
  have hr4 : (S.made l).file (S.last + 1) = some { bytes := [], firm := 0 } := upd_same _ _ _
  obtain ⟨nb2, fb2, e1', e2'⟩ := h4.onn HON.out
  have hfl := h4.files
  rw [e2'] at hfl
  have hfd := h4.fd (S.last + 1)
  rw [hr4] at hfd
  obtain ⟨hfa, hfb, hfo⟩ := hfd
  have hrun2 := run_file (b := fb2) hfl HWF.out hfa
  have c8' := (cells_all h4).2.2.2.2.2.2.2.2.1
  rw [e2'] at c8'
  have k0 : w4.cell? ⟨(R2.rc (S.last + 1)).1, 0, none⟩ = some (R2.rc (S.last + 1)).2 := hfb.cell 0
  have hq : ∀ w5, w4.grownBy w5 (R2.rc (S.last + 1)).2.ownBlock → w5.cell? ⟨(R2.rc (S.last + 1)).1, 0, none⟩ = some (R2.rc (S.last + 1)).2 ∧ w5.frozen? ⟨(R2.rc (S.last + 1)).1, 0, none⟩ = false := fun w5 hg => by
    have := blk_grown hfb hg (fun e => own_blk_ne hfo e hfb (by decide) rfl)
    exact ⟨this.cell 0, this.frozen 0⟩
  have HQ := Lib.hid hq
  have HO := Lib.hid hfo
  have HP4 := Lib.hid P4
  have HR4 := Lib.hid hr4
  have hblen : ([] : List UInt8).length + data.length ≤ 140737488355328 := by simp; omega
  have HBL := Lib.hid hblen
  clear P4' P4 h4 hr4 e1' e2' hfl hfa hfb hfo hq hblen c8 c9 z9 HP3 HAL
  go_wp2_with (at_builtin; refine wpList_app rfl _ _ rfl _ _ _ data rfl rfl HO.out HBL.out ?_; intro vA vc w5 ho5 hg5 hv5; have q0 := (HQ.out w5 hg5).1; have qf := (HQ.out w5 hg5).2; have P5 := HP4.out.trans (app_end (S := S.made l) HP4.out.at_ HR4.out ho5 hg5 hv5); have HP5 := Lib.hid P5; clear ho5 hg5 hv5 P5 HQ HO HP4)
  have P5 := HP5.out
  rw [show ([] : List UInt8).length + data.length = data.length from by simp] at P5
  refine (HST.out _ _ P5.at_).mono ?_
  rintro e w6 ⟨rfl, h6, f6⟩
  have P6 := P5.trans (PR.own h6 f6 (step_same _).2.2.2.1)
  clear h6 f6 HP5 P5 HST
  go_wp2
  go_ret
  exact ⟨rfl, P6.post⟩

end Go.Proofs.YtoaiofjcjjkfaaaGreatDoor
/- Settle: the names are firm, and what no name stands for is forgotten. -/
namespace Go.Proofs.YtoaiofjcjjkfaaaGreatDoor
open Go.RowKit Go.Maps Go.Sort
set_option linter.unusedVariables false

/-- Does an entry stand for file n? -/
def stands (n : Int) (p : Lit × DU) : Bool := match p.2 with | .lit (.int .i64 m) => m == n | _ => false
def keeps (D : DU) (n : Int) : Bool := match D with | .map es => es.any (stands n) | _ => false
/-- .. that has come already -/
def kept (D : DU) (left : Lit → Bool) (n : Int) : Bool := match D with | .map es => es.any (fun p => !left p.1 && stands n p) | _ => false

def AS.settled (S : AS) : AS := { S with firm := S.names, loose := [], file := fun n => if keeps S.names n then S.file n else none }

theorem kept_start {D : DU} (c : Canon D) (n : Int) : kept D (has D) n = false := by
  obtain ⟨es, rfl, hp, hk⟩ := c
  unfold kept
  simp only
  rw [List.any_eq_false]
  intro p hpm
  have : has (.map es : DU) p.1 = true := by rw [has_eq, List.any_eq_true]; exact ⟨p, hpm, WideAt.sameKey_self (hk p hpm)⟩
  simp [this]
theorem kept_end {D : DU} {left : Lit → Bool} (h : ∀ k, left k = false) (n : Int) : kept D left n = keeps D n := by
  unfold kept keeps
  cases D with
  | map es => simp [h]
  | _ => rfl

theorem find_entry {D : DU} (c : Canon D) {kl : Lit} {v : DU} (hat : ∀ z, D.atKey kl z = v) : ∃ es p, D = .map es ∧ p ∈ es ∧ p.1 = kl ∧ p.2 = v ∧ ∀ q ∈ es, q.1 = kl → q = p := by
  obtain ⟨es, rfl, hp, hk⟩ := c
  have hh := has_true_of_atKey hat
  rw [has_eq, List.any_eq_true] at hh
  obtain ⟨p, hpm, hs⟩ := hh
  cases hf : es.find? (fun p => p.1.sameKey kl) with
  | none => rw [List.find?_eq_none] at hf; exact absurd hs (hf p hpm)
  | some q =>
    have hq := List.mem_of_find?_eq_some hf
    have hqs := List.find?_some hf
    have hqk : q.1 = kl := by
      by_cases e : q.1 = kl
      · exact e
      · rw [sameKey_ne e] at hqs; cases hqs
    have hv := hat .nil
    simp only [DataW.atKey, hf] at hv
    refine ⟨es, q, rfl, hq, hqk, hv, fun r hr hrk => ?_⟩
    have hap := apart_of_rising hp
    rcases List.getElem_of_mem hr with ⟨i, hi, rfl⟩
    rcases List.getElem_of_mem hq with ⟨j, hj, e⟩
    by_cases hij : i = j
    · subst hij; exact e
    · exfalso
      have hk' : es[i].1 = es[j].1 := by rw [hrk, e, hqk]
      rcases Nat.lt_or_gt_of_ne hij with h | h
      · exact List.pairwise_iff_getElem.1 hap i j hi hj h hk'
      · exact List.pairwise_iff_getElem.1 hap j i hj hi h hk'.symm

theorem kept_step {D : DU} (c : Canon D) {left : Lit → Bool} {kl : Lit} {m : Int} (hk : WideAt.IsKeyLit kl) (hat : ∀ z, D.atKey kl z = .lit (.int .i64 m)) (n : Int) :
    kept D (fun z => left z && !z.sameKey kl) n = (kept D left n || m == n) := by
  obtain ⟨es, p, rfl, hpm, hpk, hpv, hu⟩ := find_entry c hat
  unfold kept
  simp only
  rw [Bool.eq_iff_iff]
  simp only [List.any_eq_true, Bool.or_eq_true]
  constructor
  · rintro ⟨q, hq, h⟩
    rw [Bool.and_eq_true] at h
    obtain ⟨h1, h2⟩ := h
    by_cases e : q.1 = kl
    · have := hu q hq e
      subst this
      right
      unfold stands at h2
      rw [hpv] at h2
      exact h2
    · left
      refine ⟨q, hq, ?_⟩
      rw [sameKey_ne e] at h1
      simp at h1
      simp [h1, h2]
  · rintro (⟨q, hq, h⟩ | h)
    · refine ⟨q, hq, ?_⟩
      rw [Bool.and_eq_true] at h ⊢
      refine ⟨?_, h.2⟩
      have := h.1
      simp at this
      simp [this]
    · refine ⟨p, hpm, ?_⟩
      rw [Bool.and_eq_true]
      refine ⟨?_, ?_⟩
      · rw [hpk, WideAt.sameKey_self hk]; simp
      · unfold stands; rw [hpv]; exact h

theorem keeps_look {D : DU} (c : Canon D) {l : List UInt8} {n : Int} (hat : ∀ z, D.atKey (.string l) z = .lit (.int .i64 n)) : keeps D n = true := by
  obtain ⟨es, p, rfl, hpm, hpk, hpv, hu⟩ := find_entry c hat
  unfold keeps
  simp only
  rw [List.any_eq_true]
  exact ⟨p, hpm, by unfold stands; rw [hpv]; simp⟩

/-- What the new table of files holds. -/
def Files (R : Rp) (D Dout : DU) (left : Lit → Bool) : Prop :=
  ∀ n, has Dout (.int .i64 n) = kept D left n ∧ (kept D left n = true → ∀ z, Dout.atKey (.int .i64 n) z = .lit (.int .i64 (R.rc n).1))

theorem Files.step {R : Rp} {D Dout : DU} {left : Lit → Bool} (h : Files R D Dout left) (c : Canon D) (hm : IsMap Dout) {kl : Lit} {m : Int} (hk : WideAt.IsKeyLit kl) (hat : ∀ z, D.atKey kl z = .lit (.int .i64 m)) :
    Files R D (Dout.put (.int .i64 m) (.lit (.int .i64 (R.rc m).1))) (fun z => left z && !z.sameKey kl) := by
  intro n
  rw [kept_step c hk hat]
  by_cases e : n = m
  · subst e
    rw [has_put_same hm (isKeyI n)]
    exact ⟨by simp, fun _ z => atKey_put_same hm (isKeyI n) _ z⟩
  · have e' : (m == n) = false := by simpa using Ne.symm e
    rw [has_put_other (keyI_ne e), e', Bool.or_false]
    exact ⟨(h n).1, fun hk z => by rw [atKey_put_other (keyI_ne e)]; exact (h n).2 hk z⟩

theorem keeps_ref {w : World} {b m : Nat} {D : DU} (ho : w.ownsMap Tryz.prog 9 (plainElem Tryz.prog 3) b m D) {n : Int} (h : keeps D n = true) : ∃ l, look D l = some n := by
  obtain ⟨es, rfl, hp, hk⟩ := ho.canon law9
  obtain ⟨es', he', hk'⟩ := ho.keysOf
  cases he'
  unfold keeps at h
  simp only at h
  rw [List.any_eq_true] at h
  obtain ⟨p, hpm, hs⟩ := h
  obtain ⟨v, hv⟩ := hk' p hpm
  obtain ⟨l, hl⟩ := key_string hv
  have hh : has (.map es : DU) (.string l) = true := by rw [has_eq, List.any_eq_true]; exact ⟨p, hpm, by rw [← hl]; exact WideAt.sameKey_self (hk p hpm)⟩
  obtain ⟨c, hc⟩ := owns_ints ho l hh
  obtain ⟨es2, q, he2, hq, hqk, hqv, hu⟩ := find_entry (ho.canon law9) hc
  cases he2
  have := hu p hpm hl
  subst this
  unfold stands at hs
  rw [hqv] at hs
  have e : c = n := by simpa using hs
  subst e
  exact ⟨l, by unfold look; rw [hc .nil]⟩

theorem settle_end {w wr : World} {d b F m : Nat} {R : Rp} {S : AS} {Dout : DU} {left : Lit → Bool} (h : At w d R S) (hW : ∀ l n, look S.names l = some n → ∃ r, S.file n = some r) (hnm : R.nm = some b) (hfr : Fr (One d) w wr)
    (hbk : Blk wr d 109 #[.int .i64 S.room, .bool S.on, .bool S.armed, .int .i64 S.left, .int .i64 S.steps, .map R.nm, .map (some w.heap.size), .slice none 0 0, .map R.fb, .int .i64 S.last])
    (hout : wr.ownsMap Tryz.prog 3 ptrElem F m Dout) (hF : Files R S.names Dout left) (hl : ∀ k, left k = false) (hfm : wr.ownsMap Tryz.prog 9 (plainElem Tryz.prog 3) w.heap.size (Maps.size S.names) S.names) (hlt : w.heap.size < F) :
    ∃ R', PR d R S w R' S.settled (wr.setCell ⟨d, 8, none⟩ (.map (some F))) ∧ ∃ b c, R'.nm = some b ∧ R'.fb = some c := by
  obtain ⟨a1, a2, a3, a4, a5⟩ := h.apart
  have hdl := h.blk.lt
  have hf : Fr (One d) w (wr.setCell ⟨d, 8, none⟩ (.map (some F))) := hfr.set1 8 _
  have ne : ∀ k, foot d R S k → k ≠ d → (wr.setCell ⟨d, 8, none⟩ (.map (some F))).heap[k]? = w.heap[k]? := fun k hk hn => hf.block k (h.lt k hk) hn
  have hbs := h.names.lt b hnm
  have hnames := h.names
  rw [hnm] at hnames
  refine ⟨{ nm := R.nm, fm := some w.heap.size, fb := some F, lv := .slice none 0 0, rc := R.rc, FD := Dout }, ⟨?_, hf.mono (fun k _ hk => .inl hk), fun k hk => ?_⟩, b, F, hnm, rfl⟩
  · exact {
      blk := hbk.set_ 8 _
      names := h.names.of fun b hb => ne _ (.inr (.inl hb)) (fun e => a1 (e ▸ hb))
      firm := owns_of hfm (Below.heap_setCell _ _ _ _ (by simp; omega))
      files := owns_tight (owns_of hout (Below.heap_setCell _ _ _ _ (by simp; omega)))
      loose := World.ownsRow_nil _ 0 114 3
      fd := fun n => by
        show FileAt _ _ n (if keeps S.names n then S.file n else none)
        have hFn := hF n
        rw [kept_end hl] at hFn
        cases hk : keeps S.names n with
        | false =>
          rw [hk] at hFn
          exact hFn.1
        | true =>
          rw [hk] at hFn
          obtain ⟨l, hlk⟩ := keeps_ref (b := b) hnames hk
          obtain ⟨r, hr⟩ := hW l n hlk
          have hfd := h.fd n
          rw [hr] at hfd
          simp only [if_true]
          rw [hr]
          obtain ⟨_, g2, g3⟩ := hfd
          exact ⟨hFn.2 rfl, g2.of (ne _ (.inr (.inr (.inr (.inr (.inr ⟨n, r, hr, .inl rfl⟩))))) (a5 n r hr).1), own_of g3 fun k hk => ne _ (.inr (.inr (.inr (.inr (.inr ⟨n, r, hr, .inr hk⟩))))) (fun e => (a5 n r hr).2 (e ▸ hk))⟩
      ne1 := fun k hk e => by
        have e1 : R.nm = some k := hk
        have e2 : some w.heap.size = some k := e
        have := Option.some.inj e2
        have := h.names.lt k e1
        omega
      ne2 := fun k hk e => by
        have e1 : R.nm = some k := hk
        have e2 : some F = some k := e
        have := Option.some.inj e2
        have := h.names.lt k e1
        omega
      ne3 := fun k hk e => by
        have e1 : some w.heap.size = some k := hk
        have e2 : some F = some k := e
        have := Option.some.inj e2
        have := Option.some.inj e1
        omega
      ap := fun n1 n2 r1 r2 hne h1 h2 => by
        have h1' : (if keeps S.names n1 then S.file n1 else none) = some r1 := h1
        have h2' : (if keeps S.names n2 then S.file n2 else none) = some r2 := h2
        split at h1' <;> split at h2' <;> first | exact h.ap n1 n2 r1 r2 hne h1' h2' | cases h1' | cases h2'
      onn := fun _ => ⟨b, F, hnm, rfl⟩ }
  · rcases hk with hk | hk | hk | hk | hk | ⟨n, r, hr, hk⟩
    · exact .inl (.inl hk)
    · exact .inl (.inr (.inl hk))
    · exact .inr (by have := Option.some.inj hk; omega)
    · exact .inr (by have := Option.some.inj hk; omega)
    · simp [Value.ownBlock] at hk
    · have hr' : (if keeps S.names n then S.file n else none) = some r := hr
      split at hr'
      · exact .inl (.inr (.inr (.inr (.inr (.inr ⟨n, r, hr', hk⟩)))))
      · cases hr'

set_option maxRecDepth 100000 in
set_option maxHeartbeats 4000000 in
theorem settle_any (d : Nat) (R : Rp) (S : AS) (b : Nat) (w : World) (h : At w d R S) (hW : ∀ l n, look S.names l = some n → ∃ r, S.file n = some r) (hnm : R.nm = some b) (hsz : Maps.size S.names ≤ 1000000) :
    Calls Tryz.prog 58 #[.pointer (some ⟨d, 0, none⟩)] w fun e w' => e = .returned (.tuple #[]) ∧ ∃ R', PR d R S w R' S.settled w' ∧ ∃ b c, R'.nm = some b ∧ R'.fb = some c := by
  have c5 := (cells_all h).2.2.2.2.2.1
  rw [hnm] at c5
  have hown := h.names
  rw [hnm] at hown
  have hmm := @run_makeMap Tryz.prog
  go_enter Tryz.func58, Tryz.ntmps58
  go_wp2_with fail
  refine (clone_owns _ b _ _ w hown).mono ?_
  rintro e w1 ⟨rfl, ho1, ho2, hb1⟩
  have h1 := h.below hb1
  have d5 := (cells_all h1).2.2.2.2.2.1
  rw [hnm] at d5
  have d6 := (cells_all h1).2.2.2.2.2.2.1
  have d7 := (cells_all h1).2.2.2.2.2.2.2.1
  have z6 := h1.blk.frozen 6
  have z7 := h1.blk.frozen 7
  have hbd : b ≠ d := fun e => h.apart.1 (e ▸ hnm)
  have hr2 : (((w1.setCell ⟨d, 6, none⟩ (.map (some w.heap.size))).setCell ⟨d, 7, none⟩ (.slice none 0 0)).alloc (.map #[] 0)).ownsMap Tryz.prog 9 (plainElem Tryz.prog 3) b (Maps.size S.names) S.names :=
    ((World.ownsMap.setCell (World.ownsMap.setCell ho2 (a := ⟨d, 6, none⟩) hbd _) (a := ⟨d, 7, none⟩) hbd _)).alloc _
  have hsz2 : (((w1.setCell ⟨d, 6, none⟩ (.map (some w.heap.size))).setCell ⟨d, 7, none⟩ (.slice none 0 0)).alloc (.map #[] 0)).heap.size = w1.heap.size + 1 := by simp [World.setCell]
  have HSZ := Lib.hid hsz2
  clear hsz2
  have H := Lib.hid h
  have H1 := Lib.hid h1
  have HO1 := Lib.hid ho1
  have HB1 := Lib.hid hb1
  have HR2 := Lib.hid hr2
  have HNM := Lib.hid hnm
  have HWF := Lib.hid hW
  have hdl := h1.blk.lt
  clear h h1 ho1 ho2 hb1 hown c5 hbd hr2 hnm hW
  go_wp2_with (first
    | (at_range; refine wpList_range_own _ rfl _ 100 rfl 9 3 law9 Tryz.underlying100 (plainElem Tryz.prog 3) b _ _ rfl HR2.out ?_; intro w0 hrg0 hg0 hs0; rw [HSZ.out] at hrg0 hs0 ⊢)
    | go_in)
  have hW2 : Fr (One d) w w0 := ((((Fr.of_below HB1.out).any.trans (((Fr.set0 d w1 6 _).set1 7 _).alloc _) fun _ _ hj => hj)).grown hg0 fun k hk => by cases hk)
  have hB2 : Blk w0 d 109 #[.int .i64 S.room, .bool S.on, .bool S.armed, .int .i64 S.left, .int .i64 S.steps, .map R.nm, .map (some w.heap.size), .slice none 0 0, .map R.fb, .int .i64 S.last] := by
    have q := (H1.out.blk.set_ 6 (.map (some w.heap.size))).set_ 7 (.slice none 0 0)
    exact Blk.of q ((hg0.block d (by simp [World.setCell]; omega) (by simp)).trans (Below.heap_alloc _ _ d (by simp [World.setCell]; omega)))
  have hM2 : w0.ownsMap Tryz.prog 3 ptrElem w1.heap.size 0 (.map []) := by
    have q := World.ownsMap_made (H := Unit) ((w1.setCell ⟨d, 6, none⟩ (.map (some w.heap.size))).setCell ⟨d, 7, none⟩ (.slice none 0 0)) Tryz.prog 3 ptrElem
    have e : ((w1.setCell ⟨d, 6, none⟩ (.map (some w.heap.size))).setCell ⟨d, 7, none⟩ (.slice none 0 0)).heap.size = w1.heap.size := by simp [World.setCell]
    rw [e] at q
    exact q.kept hg0 (by simp)
  have hC : Canon S.names := by
    have := H.out.names
    rw [HNM.out] at this
    exact World.ownsMap.canon (b := b) this law9
  have hFm : w0.ownsMap Tryz.prog 9 (plainElem Tryz.prog 3) w.heap.size (Maps.size S.names) S.names := by
    have hfd : w.heap.size ≠ d := by have := H.out.blk.lt; omega
    exact (World.ownsMap.setCell (World.ownsMap.setCell HO1.out (a := ⟨d, 6, none⟩) hfd _) (a := ⟨d, 7, none⟩) hfd _).alloc _ |>.kept hg0 (by simp)
  have HC := Lib.hid hC
  have HFM := Lib.hid hFm
  have HW2 := Lib.hid hW2
  have HB2 := Lib.hid hB2
  have HM2 := Lib.hid hM2
  clear hW2 hB2 hM2 hC hFm d5 d6 d7 z6 z7
  have hws := HO1.out.lt
  have hb1s := H.out.names.lt b HNM.out
  go_frame
  go_loopw [4] (fun _ wr => ∃ (left : Lit → Bool) (cnt : Nat) (Dout : DU), wr.ranges Tryz.prog 9 (plainElem Tryz.prog 3) b (w1.heap.size + 1) (Maps.size S.names) S.names left cnt ∧ cnt ≤ Maps.size S.names ∧ wr.ownsMap Tryz.prog 3 ptrElem w1.heap.size (Maps.size S.names - cnt) Dout ∧ Files R S.names Dout left ∧
      Fr (One d) w wr ∧ Blk wr d 109 #[.int .i64 S.room, .bool S.on, .bool S.armed, .int .i64 S.left, .int .i64 S.steps, .map R.nm, .map (some w.heap.size), .slice none 0 0, .map R.fb, .int .i64 S.last] ∧ wr.ownsMap Tryz.prog 9 (plainElem Tryz.prog 3) w.heap.size (Maps.size S.names) S.names)
    (fun _ wr => wr.rangeLeft b (w1.heap.size + 1))
  case atStart =>
    exact ⟨_, _, .map [], hrg0, Nat.le_refl _, by simpa using HM2.out, fun n => ⟨by rw [kept_start HC.out]; rfl, fun hk => by rw [kept_start HC.out] at hk; cases hk⟩, HW2.out, HB2.out, HFM.out⟩
  case round =>
    obtain ⟨left, cnt, Dout, hrg, hcs, hout, hF, hfr, hbk, hfm⟩ := hrel
    have HF := Lib.hid hF
    have HFR := Lib.hid hfr
    have HBK := Lib.hid hbk
    have HOUT := Lib.hid hout
    have HFM2 := Lib.hid hfm
    have HRG := Lib.hid hrg
    clear hF hfr hbk hout hfm hrg hrg0 hg0 hmm HW2 HB2 HM2 HFM HR2
    go_wp2_with (first
      | (at_next; refine wpList_next_ranges _ rfl _ rfl 9 law9 (plainElem Tryz.prog 3) id (Value.int .i64) (fun key _ _ => ⟨key, rfl⟩) (fun v y hv => by obtain ⟨c, rfl, _⟩ := plainElem_int_inv Tryz.underlying3 hv; exact ⟨c, rfl⟩) b (w1.heap.size + 1) _ _ _ _ rfl HRG.out ?_ ?_)
      | go_in)
    · intro hc0 hl0
      have k8 := HBK.out.cell 8
      have z8 := HBK.out.frozen 8
      go_wp2
      go_end0
      exact ⟨rfl, settle_end H.out HWF.out HNM.out HFR.out HBK.out HOUT.out HF.out hl0 HFM2.out hws⟩
    · intro x c kl yl yp w3 cnt1 hkey hlx hv hat hrg1 hlt hg1 hs1 hen
      obtain ⟨c', ec, ey, hwc⟩ := plainElem_int_inv Tryz.underlying3 hv
      cases ec
      cases ey
      obtain ⟨sk, rfl⟩ := key_string hkey
      have hlk : look S.names sk = some c := by unfold look; rw [hat .nil]
      obtain ⟨r, hr⟩ := HWF.out sk c hlk
      have hbs := HBK.out.lt
      have hbk3 : Blk w3 d 109 #[.int .i64 S.room, .bool S.on, .bool S.armed, .int .i64 S.left, .int .i64 S.steps, .map R.nm, .map (some w.heap.size), .slice none 0 0, .map R.fb, .int .i64 S.last] := HBK.out.of (hg1.block d hbs (by intro e; have := Option.some.inj e; omega))
      have hfr3 : Fr (One d) w w3 := HFR.out.grown hg1 (fun k hk hkl => by have := Option.some.inj hk; omega)
      obtain ⟨fb, hfbe⟩ := H.out.fbs hr
      have hfl := H.out.files
      rw [hfbe] at hfl
      have hfbd : fb ≠ d := fun e => H.out.apart.2.2.1 (e ▸ hfbe)
      have hfl3 : w3.ownsMap Tryz.prog 3 ptrElem fb (Maps.size R.FD) R.FD := owns_of (b := fb) hfl (hfr3.block fb (World.ownsMap.lt (b := fb) hfl) hfbd)
      have hfd := H.out.fd c
      rw [hr] at hfd
      have hrun2 := run_file (b := fb) hfl3 hwc hfd.1
      have k8 := hbk3.cell 8
      simp only [hfbe] at k8
      have hout3 := HOUT.out.kept hg1 (by intro e; have := Option.some.inj e; omega)
      have hfm3 := HFM2.out.kept hg1 (by intro e; have := Option.some.inj e; omega)
      have hroom : Maps.size S.names - cnt < maxLen := by unfold maxLen; omega
      have hk3 := key3 c hwc
      have hF3 := HF.out.step HC.out HOUT.out.isMap (isKey sk) hat
      have HF3 := Lib.hid hF3
      have HO3 := Lib.hid hout3
      have HFM3 := Lib.hid hfm3
      have HR3 := Lib.hid hrg1
      have HBK3 := Lib.hid hbk3
      have HFR3 := Lib.hid hfr3
      have HK3 := Lib.hid hk3
      clear hF3 hout3 hfm3 hrg1 hbk3 hfr3 hk3 hfl3 hfl hfd hfbe hr hlk hv hat hkey hlx hg1 hs1 hwc HF HOUT HFM2 HFR HBK
      go_wp2_with (first
        | (at_mapUpdate; refine wpList_mapUpdate_own _ rfl _ _ _ 101 rfl 3 117 law3 Tryz.underlying101 ptrElem w1.heap.size _ Dout rfl HO3.out hroom _ _ (.int .i64 c) rfl rfl HK3.out (.lit (.int .i64 (R.rc c).1)) [] (ptrElem_mk _) ?_; intro w4 hown4 hg4; go_frame)
        | go_in)
      go_roundw
      case rel =>
        have hne1 : (some b : Option Nat) ≠ some w1.heap.size := by intro e; cases e; omega
        have hne2 : (some (w1.heap.size + 1) : Option Nat) ≠ some w1.heap.size := by intro e; have := Option.some.inj e; omega
        have hbs3 := HBK3.out.lt
        exact ⟨_, cnt1, _, HR3.out.kept hg4 hne1 hne2, by omega, hown4.mono (by omega), HF3.out, HFR3.out.grown hg4 (fun k hk hkl => by have := Option.some.inj hk; omega), HBK3.out.of (hg4.block d hbs3 (by intro e; have := Option.some.inj e; have := H.out.blk.lt; omega)), HFM3.out.kept hg4 (by intro e; have := Option.some.inj e; omega)⟩
      case measure => rw [(HR3.out.kept hg4 (by intro e; have := Option.some.inj e; omega) (by intro e; have := Option.some.inj e; omega)).left_eq, HRG.out.left_eq]; exact hlt

end Go.Proofs.YtoaiofjcjjkfaaaGreatDoor
/- Picks, and what a crash leaves of one file. -/
namespace Go.Proofs.YtoaiofjcjjkfaaaGreatDoor
open Go.RowKit Go.Maps Go.Sort
set_option linter.unusedVariables false

/-- A list of picks, lying in block g. -/
structure PicksAt (w : World) (g : Nat) (A : Option Addr) (n c : Nat) (ps : List Int) : Prop where
  len : n = ps.length
  cap : n ≤ c ∧ c ≤ 9223372036854775807
  rng : ∀ p ∈ ps, -9223372036854775808 ≤ p ∧ p ≤ 9223372036854775807
  at_ : 0 < n → ∃ off, A = some ⟨g, off, none⟩ ∧ ∀ j (hj : j < ps.length), w.cell? ⟨g, off + j, none⟩ = some (.int .i64 ps[j])

theorem PicksAt.of {w w' : World} {g : Nat} {A : Option Addr} {n c : Nat} {ps : List Int} (h : PicksAt w g A n c ps) (hk : 0 < n → w'.heap[g]? = w.heap[g]?) : PicksAt w' g A n c ps :=
  ⟨h.len, h.cap, h.rng, fun hn => by
    obtain ⟨off, e, hc⟩ := h.at_ hn
    exact ⟨off, e, fun j hj => (World.cell?_of_block (w := w) (hk hn)).trans (hc j hj)⟩⟩
theorem PicksAt.lt {w : World} {g : Nat} {A : Option Addr} {n c : Nat} {ps : List Int} (h : PicksAt w g A n c ps) (hn : 0 < n) : g < w.heap.size := by
  obtain ⟨off, e, hc⟩ := h.at_ hn
  exact World.block_lt_of_cell? w _ (hc 0 (by have := h.len; omega))
theorem PicksAt.nil {w : World} {g c : Nat} {A : Option Addr} (hc : c ≤ 9223372036854775807) : PicksAt w g A 0 c [] := ⟨rfl, ⟨Nat.zero_le _, hc⟩, by simp, fun h => absurd h (by omega)⟩
theorem PicksAt.fr {F : Nat → Prop} {w w' : World} {g : Nat} {A : Option Addr} {n c : Nat} {ps : List Int} (h : PicksAt w g A n c ps) (hf : Fr F w w') (hg : 0 < n → ¬ F g) : PicksAt w' g A n c ps :=
  h.of fun hn => hf.block g (h.lt hn) (hg hn)

def pickN (ps : List Int) (most : Int) : Int := match ps with | [] => 0 | p :: _ => pickOf p % (most + 1)
theorem pickN_bd (ps : List Int) (most : Int) (h : 0 ≤ most) : 0 ≤ pickN ps most ∧ pickN ps most ≤ most := by
  unfold pickN
  cases ps with
  | nil => simp; omega
  | cons p t =>
    have h1 := Int.emod_nonneg (pickOf p) (show most + 1 ≠ 0 by omega)
    have h2 := Int.emod_lt_of_pos (pickOf p) (show 0 < most + 1 by omega)
    simp only
    omega

theorem pick_any (g : Nat) (A : Option Addr) (n c : Nat) (ps : List Int) (most : Int) (w : World) (h : PicksAt w g A n c ps) (hm0 : 0 ≤ most) (hm1 : most < 9223372036854775807) :
    Calls Tryz.prog 53 #[.slice A n c, .int .i64 most] w fun e w' => ∃ A' n' c' k, e = .returned (.tuple #[.int .i64 (pickN ps most), .slice A' n' c']) ∧ w' = w.drewN k ∧ PicksAt w g A' n' c' ps.tail := by
  cases ps with
  | nil =>
    have hn : n = 0 := h.len
    subst hn
    refine (pick_none A c most w).mono ?_
    rintro e w' ⟨rfl, rfl⟩
    exact ⟨none, 0, 0, 0, rfl, rfl, PicksAt.nil (by omega)⟩
  | cons p t =>
    have hn : n = t.length + 1 := by simpa using h.len
    obtain ⟨off, rfl, hc⟩ := h.at_ (by omega)
    have hp := h.rng p (by simp)
    have h0 := hc 0 (by simp)
    refine (pick_some ⟨g, off, none⟩ n c p most w (by omega) h.cap.1 h.cap.2 (by simpa using h0) hp.1 hp.2 hm0 hm1).mono ?_
    rintro e w' ⟨rfl, k, rfl⟩
    refine ⟨_, _, _, k, rfl, rfl, ⟨by simp [hn], ⟨by have := h.cap; omega, by have := h.cap; omega⟩, fun q hq => h.rng q (by simp [List.mem_of_mem_tail (l := p :: t) hq] ), fun hn' => ?_⟩⟩
    have hc1 : c ≠ 1 := by have := h.cap; omega
    refine ⟨off + 1, by rw [if_neg hc1]; simp [Addr.add], fun j hj => ?_⟩
    have := hc (j + 1) (by simpa using hj)
    rw [show off + 1 + j = off + (j + 1) by omega]
    simpa using this

/-- A file behind a crash, and the picks that are left. -/
def FR.crash (r : FR) (ps : List Int) : FR :=
  if r.firm < r.bytes.length then { bytes := r.bytes.take (r.firm + (pickN ps (r.bytes.length - r.firm)).toNat), firm := r.firm + (pickN ps (r.bytes.length - r.firm)).toNat }
  else { bytes := r.bytes, firm := r.bytes.length }
def FR.rest (r : FR) (ps : List Int) : List Int := if r.firm < r.bytes.length then ps.tail else ps

theorem fcrash_end {w w2 : World} {k gr vc N : Nat} {r : FR} {ps : List Int} {T : Int} (hb : Blk w k 126 #[.slice (some ⟨gr, 0, none⟩) r.bytes.length vc, .int .i64 r.firm]) (ho : w.ownsRow 0 5 1 (.slice (some ⟨gr, 0, none⟩) r.bytes.length vc) r.bytes.length (r.bytes.map byteV))
    (hT : pickN ps ((r.bytes.length : Int) - r.firm) = T) (hw : w2 = w.drewN N) (ht : r.firm < r.bytes.length) (ht0 : 0 ≤ T) (ht1 : T ≤ (r.bytes.length : Int) - r.firm) :
    Fr (One k) w (((w2.setCell ⟨k, 0, none⟩ (.slice (some ⟨gr, 0, none⟩) ((r.firm : Int) + T).toNat vc)).setCell ⟨k, 1, none⟩ (.int .i64 (max ((r.firm : Int) + T) 0))).drew) ∧
    Blk (((w2.setCell ⟨k, 0, none⟩ (.slice (some ⟨gr, 0, none⟩) ((r.firm : Int) + T).toNat vc)).setCell ⟨k, 1, none⟩ (.int .i64 (max ((r.firm : Int) + T) 0))).drew) k 126 #[.slice (some ⟨gr, 0, none⟩) ((r.firm : Int) + T).toNat vc, .int .i64 (r.crash ps).firm] ∧
    (((w2.setCell ⟨k, 0, none⟩ (.slice (some ⟨gr, 0, none⟩) ((r.firm : Int) + T).toNat vc)).setCell ⟨k, 1, none⟩ (.int .i64 (max ((r.firm : Int) + T) 0))).drew).ownsRow 0 5 1 (.slice (some ⟨gr, 0, none⟩) ((r.firm : Int) + T).toNat vc) (r.crash ps).bytes.length ((r.crash ps).bytes.map byteV) := by
  subst hw
  have e1 : ((r.firm : Int) + T).toNat = r.firm + T.toNat := by omega
  have e2 : max ((r.firm : Int) + T) 0 = ((r.firm + T.toNat : Nat) : Int) := by omega
  have e3 : r.crash ps = { bytes := r.bytes.take (r.firm + T.toNat), firm := r.firm + T.toNat } := by unfold FR.crash; rw [if_pos ht, hT]
  rw [e1, e2, e3]
  have hkg : gr ≠ k := own_blk_ne ho rfl hb (by decide)
  have hl : (r.bytes.take (r.firm + T.toNat)).length = r.firm + T.toNat := by rw [List.length_take]; omega
  refine ⟨((((Fr.refl _ w).drewN N).set1 0 _).set1 1 _).drew, ?_, ?_⟩
  · have hb' : Blk (w.drewN N) k 126 #[.slice (some ⟨gr, 0, none⟩) r.bytes.length vc, .int .i64 r.firm] := hb
    exact (hb'.set_ 0 _).set_ 1 _
  · rw [hl, List.map_take]
    refine own_of (own_take ho (r.firm + T.toNat) (by omega)) (fun j hj => ?_)
    have : j = gr := by simpa [Value.ownBlock] using hj.symm
    subst this
    exact (Below.heap_setCell _ _ _ _ hkg).trans (Below.heap_setCell _ _ _ _ hkg)

set_option maxRecDepth 100000 in
set_option maxHeartbeats 2000000 in
theorem fcrash_some (k : Nat) (v : Value) (r : FR) (g : Nat) (A : Option Addr) (n c : Nat) (ps : List Int) (w : World) (hb : Blk w k 126 #[v, .int .i64 r.firm]) (ho : w.ownsRow 0 5 1 v r.bytes.length (r.bytes.map byteV)) (hlen : r.bytes.length ≤ 16777216)
    (hp : PicksAt w g A n c ps) (ht : r.firm < r.bytes.length) :
    Calls Tryz.prog 57 #[.pointer (some ⟨k, 0, none⟩), .slice A n c] w fun e w' => ∃ A' n' c' v', e = .returned (.slice A' n' c') ∧ PicksAt w g A' n' c' ps.tail ∧
      Fr (One k) w w' ∧ Blk w' k 126 #[v', .int .i64 (r.crash ps).firm] ∧ w'.ownsRow 0 5 1 v' (r.crash ps).bytes.length ((r.crash ps).bytes.map byteV) ∧ v'.ownBlock = v.ownBlock := by
  obtain ⟨vA, vc, rfl⟩ := len_row ho
  have c0 : w.cell? ⟨k, 0, none⟩ = some (.slice vA r.bytes.length vc) := hb.cell 0
  have c1 : w.cell? ⟨k, 1, none⟩ = some (.int .i64 r.firm) := hb.cell 1
  have z0 := hb.frozen 0
  have z1 := hb.frozen 1
  have e1 : IntKind.i64.wrap ((r.bytes.length : Int) - r.firm) = (r.bytes.length : Int) - r.firm := IntWalk.i64_in _ (by omega)
  obtain ⟨gr, hvA, hvc, hvm⟩ : ∃ gr, vA = some ⟨gr, 0, none⟩ ∧ r.bytes.length ≤ vc ∧ vc ≤ 9223372036854775807 := by
    rcases ho.2 with ⟨_, h0⟩ | ⟨gr, cap, cur, e, _, _, h1, h2, _⟩
    · omega
    · cases e; exact ⟨gr, rfl, h1, by unfold maxLen at h2; omega⟩
  subst hvA
  obtain ⟨ht0, ht1⟩ := pickN_bd ps ((r.bytes.length : Int) - r.firm) (by omega)
  generalize hT : pickN ps ((r.bytes.length : Int) - r.firm) = T at *
  have e2 : IntKind.i64.wrap ((r.firm : Int) + T) = (r.firm : Int) + T := IntWalk.i64_in _ (by omega)
  have HB := Lib.hid hb
  have HO := Lib.hid ho
  have HP := Lib.hid hp
  have HT := Lib.hid hT
  have HE2 := Lib.hid e2
  clear hb ho hp hT e2
  go_enter Tryz.func57, Tryz.ntmps57
  go_wp2_with fail
  go_quiet (fail)
  go_wp2_with fail
  clear e1
  have hpk := pick_any g A n c ps ((r.bytes.length : Int) - r.firm) (w.drewN nq) (HP.out.of (fun _ => rfl)) (by omega) (by omega)
  refine hpk.mono ?_
  rintro e w2 ⟨A', n', c', kk, rfl, hw2, hp2⟩
  rw [HT.out]
  have HP2 := Lib.hid hp2
  have d0 : w2.cell? ⟨k, 0, none⟩ = some (.slice (some ⟨gr, 0, none⟩) r.bytes.length vc) := by rw [hw2]; exact c0
  have d1 : w2.cell? ⟨k, 1, none⟩ = some (.int .i64 r.firm) := by rw [hw2]; exact c1
  have y0 : w2.frozen? ⟨k, 0, none⟩ = false := by rw [hw2]; exact z0
  have y1 : w2.frozen? ⟨k, 1, none⟩ = false := by rw [hw2]; exact z1
  have HW2 := Lib.hid hw2
  clear hp2 hw2 c0 c1 z0 z1 hpk
  go_wp2_with fail
  have b1 : (0 : Int) ≤ (r.firm : Int) + T := by omega
  have b2 : (r.firm : Int) + T ≤ (vc : Int) := by omega
  have e2 := HE2.out
  go_still_tail 12, (by kernel_rfl)
  change wpList _ _ _ _ _ (World.drew _)
  go_wp2
  go_ret
  obtain ⟨q1, q2, q3⟩ := fcrash_end HB.out HO.out HT.out (HW2.out.trans (World.drewN_drewN _ _ _)) ht ht0 ht1
  exact ⟨A', n', c', _, rfl, PicksAt.of (w := w.drewN nq) HP2.out (fun hn => rfl), q1, q2, q3, rfl⟩


set_option maxRecDepth 100000 in
set_option maxHeartbeats 2000000 in
theorem fcrash_none (k : Nat) (v : Value) (r : FR) (A : Option Addr) (n c : Nat) (w : World) (hb : Blk w k 126 #[v, .int .i64 r.firm]) (ho : w.ownsRow 0 5 1 v r.bytes.length (r.bytes.map byteV)) (hlen : r.bytes.length ≤ 16777216)
    (ht : ¬ r.firm < r.bytes.length) (hfl : r.firm ≤ r.bytes.length) :
    Calls Tryz.prog 57 #[.pointer (some ⟨k, 0, none⟩), .slice A n c] w fun e w' => e = .returned (.slice A n c) ∧
      Fr (One k) w w' ∧ Blk w' k 126 #[v, .int .i64 r.bytes.length] ∧ w'.ownsRow 0 5 1 v r.bytes.length (r.bytes.map byteV) := by
  obtain ⟨vA, vc, rfl⟩ := len_row ho
  have c0 : w.cell? ⟨k, 0, none⟩ = some (.slice vA r.bytes.length vc) := hb.cell 0
  have c1 : w.cell? ⟨k, 1, none⟩ = some (.int .i64 r.firm) := hb.cell 1
  have z0 := hb.frozen 0
  have z1 := hb.frozen 1
  have e1 : IntKind.i64.wrap ((r.bytes.length : Int) - r.firm) = (r.bytes.length : Int) - r.firm := IntWalk.i64_in _ (by omega)
  have t1 : decide ((0 : Int) < (r.bytes.length : Int) - r.firm) = false := by simp; omega
  have HB := Lib.hid hb
  have HO := Lib.hid ho
  clear hb ho
  go_enter Tryz.func57, Tryz.ntmps57
  go_wp2_with fail
  go_quiet (fail)
  clear e1
  go_wp2
  go_ret
  have hb' : Blk (w.drewN nq) k 126 #[.slice vA r.bytes.length vc, .int .i64 r.firm] := HB.out
  refine ⟨rfl, ((Fr.refl _ w).drewN nq).set1 1 _, hb'.set_ 1 _, own_of HO.out (fun j hj => Below.heap_setCell _ _ _ _ (own_blk_ne HO.out hj HB.out (by decide)))⟩

/-- A file's crash, whatever is loose. -/
theorem fcrash_any (k : Nat) (v : Value) (r : FR) (g : Nat) (A : Option Addr) (n c : Nat) (ps : List Int) (w : World) (hb : Blk w k 126 #[v, .int .i64 r.firm]) (ho : w.ownsRow 0 5 1 v r.bytes.length (r.bytes.map byteV)) (hlen : r.bytes.length ≤ 16777216) (hfl : r.firm ≤ r.bytes.length)
    (hp : PicksAt w g A n c ps) (hgk : 0 < n → g ≠ k) :
    Calls Tryz.prog 57 #[.pointer (some ⟨k, 0, none⟩), .slice A n c] w fun e w' => ∃ A' n' c' v', e = .returned (.slice A' n' c') ∧ PicksAt w' g A' n' c' (r.rest ps) ∧
      Fr (One k) w w' ∧ Blk w' k 126 #[v', .int .i64 (r.crash ps).firm] ∧ w'.ownsRow 0 5 1 v' (r.crash ps).bytes.length ((r.crash ps).bytes.map byteV) ∧ v'.ownBlock = v.ownBlock := by
  by_cases ht : r.firm < r.bytes.length
  · rw [show r.rest ps = ps.tail from by unfold FR.rest; rw [if_pos ht]]
    refine (fcrash_some k v r g A n c ps w hb ho hlen hp ht).mono ?_
    rintro e w' ⟨A', n', c', v', he, hp', hf, h1, h2, h3⟩
    exact ⟨A', n', c', v', he, hp'.of fun hn => by
      have h0 : 0 < n := by have a := hp'.len; have b := hp.len; have := List.length_tail (l := ps); omega
      exact hf.block g (hp.lt h0) (hgk h0), hf, h1, h2, h3⟩
  · rw [show r.rest ps = ps from by unfold FR.rest; rw [if_neg ht], show r.crash ps = { bytes := r.bytes, firm := r.bytes.length } from by unfold FR.crash; rw [if_neg ht]]
    refine (fcrash_none k v r A n c w hb ho hlen ht hfl).mono ?_
    rintro e w' ⟨he, hf, h1, h2⟩
    exact ⟨A, n, c, v, he, hp.fr hf hgk, hf, h1, h2, rfl⟩

end Go.Proofs.YtoaiofjcjjkfaaaGreatDoor
