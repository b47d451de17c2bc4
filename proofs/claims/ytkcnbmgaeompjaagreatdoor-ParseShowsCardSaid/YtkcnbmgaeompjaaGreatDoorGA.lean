/- Frames, blocks, rows: what is kept while other blocks turn. -/
import Derived.Test.YtkcnbmgaeompjaaGreatDoorRows
import Derived.Test.YtkcnbmgaeompjaaGreatDoorP2
import Derived.Lib.QuietBelow
import Derived.Deep.RegionLaw
import Derived.Deep.Cut
import Derived.Deep.CutBlock
import Derived.Deep.DeepCutAuto
import Derived.StillTailTactics
import Derived.IntWalk
import Derived.WalkKit
import Derived.WalkSpells
import Derived.WalkLawsBesides
import Derived.Deep.QuietTactic
import Derived.BigQuiet
import Derived.Lib.Hide
import Derived.Lib.AppendStr
import Derived.Maps.OwnSet
import Derived.Maps.Ext
import Derived.Deep.AppendLies
import Derived.Deep.Draws
namespace Go.Proofs.YtkcnbmgaeompjaaGreatDoor
open Go.RowKit Go.Maps
set_option linter.unusedVariables false

theorem ret_bool {a b : Bool} (h : a = b) : Ending.returned (.bool a) = Ending.returned (.bool b) := by rw [h]
theorem ret_int {k : IntKind} {a b : Int} (h : a = b) : Ending.returned (.int k a) = Ending.returned (.int k b) := by rw [h]
def byteV (u : UInt8) : Value := .int .u8 u.toNat

/-! ### frames -/
/-- Of the blocks that were there, those outside F are as they were. -/
structure Fr (F : Nat → Prop) (w w' : World) : Prop where
  os : w'.os = w.os
  tape : w'.tape = w.tape
  output : w'.output = w.output
  size : w.heap.size ≤ w'.heap.size
  block : ∀ k, k < w.heap.size → ¬ F k → w'.heap[k]? = w.heap[k]?

def No : Nat → Prop := fun _ => False

theorem Fr.refl (F : Nat → Prop) (w : World) : Fr F w w := ⟨rfl, rfl, rfl, Nat.le_refl _, fun _ _ _ => rfl⟩
theorem Fr.mono {F G : Nat → Prop} {w w' : World} (h : Fr F w w') (hFG : ∀ k, k < w.heap.size → F k → G k) : Fr G w w' :=
  ⟨h.os, h.tape, h.output, h.size, fun k hk hn => h.block k hk fun hf => hn (hFG k hk hf)⟩
theorem Fr.trans {F G : Nat → Prop} {a b c : World} (h : Fr F a b) (k : Fr G b c) (hGF : ∀ j, j < a.heap.size → G j → F j) : Fr F a c :=
  ⟨k.os.trans h.os, k.tape.trans h.tape, k.output.trans h.output, Nat.le_trans h.size k.size,
   fun j hj hn => (k.block j (Nat.lt_of_lt_of_le hj h.size) fun hg => hn (hGF j hj hg)).trans (h.block j hj hn)⟩
theorem Fr.drew {F : Nat → Prop} {a w : World} (h : Fr F a w) : Fr F a w.drew := ⟨h.os, h.tape, h.output, h.size, h.block⟩
theorem Fr.drewN {F : Nat → Prop} {a w : World} (h : Fr F a w) (n : Nat) : Fr F a (w.drewN n) := ⟨h.os, h.tape, h.output, h.size, h.block⟩
theorem Fr.alloc {F : Nat → Prop} {a w : World} (h : Fr F a w) (o : Obj) : Fr F a (w.alloc o) :=
  ⟨h.os, h.tape, h.output, by simp; have := h.size; omega, fun j hj hn => (Below.heap_alloc w o j (Nat.lt_of_lt_of_le hj h.size)).trans (h.block j hj hn)⟩
theorem Fr.setCell {F : Nat → Prop} {a w : World} (h : Fr F a w) {p : Addr} (hp : p.block < a.heap.size → F p.block) (u : Value) : Fr F a (w.setCell p u) :=
  ⟨h.os, h.tape, h.output, by simp [World.setCell]; exact h.size, fun j hj hn => (Below.heap_setCell w p u j (fun e => hn (by subst e; exact hp hj))).trans (h.block j hj hn)⟩
theorem Fr.grown {F : Nat → Prop} {a w w' : World} {row : Option Nat} (h : Fr F a w) (hg : w.grownBy w' row) (hr : ∀ k, row = some k → k < a.heap.size → F k) : Fr F a w' :=
  ⟨hg.os.trans h.os, hg.tape.trans h.tape, hg.output.trans h.output, Nat.le_trans h.size hg.size, fun j hj hn =>
    (hg.block j (Nat.lt_of_lt_of_le hj h.size) fun e => hn (hr j e.symm hj)).trans (h.block j hj hn)⟩
theorem Fr.of_below {w w' : World} (h : Below w.heap.size w w') : Fr No w w' := ⟨h.os, h.tape, h.output, h.size, fun k hk _ => h.block k hk⟩
theorem Fr.below {w w' : World} (h : Fr No w w') : Below w.heap.size w w' := ⟨h.os, h.tape, h.output, h.size, fun k hk => h.block k hk id⟩
theorem Fr.below_of {F : Nat → Prop} {B : Nat} {w w' : World} (h : Fr F w w') (hB : B ≤ w.heap.size) (hF : ∀ k, F k → B ≤ k) : Below B w w' :=
  ⟨h.os, h.tape, h.output, h.size, fun k hk => h.block k (Nat.lt_of_lt_of_le hk hB) fun hf => by have := hF k hf; omega⟩
theorem Fr.any {G : Nat → Prop} {w w' : World} (h : Fr No w w') : Fr G w w' := h.mono fun _ _ hf => hf.elim

/-! ### blocks -/
def Blk (w : World) (g : Nat) (t : TypeId) (cs : Array Value) : Prop := w.heap[g]? = some (.cells cs t (0, 0))
section
variable {w w' : World} {g : Nat} {t : TypeId} {cs : Array Value}
theorem Blk.lt (h : Blk w g t cs) : g < w.heap.size := by
  rcases Nat.lt_or_ge g w.heap.size with hlt | hge
  · exact hlt
  · unfold Blk at h; rw [Array.getElem?_eq_none hge] at h; cases h
theorem Blk.cell (h : Blk w g t cs) (i : Nat) : w.cell? ⟨g, i, none⟩ = cs[i]? := cell_of_row w g i cs t (0, 0) h
theorem Blk.frozen (h : Blk w g t cs) (i : Nat) : w.frozen? ⟨g, i, none⟩ = false := by
  unfold Blk at h
  simp [World.frozen?, h]
theorem Blk.new (w : World) (t : TypeId) (cs : Array Value) : Blk (w.alloc (.cells cs t)) w.heap.size t cs := heap_alloc_new w _
theorem Blk.set_ (h : Blk w g t cs) (i : Nat) (u : Value) : Blk (w.setCell ⟨g, i, none⟩ u) g t (cs.setIfInBounds i u) := by
  unfold Blk at h ⊢
  simp [World.setCell, Array.getElem?_modify, h]
theorem Blk.of (h : Blk w g t cs) (hk : w'.heap[g]? = w.heap[g]?) : Blk w' g t cs := hk.trans h
theorem Blk.ne_ {g' : Nat} {t' : TypeId} {cs' : Array Value} (h : Blk w g t cs) (h' : Blk w g' t' cs') (hne : t ≠ t') : g ≠ g' := by
  rintro rfl
  unfold Blk at h h'
  rw [h] at h'
  injection h' with h'
  injection h' with _ ht
  exact hne ht
end

/-! ### rows: what a row needs of the heap is its own block alone -/
theorem own_of {w w' : World} {base : Nat} {e : TypeId} {size n : Nat} {v : Value} {xs : List Value} (h : w.ownsRow base e size v n xs)
    (hk : ∀ k, v.ownBlock = some k → w'.heap[k]? = w.heap[k]?) : w'.ownsRow base e size v n xs := by
  refine ⟨h.1, ?_⟩
  rcases h.2 with h2 | ⟨g, cap, cur, rfl, hb, hh, r⟩
  · exact .inl h2
  · exact .inr ⟨g, cap, cur, rfl, hb, (hk g rfl).trans hh, r⟩
theorem own_base {w : World} {base base' : Nat} {e : TypeId} {size n : Nat} {v : Value} {xs : List Value} (h : w.ownsRow base e size v n xs) (hb : base' ≤ base) : w.ownsRow base' e size v n xs := by
  refine ⟨h.1, ?_⟩
  rcases h.2 with h2 | ⟨g, cap, cur, rfl, hg, r⟩
  · exact .inl h2
  · exact .inr ⟨g, cap, cur, rfl, by omega, r⟩
theorem own_row {w : World} {base : Nat} {e : TypeId} {size n g : Nat} {v : Value} {xs : List Value} (h : w.ownsRow base e size v n xs) (hg : v.ownBlock = some g) :
    ∃ cur, w.heap[g]? = some (.cells cur e (0, 0)) := by
  rcases h.2 with ⟨rfl, _⟩ | ⟨g', cap, cur, rfl, _, hh, _⟩
  · simp [Value.ownBlock] at hg
  · simp [Value.ownBlock] at hg; subst hg; exact ⟨cur, hh⟩
theorem own_blk_ne {w : World} {base : Nat} {e t : TypeId} {size n g k : Nat} {v : Value} {xs : List Value} {cs : Array Value} (h : w.ownsRow base e size v n xs) (hk : v.ownBlock = some k) (hg : Blk w g t cs) (hne : e ≠ t) : k ≠ g := by
  obtain ⟨cur, hc⟩ := own_row h hk
  exact Blk.ne_ (w := w) (t := e) hc hg hne
theorem own_own_ne {w : World} {base base' : Nat} {e e' : TypeId} {size size' n n' k k' : Nat} {v v' : Value} {xs xs' : List Value} (h : w.ownsRow base e size v n xs) (hk : v.ownBlock = some k) (h' : w.ownsRow base' e' size' v' n' xs') (hk' : v'.ownBlock = some k') (hne : e ≠ e') : k ≠ k' := by
  obtain ⟨cur, hc⟩ := own_row h hk
  obtain ⟨cur', hc'⟩ := own_row h' hk'
  exact Blk.ne_ (w := w) (t := e) hc hc' hne
/-- The first k of a row of one-cell elements. -/
theorem own_take {w : World} {base : Nat} {e : TypeId} {n cap : Nat} {a : Option Addr} {xs : List Value} (h : w.ownsRow base e 1 (.slice a n cap) n xs) (k : Nat) (hk : k ≤ n) : w.ownsRow base e 1 (.slice a k cap) k (xs.take k) := by
  have hl := h.1
  refine ⟨by simp [List.length_take]; omega, ?_⟩
  rcases h.2 with ⟨e1, rfl⟩ | ⟨g, cap', cur, e1, hb, hh, hnc, hcm, hs, ht⟩
  · injection e1 with e1 _ e2
    subst e1; subst e2
    exact .inl ⟨by rw [show k = 0 by omega], by omega⟩
  · injection e1 with e1 _ e2
    subst e1; subst e2
    refine .inr ⟨g, cap, cur, rfl, hb, hh, by omega, hcm, hs, ?_⟩
    rw [← ht, List.take_take]
    congr 1; omega

end Go.Proofs.YtkcnbmgaeompjaaGreatDoor
/- Leaves: kinds of bytes, runs, keywords. -/
namespace Go.Proofs.YtkcnbmgaeompjaaGreatDoor
open Go.RowKit Go.Maps
set_option linter.unusedVariables false

def kwN (k : Nat) : Tx := kws.getD k []
theorem kwN_mem : ∀ k, k < 17 → kwN k ∈ kws := by decide +kernel
theorem mem_kwN {t : Tx} (h : t ∈ kws) : ∃ k, k < 17 ∧ kwN k = t := by
  obtain ⟨k, hk, e⟩ := List.mem_iff_getElem.1 h
  refine ⟨k, hk, ?_⟩
  unfold kwN
  rw [List.getD_eq_getElem?_getD, List.getElem?_eq_getElem hk, e]; rfl
/-- The program's tables, and a number of the library's that may be any. -/
structure Lr (w : World) : Prop where
  kinds : ∀ b : UInt8, b.toNat < 128 → w.cell? ⟨1, b.toNat, none⟩ = some (.int .u8 (kindB b : Nat))
  kws : ∀ k, k < 17 → w.cell? ⟨2, k, none⟩ = some (.string ⟨(kwN k).toArray⟩)
  ml : ∃ m, w.cell? ⟨5, 0, none⟩ = some (.int .i64 m)
theorem Lr.lt {w : World} (h : Lr w) : 5 < w.heap.size := by
  obtain ⟨m, hm⟩ := h.ml
  exact World.block_lt_of_cell? (a := ⟨5, 0, none⟩) _ hm
theorem Lr.keep {B : Nat} {w w' : World} (h : Lr w) (hB : 5 < B) (hb : Below B w w') : Lr w' where
  kinds := fun b hl => (hb.cell (p := ⟨1, b.toNat, none⟩) (by show 1 < B; omega)).trans (h.kinds b hl)
  kws := fun k hk => (hb.cell (p := ⟨2, k, none⟩) (by show 2 < B; omega)).trans (h.kws k hk)
  ml := by
    obtain ⟨m, hm⟩ := h.ml
    exact ⟨m, (hb.cell (p := ⟨5, 0, none⟩) hB).trans hm⟩
theorem len_data (s : ByteArray) : s.data.toList.length = s.size := Array.length_toList
theorem u8_lt (c : UInt8) : (0 : Int) ≤ (c.toNat : Int) ∧ (c.toNat : Int) < 256 := by have := c.toNat_lt; omega
theorem kind_high : ∀ b : UInt8, 128 ≤ b.toNat → kindB b = 0 := all_bytes (p := fun b => 128 ≤ b.toNat → kindB b = 0) (by decide +kernel)

set_option maxRecDepth 100000 in
theorem kindOf_any (b : UInt8) (w : World) (hL : Lr w) :
    Calls Tryz.prog 108 #[.int .u8 (b.toNat : Nat)] w fun e w' => e = .returned (.int .u8 (kindB b : Nat)) ∧ w = w' := by
  have h0 := u8_lt b
  by_cases h : b.toNat < 128
  · have hc := hL.kinds b h
    clear hL
    generalize kindB b = k at *
    go_enter Tryz.func108, Tryz.ntmps108
    go_wp2
    go_ret
    exact ⟨rfl, rfl⟩
  · have hk := kind_high b (by omega)
    rw [hk]
    clear hL hk
    go_enter Tryz.func108, Tryz.ntmps108
    go_wp2
    go_ret
    exact ⟨rfl, rfl⟩
theorem isBlank_any (b : UInt8) (w : World) (hL : Lr w) :
    Calls Tryz.prog 50 #[.int .u8 (b.toNat : Nat)] w fun e w' => e = .returned (.bool (isBla b)) ∧ w = w' := by
  have HK := Lib.hid (kindOf_any b w hL)
  have hv : isBla b = decide ((kindB b : Int) = 1) := by
    rw [Bool.eq_iff_iff, ← kind_bla]; simp; omega
  have HV := Lib.hid hv
  clear hL hv
  generalize kindB b = k at *
  go_enter Tryz.func50, Tryz.ntmps50
  go_wp2_with (go_at_call 108; refine HK.out.mono ?_; rintro e w' ⟨rfl, rfl⟩)
  go_ret
  exact ⟨ret_bool (by rw [HV.out]; rfl), rfl⟩
theorem isDigit_any (b : UInt8) (w : World) (hL : Lr w) :
    Calls Tryz.prog 110 #[.int .u8 (b.toNat : Nat)] w fun e w' => e = .returned (.bool (isDig b)) ∧ w = w' := by
  have HK := Lib.hid (kindOf_any b w hL)
  have hv : isDig b = decide ((kindB b : Int) = 3) := by
    rw [Bool.eq_iff_iff, ← kind_dig]; simp; omega
  have HV := Lib.hid hv
  clear hL hv
  generalize kindB b = k at *
  go_enter Tryz.func110, Tryz.ntmps110
  go_wp2_with (go_at_call 108; refine HK.out.mono ?_; rintro e w' ⟨rfl, rfl⟩)
  go_ret
  exact ⟨ret_bool (by rw [HV.out]; rfl), rfl⟩
theorem goesOn_any (b : UInt8) (w : World) (hL : Lr w) :
    Calls Tryz.prog 92 #[.int .u8 (b.toNat : Nat)] w fun e w' => e = .returned (.bool (goB b)) ∧ w = w' := by
  have HK := Lib.hid (kindOf_any b w hL)
  have HD := Lib.hid (isDigit_any b w hL)
  have HV : Hid (goB b = (isLet b || isDig b)) := Lib.hid rfl
  have hl : isLet b = decide ((kindB b : Int) = 2) := by
    rw [Bool.eq_iff_iff, ← kind_let]; simp; omega
  have HL := Lib.hid hl
  clear hL hl
  generalize kindB b = k at *
  by_cases h2 : k = 2
  · subst h2
    go_enter Tryz.func92, Tryz.ntmps92
    go_wp2_with (first | (go_at_call 108; refine HK.out.mono ?_; rintro e w' ⟨rfl, rfl⟩) | (go_at_call 110; refine HD.out.mono ?_; rintro e w' ⟨rfl, rfl⟩))
    go_ret
    exact ⟨ret_bool (by rw [HV.out, HL.out]; rfl), rfl⟩
  · have h2' : ((k : Int) == 2) = false := by simp; omega
    have hl2 : isLet b = false := by rw [HL.out]; simp; omega
    have HL2 := Lib.hid hl2
    clear hl2 HL
    go_enter Tryz.func92, Tryz.ntmps92
    go_wp2_with (first | (go_at_call 108; refine HK.out.mono ?_; rintro e w' ⟨rfl, rfl⟩) | (go_at_call 110; refine HD.out.mono ?_; rintro e w' ⟨rfl, rfl⟩))
    go_ret
    exact ⟨ret_bool (by rw [HV.out, HL2.out]; rfl), rfl⟩
set_option maxRecDepth 100000 in
theorem first_any (s : ByteArray) (w : World) (hL : Lr w) :
    Calls Tryz.prog 51 #[.string s] w fun e w' => e = .returned (.int .u8 (firstB s.data.toList : Nat)) ∧ w = w' := by
  cases hs : s.data.toList with
  | nil =>
    have e : s = ⟨#[]⟩ := by apply ByteArray.ext; apply Array.ext'; simpa using hs
    subst e
    clear hL hs
    go_enter Tryz.func51, Tryz.ntmps51
    go_wp2
    go_ret
    exact ⟨rfl, rfl⟩
  | cons b l =>
    have HK := Lib.hid (kindOf_any b w hL)
    have hz : 0 < s.size := by
      have h1 : s.data.toList.length = s.size := len_data s
      rw [hs, List.length_cons] at h1
      omega
    have hne : s.toList.isEmpty = false := by rw [ByteArray.toList_eq, hs]; rfl
    have hb : s[0] = b := by
      have h1 : s.data.toList[0]'(by rw [hs]; simp) = b := by simp [hs]
      exact h1
    have HB := Lib.hid hb
    clear hL hs hb
    unfold firstB
    go_enter Tryz.func51, Tryz.ntmps51
    go_wp2_with (go_at_call 108; first | (refine (by rw [HB.out]; exact HK.out : Calls Tryz.prog 108 #[.int .u8 (s[0].toNat : Nat)] w fun e w' => e = .returned (.int .u8 (kindB b : Nat)) ∧ w = w').mono ?_; rintro e w' ⟨rfl, rfl⟩))
    go_ret
    exact ⟨rfl, rfl⟩
end Go.Proofs.YtkcnbmgaeompjaaGreatDoor
/- Runs of bytes; keywords. -/
namespace Go.Proofs.YtkcnbmgaeompjaaGreatDoor
open Go.RowKit Go.Maps
set_option linter.unusedVariables false

def AllTo (p : UInt8 → Bool) (s : ByteArray) (k : Nat) : Prop := ∀ j (h : j < s.size), j < k → p s[j] = true
theorem AllTo.zero (p : UInt8 → Bool) (s : ByteArray) : AllTo p s 0 := fun j h hj => by omega
theorem AllTo.succ {p : UInt8 → Bool} {s : ByteArray} {k : Nat} (H : AllTo p s k) (hk : k < s.size) (h : p s[k] = true) : AllTo p s (k + 1) := by
  intro j hj hjk
  rcases Nat.lt_or_eq_of_le (Nat.le_of_lt_succ hjk) with h1 | rfl
  · exact H j hj h1
  · exact h
theorem get_data (s : ByteArray) (j : Nat) (h : j < s.size) : s.data.toList[j]'(by rw [len_data]; exact h) = s[j] := rfl
theorem runB_to {p : UInt8 → Bool} {s : ByteArray} {k : Nat} (hk : k ≤ s.size) (h1 : AllTo p s k) (h2 : ∀ h : k < s.size, p s[k] = false) : runB p s.data.toList = k :=
  runB_eq p _ k (by rw [len_data]; exact hk) (fun j h hj => h1 j (by rw [len_data] at h; exact h) hj) (fun h => h2 (by rw [len_data] at h; exact h))
theorem ext_toList (s : ByteArray) (a b : Nat) : (s.extract a b).data.toList = (s.data.toList.take b).drop a := by
  rw [ByteArray.data_extract, Array.toList_extract]
  simp [List.extract, List.drop_take]
theorem mk_toList (s : ByteArray) : (⟨s.data.toList.toArray⟩ : ByteArray) = s := by
  apply ByteArray.ext; simp
theorem mk_eq {s : ByteArray} {l : Tx} (h : s.data.toList = l) : s = ⟨l.toArray⟩ := by rw [← h, mk_toList]

set_option maxHeartbeats 1000000 in
theorem run_blank (s : ByteArray) (w : World) (hL : Lr w) (hs : s.size ≤ maxLen) :
    Calls Tryz.prog 48 #[.string s, .func (.func 50) #[] #[]] w fun e w' => e = .returned (.int .i64 (runB isBla s.data.toList : Nat)) ∧ w = w' := by
  have HK : Hid (∀ b : UInt8, Calls Tryz.prog 50 #[.int .u8 (b.toNat : Nat)] w fun e w' => e = .returned (.bool (isBla b)) ∧ w = w') := Lib.hid fun b => isBlank_any b w hL
  have HE : Hid (∀ k : Nat, k ≤ s.size → AllTo isBla s k → (∀ h : k < s.size, isBla s[k] = false) → runB isBla s.data.toList = k) := Lib.hid fun k hk h1 h2 => runB_to hk h1 h2
  clear hL
  unfold maxLen at hs
  go_enter Tryz.func48, Tryz.ntmps48
  go_wp2
  go_loop [5, 8] (fun _ i => ∃ k : Nat, k ≤ s.size ∧ i = .int .i64 k ∧ AllTo isBla s k) (fun _ i => s.size - (intOf i).toNat)
  case atStart => exact ⟨0, Nat.zero_le _, rfl, AllTo.zero _ _⟩
  case round =>
    obtain ⟨k, hk, rfl, H⟩ := hrel
    by_cases hlt : k < s.size
    · have hb := u8_lt s[k]
      go_wp2_with (go_at_call 50; refine (HK.out _).mono ?_; rintro e w' ⟨rfl, rfl⟩)
      · have hn : (!isBla s[k]) = true := by assumption
        go_ret
        exact ⟨ret_int (by rw [HE.out k (by omega) H fun _ => by simpa using hn]), rfl⟩
      · have hn : (!isBla s[k]) = false := by assumption
        refine ⟨⟨k + 1, by omega, by go_num, H.succ hlt (by simpa using hn)⟩, by simp [intOf]; omega⟩
    · obtain rfl : k = s.size := by omega
      go_wp2
      go_ret
      exact ⟨ret_int (by rw [HE.out s.size (by omega) H fun h => absurd h (by omega)]), rfl⟩

set_option maxHeartbeats 1000000 in
theorem run_digit (s : ByteArray) (w : World) (hL : Lr w) (hs : s.size ≤ maxLen) :
    Calls Tryz.prog 48 #[.string s, .func (.func 110) #[] #[]] w fun e w' => e = .returned (.int .i64 (runB isDig s.data.toList : Nat)) ∧ w = w' := by
  have HK : Hid (∀ b : UInt8, Calls Tryz.prog 110 #[.int .u8 (b.toNat : Nat)] w fun e w' => e = .returned (.bool (isDig b)) ∧ w = w') := Lib.hid fun b => isDigit_any b w hL
  have HE : Hid (∀ k : Nat, k ≤ s.size → AllTo isDig s k → (∀ h : k < s.size, isDig s[k] = false) → runB isDig s.data.toList = k) := Lib.hid fun k hk h1 h2 => runB_to hk h1 h2
  clear hL
  unfold maxLen at hs
  go_enter Tryz.func48, Tryz.ntmps48
  go_wp2
  go_loop [5, 8] (fun _ i => ∃ k : Nat, k ≤ s.size ∧ i = .int .i64 k ∧ AllTo isDig s k) (fun _ i => s.size - (intOf i).toNat)
  case atStart => exact ⟨0, Nat.zero_le _, rfl, AllTo.zero _ _⟩
  case round =>
    obtain ⟨k, hk, rfl, H⟩ := hrel
    by_cases hlt : k < s.size
    · have hb := u8_lt s[k]
      go_wp2_with (go_at_call 110; refine (HK.out _).mono ?_; rintro e w' ⟨rfl, rfl⟩)
      · have hn : (!isDig s[k]) = true := by assumption
        go_ret
        exact ⟨ret_int (by rw [HE.out k (by omega) H fun _ => by simpa using hn]), rfl⟩
      · have hn : (!isDig s[k]) = false := by assumption
        refine ⟨⟨k + 1, by omega, by go_num, H.succ hlt (by simpa using hn)⟩, by simp [intOf]; omega⟩
    · obtain rfl : k = s.size := by omega
      go_wp2
      go_ret
      exact ⟨ret_int (by rw [HE.out s.size (by omega) H fun h => absurd h (by omega)]), rfl⟩

set_option maxHeartbeats 1000000 in
theorem run_goes (s : ByteArray) (w : World) (hL : Lr w) (hs : s.size ≤ maxLen) :
    Calls Tryz.prog 48 #[.string s, .func (.func 92) #[] #[]] w fun e w' => e = .returned (.int .i64 (runB goB s.data.toList : Nat)) ∧ w = w' := by
  have HK : Hid (∀ b : UInt8, Calls Tryz.prog 92 #[.int .u8 (b.toNat : Nat)] w fun e w' => e = .returned (.bool (goB b)) ∧ w = w') := Lib.hid fun b => goesOn_any b w hL
  have HE : Hid (∀ k : Nat, k ≤ s.size → AllTo goB s k → (∀ h : k < s.size, goB s[k] = false) → runB goB s.data.toList = k) := Lib.hid fun k hk h1 h2 => runB_to hk h1 h2
  clear hL
  unfold maxLen at hs
  go_enter Tryz.func48, Tryz.ntmps48
  go_wp2
  go_loop [5, 8] (fun _ i => ∃ k : Nat, k ≤ s.size ∧ i = .int .i64 k ∧ AllTo goB s k) (fun _ i => s.size - (intOf i).toNat)
  case atStart => exact ⟨0, Nat.zero_le _, rfl, AllTo.zero _ _⟩
  case round =>
    obtain ⟨k, hk, rfl, H⟩ := hrel
    by_cases hlt : k < s.size
    · have hb := u8_lt s[k]
      go_wp2_with (go_at_call 92; refine (HK.out _).mono ?_; rintro e w' ⟨rfl, rfl⟩)
      · have hn : (!goB s[k]) = true := by assumption
        go_ret
        exact ⟨ret_int (by rw [HE.out k (by omega) H fun _ => by simpa using hn]), rfl⟩
      · have hn : (!goB s[k]) = false := by assumption
        refine ⟨⟨k + 1, by omega, by go_num, H.succ hlt (by simpa using hn)⟩, by simp [intOf]; omega⟩
    · obtain rfl : k = s.size := by omega
      go_wp2
      go_ret
      exact ⟨ret_int (by rw [HE.out s.size (by omega) H fun h => absurd h (by omega)]), rfl⟩

/-! ### keywords -/
theorem cap_of : ∀ b : UInt8, ¬ (97 ≤ b.toNat ∧ b.toNat ≤ 122) → capB b = b := all_bytes (p := fun b => ¬ (97 ≤ b.toNat ∧ b.toNat ≤ 122) → capB b = b) (by decide +kernel)
theorem cap_small : ∀ b : UInt8, 97 ≤ b.toNat → b.toNat ≤ 122 → (capB b).toNat = b.toNat - 32 := all_bytes (p := fun b => 97 ≤ b.toNat → b.toNat ≤ 122 → (capB b).toNat = b.toNat - 32) (by decide +kernel)
theorem capital_any (b : UInt8) (w : World) :
    Calls Tryz.prog 157 #[.int .u8 (b.toNat : Nat)] w fun e w' => e = .returned (.int .u8 ((capB b).toNat : Nat)) ∧ w = w' := by
  have h0 := u8_lt b
  by_cases h : 97 ≤ b.toNat
  · by_cases h2 : b.toNat ≤ 122
    · have hc := cap_small b h h2
      have HC := Lib.hid hc
      clear hc
      have e1 : IntKind.u8.wrap ((b.toNat : Int) - 97) = (b.toNat : Int) - 97 := IntWalk.u8_in _ (by omega)
      go_enter Tryz.func157, Tryz.ntmps157
      go_wp2
      go_ret
      refine ⟨?_, rfl⟩
      rw [HC.out]
      show Ending.returned (.int .u8 ((b.toNat : Int) - 97 + 65)) = _
      congr 2
      omega
    · have HC := Lib.hid (cap_of b (by omega))
      go_enter Tryz.func157, Tryz.ntmps157
      go_wp2
      go_ret
      exact ⟨by rw [HC.out]; rfl, rfl⟩
  · have HC := Lib.hid (cap_of b (by omega))
    go_enter Tryz.func157, Tryz.ntmps157
    go_wp2
    go_ret
    exact ⟨by rw [HC.out]; rfl, rfl⟩
end Go.Proofs.YtkcnbmgaeompjaaGreatDoor
/- Keywords: spells, keywordOf, IsKeyword. -/
namespace Go.Proofs.YtkcnbmgaeompjaaGreatDoor
open Go.RowKit Go.Maps
set_option linter.unusedVariables false

/-- The first k bytes of s, in capitals, are those of t. -/
def SpTo (s t : ByteArray) (k : Nat) : Prop := ∀ j (h : j < s.size) (h2 : j < t.size), j < k → capB s[j] = t[j]
theorem spell_no {s t : ByteArray} {k : Nat} (hk : k < s.size) (hk2 : k < t.size) (h : capB s[k] ≠ t[k]) : s.data.toList.map capB ≠ t.data.toList := by
  intro e
  apply h
  have h1 : (s.data.toList.map capB)[k]? = some (capB s[k]) := by
    rw [List.getElem?_map, List.getElem?_eq_getElem (by rw [len_data]; exact hk)]; rfl
  have h2 : t.data.toList[k]? = some t[k] := by rw [List.getElem?_eq_getElem (by rw [len_data]; exact hk2)]; rfl
  rw [e, h2] at h1
  exact (Option.some.inj h1).symm
theorem spell_yes {s t : ByteArray} (hl : s.size = t.size) (H : SpTo s t s.size) : s.data.toList.map capB = t.data.toList := by
  apply List.ext_getElem
  · rw [List.length_map, len_data, len_data, hl]
  · intro j h1 h2
    rw [List.getElem_map]
    have hj : j < s.size := by rw [List.length_map, len_data] at h1; exact h1
    exact H j hj (by omega) hj
def SpellP (s t : ByteArray) (w : World) (e : Ending) (w' : World) : Prop := e = .returned (.bool (s.data.toList.map capB == t.data.toList)) ∧ ∃ n, w' = w.drewN n
set_option maxHeartbeats 2000000 in
theorem spells_any (s t : ByteArray) (w : World) (hs : s.size ≤ maxLen) (ht : t.size ≤ maxLen) : Calls Tryz.prog 146 #[.string s, .string t] w (SpellP s t w) := by
  unfold maxLen at hs ht
  by_cases hl : s.size = t.size
  · have HNO : Hid (∀ k (h : k < s.size) (h2 : k < t.size), capB s[k] ≠ t[k] → (s.data.toList.map capB == t.data.toList) = false) := Lib.hid fun k h h2 h3 => by simpa using spell_no h h2 h3
    have HYES : Hid (SpTo s t s.size → (s.data.toList.map capB == t.data.toList) = true) := Lib.hid fun h => by simpa using spell_yes hl h
    obtain ⟨n, hn⟩ : ∃ n, s.size = n := ⟨_, rfl⟩
    have hn2 : t.size = n := by omega
    have HN := Lib.hid hn
    have HN2 := Lib.hid hn2
    rw [hn] at hs
    have hls : s.size = n := hn
    clear hl ht hn hn2
    go_enter Tryz.func146, Tryz.ntmps146
    have hlt2 : t.size = n := HN2.out
    go_wp2
    clear hls hlt2
    go_loopw [5, 13] (fun _ iv wr => ∃ k : Nat, k ≤ n ∧ iv = .int .i64 k ∧ Hid (SpTo s t k) ∧ ∃ q, wr = w.drewN q) (fun _ iv _ => n - (intOf iv).toNat)
    case atStart => exact ⟨0, Nat.zero_le _, rfl, Lib.hid (fun j h h2 hj => by omega), 0, rfl⟩
    case round =>
      obtain ⟨k, hk, rfl, HSP, q, rfl⟩ := hrel
      by_cases hlt : k < n
      · have h1 : k < s.size := by have := HN.out; omega
        have h2 : k < t.size := by have := HN2.out; omega
        have hb := u8_lt s[k]
        have hc := u8_lt t[k]
        obtain ⟨wr, hwr⟩ : ∃ wr, w.drewN q = wr := ⟨_, rfl⟩
        rw [hwr]
        have HWR := Lib.hid hwr
        have HC := fun q' => Lib.hid (Calls.quiet_of_same (P := Tryz.prog) (w := wr) (n := q') ((capital_any s[k] (wr.drewN q')).mono fun e w'' ⟨h1, h2⟩ => ⟨h1, h2.symm⟩))
        by_cases hce : capB s[k] = t[k]
        · have hbe : (((capB s[k]).toNat : Int) != (t[k].toNat : Int)) = false := by rw [hce]; simp
          have HSN : Hid (SpTo s t (k + 1)) := Lib.hid fun j hj hj2 hjk => by
            rcases Nat.lt_or_eq_of_le (Nat.le_of_lt_succ hjk) with h3 | rfl
            · exact HSP.out j hj hj2 h3
            · exact hce
          clear hce hwr
          go_upto_region 6 with fail
          go_quiet ((go_at_call 157; exact (HC _).out))
          all_goals go_wp2
          all_goals go_roundw
          all_goals first
            | (case rel => exact ⟨k + 1, by omega, by go_num, HSN, _, by rw [← HWR.out, World.drewN_drewN]⟩)
            | (case measure => simp [intOf]; omega)
        · have hbe : (((capB s[k]).toNat : Int) != (t[k].toNat : Int)) = true := by
            have : (capB s[k]).toNat ≠ t[k].toNat := fun e => hce (UInt8.toNat_inj.1 e)
            simp; omega
          have HV := Lib.hid (HNO.out k h1 h2 hce)
          clear hce hwr
          go_upto_region 6 with fail
          go_quiet ((go_at_call 157; exact (HC _).out))
          all_goals go_wp2
          all_goals go_ret
          all_goals exact ⟨ret_bool HV.out.symm, _, by rw [← HWR.out, World.drewN_drewN]⟩
      · obtain rfl : k = n := by omega
        go_wp2
        go_ret
        exact ⟨ret_bool (HYES.out (by rw [HN.out]; exact HSP.out)).symm, _, rfl⟩
  · have hne : (s.data.toList.map capB == t.data.toList) = false := by
      have : s.data.toList.map capB ≠ t.data.toList := fun e => hl (by have := congrArg List.length e; rw [List.length_map, len_data, len_data] at this; exact this)
      simpa using this
    have hn : ((s.size : Int) != (t.size : Int)) = true := by simp; omega
    have HV := Lib.hid hne
    clear hl hne
    unfold SpellP
    rw [HV.out]
    go_enter Tryz.func146, Tryz.ntmps146
    go_wp2
    go_ret
    exact ⟨rfl, 0, rfl⟩
end Go.Proofs.YtkcnbmgaeompjaaGreatDoor
/- Keywords: the keyword that a text is. -/
namespace Go.Proofs.YtkcnbmgaeompjaaGreatDoor
open Go.RowKit Go.Maps
set_option linter.unusedVariables false

def kwsV : Array Value := (kws.map fun k => Value.string ⟨k.toArray⟩).toArray
theorem kwsV_at : ∀ {k : Nat}, k < 17 → kwsV[k]? = some (.string ⟨(kwN k).toArray⟩) := by
  intro k hk
  have h : k = 0 ∨ k = 1 ∨ k = 2 ∨ k = 3 ∨ k = 4 ∨ k = 5 ∨ k = 6 ∨ k = 7 ∨ k = 8 ∨ k = 9 ∨ k = 10 ∨ k = 11 ∨ k = 12 ∨ k = 13 ∨ k = 14 ∨ k = 15 ∨ k = 16 := by omega
  rcases h with rfl | rfl | rfl | rfl | rfl | rfl | rfl | rfl | rfl | rfl | rfl | rfl | rfl | rfl | rfl | rfl | rfl <;> rfl
theorem index_agg (cs : Array Value) (k : Nat) (v : Value) (hk : k < 17) (hv : cs[k]? = some v) (w : World) : (Instr.index 155 (.agg cs) (.int .i64 (k : Nat))).run Tryz.prog w = .ok v w := by
  have h1 : ¬ 17 ≤ k := by omega
  simp [Instr.index, asIntOf, run_underlying Tryz.underlying155, part, h1, hv, go_sem]
def cells17 (a : Addr) : Sem (Array Value) := loadCellsFrom a 0 17 #[]
theorem to17 (a : Addr) : loadCellsFrom a 0 17 #[] = cells17 a := rfl
theorem to17' (a : Addr) : loadCells a 17 = cells17 a := rfl
theorem load17 (w : World) (hL : Lr w) : (cells17 ⟨2, 0, none⟩).run Tryz.prog w = .ok kwsV w := by
  have h2 := run_loadCellsFrom (P := Tryz.prog) w ⟨2, 0, none⟩ (fun j => (kwsV[j]?).getD undef) 17 0 #[] (fun j hj => by
    rw [Nat.zero_add, kwsV_at hj]
    rw [show (⟨2, 0, none⟩ : Addr).add j = ⟨2, j, none⟩ by simp [Addr.add]; exact fun e => e.symm]
    exact hL.kws j hj)
  unfold cells17
  rw [h2]
  rfl
attribute [local go_sem ↓] to17 to17'
def KwP (s : ByteArray) (w : World) (e : Ending) (w' : World) : Prop := e = .returned (.string ⟨(kwOf s.data.toList).toArray⟩) ∧ ∃ n, w' = w.drewN n
theorem kw_yes {s : ByteArray} {k : Nat} (hk : k < 17) (h : s.data.toList.map capB = kwN k) : kwOf s.data.toList = kwN k := by
  unfold kwOf
  rw [h, if_pos (kwN_mem k hk)]
theorem kw_no {s : ByteArray} (h : ∀ k (hk : k < 17), s.data.toList.map capB ≠ kwN k) : kwOf s.data.toList = [] := by
  rw [kwOf_nil_iff]
  intro hm
  obtain ⟨k, hk, e⟩ := mem_kwN hm
  exact h k hk e.symm
set_option maxRecDepth 100000 in
set_option maxHeartbeats 2000000 in
theorem keywordOf_any (s : ByteArray) (w : World) (hL : Lr w) (hs : s.size ≤ maxLen) : Calls Tryz.prog 109 #[.string s] w (KwP s w) := by
  have hload := load17 w hL
  have HIX : Hid (∀ (k : Nat) (hk : k < 17) (w' : World), (Instr.index 155 (.agg kwsV) (.int .i64 (k : Nat))).run Tryz.prog w' = .ok (.string ⟨(kwN k).toArray⟩) w') := Lib.hid fun k hk w' => index_agg _ k _ hk (kwsV_at hk) w'
  generalize kwsV = K at *
  have HS := Lib.hid hs
  clear hL hs
  go_enter Tryz.func109, Tryz.ntmps109
  go_wp2
  clear hload
  go_loopw [4, 6] (fun _ iv wr => ∃ k : Nat, k ≤ 17 ∧ iv = .int .i64 k ∧ Hid (∀ j (hj : j < 17), j < k → s.data.toList.map capB ≠ kwN j) ∧ ∃ q, wr = w.drewN q) (fun _ iv _ => 17 - (intOf iv).toNat)
  case atStart => exact ⟨0, Nat.zero_le _, rfl, Lib.hid (fun j h hj => by omega), 0, rfl⟩
  case round =>
    obtain ⟨k, hk, rfl, HN, q, rfl⟩ := hrel
    by_cases hlt : k < 17
    · obtain ⟨wr, hwr⟩ : ∃ wr, w.drewN q = wr := ⟨_, rfl⟩
      rw [hwr]
      have HWR := Lib.hid hwr
      have hix := HIX.out k hlt wr
      have HSP := Lib.hid (spells_any s ⟨(kwN k).toArray⟩ wr HS.out (by
        have h1 := (kws_len _ (kwN_mem k hlt)).2
        rw [← len_data]
        unfold maxLen
        show (kwN k).length ≤ 9223372036854775807
        omega))
      have HY : Hid (s.data.toList.map capB = kwN k → kwOf s.data.toList = kwN k) := Lib.hid (kw_yes hlt)
      have HNX : Hid ((s.data.toList.map capB == kwN k) = false → ∀ j (hj : j < 17), j < k + 1 → s.data.toList.map capB ≠ kwN j) := Lib.hid fun h j hj hjk => by
        rcases Nat.lt_or_eq_of_le (Nat.le_of_lt_succ hjk) with h3 | rfl
        · exact HN.out j hj h3
        · simpa using h
      clear hwr HN
      generalize kwN k = t at *
      go_wp2_with fail
      refine HSP.out.mono ?_
      rintro e w' ⟨rfl, q', rfl⟩
      obtain ⟨b, hb⟩ : ∃ b, (s.data.toList.map capB == t) = b := ⟨_, rfl⟩
      rw [show ((s.data.toList.map capB == (⟨t.toArray⟩ : ByteArray).data.toList)) = b from hb]
      have HB := Lib.hid hb
      clear hix hb
      cases b with
      | true =>
        have HE : Hid (kwOf s.data.toList = t) := Lib.hid (HY.out (by simpa using HB.out))
        go_wp2
        go_ret
        exact ⟨by rw [HE.out]; rfl, _, by rw [← HWR.out, World.drewN_drewN]⟩
      | false =>
        go_wp2
        go_roundw
        case rel => exact ⟨k + 1, by omega, by go_num, Lib.hid (HNX.out HB.out), _, by rw [← HWR.out, World.drewN_drewN]⟩
        case measure => simp [intOf]; omega
    · obtain rfl : k = 17 := by omega
      have HE : Hid (kwOf s.data.toList = []) := Lib.hid (kw_no fun j hj => HN.out j hj hj)
      go_wp2
      go_ret
      exact ⟨by rw [HE.out]; rfl, _, rfl⟩
end Go.Proofs.YtkcnbmgaeompjaaGreatDoor
/- A scan in memory: rest, take, fail. -/
namespace Go.Proofs.YtkcnbmgaeompjaaGreatDoor
open Go.RowKit Go.Maps
set_option linter.unusedVariables false

def Wd.cells (x : Wd) : List Value := [.int .i64 (x.kind : Nat), .string ⟨x.text.toArray⟩, .int .i64 (x.pos : Nat)]
/-- Words in a row of one's own, not below B. -/
def RowW (B : Nat) (w : World) (v : Value) (l : List Wd) : Prop := w.ownsRow B 42 3 v l.length (l.flatMap Wd.cells)
/-- A scan: its block, and the row of its words. -/
structure Sc (B d : Nat) (s : ByteArray) (w : World) (v : Value) (p : Nat) (l : List Wd) (c f : Nat) : Prop where
  blk : Blk w d 84 #[.string s, .int .i64 (p : Nat), v, .int .i64 (c : Nat), .int .i64 (f : Nat)]
  row : RowW B w v l
  le : B ≤ d
  lr : Lr w
  b2 : 5 < B

theorem Sc.keep {B d : Nat} {s : ByteArray} {w w' : World} {v : Value} {p : Nat} {l : List Wd} {c f : Nat} (h : Sc B d s w v p l c f) (hf : Fr No w w') : Sc B d s w' v p l c f where
  blk := h.blk.of (hf.block d h.blk.lt id)
  row := own_of h.row fun k hk => hf.block k ((h.row.lt k hk).2) id
  le := h.le
  lr := h.lr.keep h.lr.lt (by have := hf.below; exact this.mono (by have := h.lr.lt; omega))
  b2 := h.b2
theorem Sc.apart {B d : Nat} {s : ByteArray} {w : World} {v : Value} {p : Nat} {l : List Wd} {c f : Nat} (h : Sc B d s w v p l c f) : v.ownBlock ≠ some d := fun e => own_blk_ne h.row e h.blk (by decide) rfl
theorem Sc.drewN {B d : Nat} {s : ByteArray} {w : World} {v : Value} {p : Nat} {l : List Wd} {c f : Nat} (h : Sc B d s w v p l c f) (n : Nat) : Sc B d s (w.drewN n) v p l c f := h.keep ((Fr.refl _ w).drewN n)

theorem rest_any {B d : Nat} {s : ByteArray} {w : World} {v : Value} {p : Nat} {l : List Wd} {c f : Nat} (h : Sc B d s w v p l c f) (hp : p ≤ s.size) (hs : s.size ≤ maxLen) :
    Calls Tryz.prog 49 #[.pointer (some ⟨d, 0, none⟩)] w fun e w' => e = .returned (.string (s.extract p s.size)) ∧ ∃ n, w' = w.drewN n := by
  unfold maxLen at hs
  have c0 : w.cell? ⟨d, 0, none⟩ = some (.string s) := h.blk.cell 0
  have c1 : w.cell? ⟨d, 1, none⟩ = some (.int .i64 (p : Nat)) := h.blk.cell 1
  clear h
  go_enter Tryz.func49, Tryz.ntmps49
  go_wp2
  go_quiet (fail)
  go_wp2
  go_ret
  exact ⟨rfl, _, rfl⟩

theorem info31 : (Tryz.prog.info? 42).map (fun i => (i.zero, i.size, i.bytes)) = some (some (.agg #[.int .i64 0, .string ⟨#[]⟩, .int .i64 0]), 3, 32) := by kernel_rfl
def TakeP (B d : Nat) (s : ByteArray) (w : World) (p : Nat) (l : List Wd) (e : Ending) (w' : World) : Prop := e = .returned (.tuple #[]) ∧ ∃ v, Sc B d s w' v p l 0 0 ∧ Below B w w'

theorem take_end {B d g cap p n : Nat} {s : ByteArray} {w w3 : World} {v : Value} {l : List Wd} {x : Wd} {o : Obj} (h : Sc B d s w v p l 0 0) (hg : ((w.alloc o).drew).grownBy w3 v.ownBlock) (hb3 : Blk w3 d 84 #[.string s, .int .i64 (p : Nat), v, .int .i64 (0 : Nat), .int .i64 (0 : Nat)])
    (ho3 : w3.ownsRow B 42 3 (.slice (some ⟨g, 0, none⟩) (l.length + 1) cap) (l.length + 1) (l.flatMap Wd.cells ++ x.cells)) :
    ∃ v', Sc B d s ((w3.setCell ⟨d, 2, none⟩ (.slice (some ⟨g, 0, none⟩) (l.length + 1) cap)).setCell ⟨d, 1, none⟩ (.int .i64 (n : Nat))) v' n (l ++ [x]) 0 0 ∧ Below B w ((w3.setCell ⟨d, 2, none⟩ (.slice (some ⟨g, 0, none⟩) (l.length + 1) cap)).setCell ⟨d, 1, none⟩ (.int .i64 (n : Nat))) := by
  obtain ⟨w4, hw4⟩ : ∃ w4, (w3.setCell ⟨d, 2, none⟩ (.slice (some ⟨g, 0, none⟩) (l.length + 1) cap)).setCell ⟨d, 1, none⟩ (.int .i64 (n : Nat)) = w4 := ⟨_, rfl⟩
  rw [hw4]
  have hgd : g ≠ d := own_blk_ne ho3 rfl hb3 (by decide)
  have hdl := h.blk.lt
  have hle := h.le
  have f3 : Fr (fun k => k = d ∨ v.ownBlock = some k) w w3 := (((Fr.refl _ w).alloc o).drew).grown hg fun k hk _ => .inr hk
  have f34 : Fr (fun k => k = d) w3 w4 := by
    rw [← hw4]
    exact ((Fr.refl (fun k => k = d) w3).setCell (p := ⟨d, 2, none⟩) (fun _ => rfl) _).setCell (p := ⟨d, 1, none⟩) (fun _ => rfl) _
  have f4 : Fr (fun k => k = d ∨ v.ownBlock = some k) w w4 := f3.trans f34 fun k _ hk => .inl hk
  have hbel : Below B w w4 := f4.below_of (by omega) (by
    rintro k (rfl | hk)
    · exact hle
    · exact (h.row.lt k hk).1)
  refine ⟨.slice (some ⟨g, 0, none⟩) (l.length + 1) cap, { blk := ?_, row := ?_, le := hle, lr := h.lr.keep h.b2 hbel, b2 := h.b2 }, hbel⟩
  · rw [← hw4]
    exact (hb3.set_ 2 _).set_ 1 _
  · show w4.ownsRow B 42 3 _ (l ++ [x]).length ((l ++ [x]).flatMap Wd.cells)
    have := own_of ho3 (w' := w4) (fun k hk => by
      have e : g = k := by simpa [Value.ownBlock] using hk
      subst e
      exact f34.block _ (ho3.lt g rfl).2 hgd)
    rw [List.length_append, List.flatMap_append]
    simpa [Wd.cells] using this

set_option maxRecDepth 100000 in
set_option maxHeartbeats 1600000 in
theorem take_any {B d : Nat} {s : ByteArray} {w : World} {v : Value} {p : Nat} {l : List Wd} (h : Sc B d s w v p l 0 0) (k n : Nat) (t : ByteArray) (hk : k ≤ 6) (hp : p + n ≤ s.size) (hs : s.size ≤ maxLen) (hl : l.length ≤ 5000) :
    Calls Tryz.prog 52 #[.pointer (some ⟨d, 0, none⟩), .int .i64 (k : Nat), .string t, .int .i64 (n : Nat)] w (TakeP B d s w (p + n) (l ++ [⟨k, t.data.toList, p⟩])) := by
  have HT : Hid ((⟨t.data.toList.toArray⟩ : ByteArray) = t) := Lib.hid (mk_toList t)
  have HEND : Hid (∀ (w3 : World) (o : Obj) (g cap : Nat), ((w.alloc o).drew).grownBy w3 v.ownBlock → Blk w3 d 84 #[.string s, .int .i64 (p : Nat), v, .int .i64 (0 : Nat), .int .i64 (0 : Nat)] →
      w3.ownsRow B 42 3 (.slice (some ⟨g, 0, none⟩) (l.length + 1) cap) (l.length + 1) (l.flatMap Wd.cells ++ [.int .i64 (k : Nat), .string t, .int .i64 (p : Nat)]) → TakeP B d s w (p + n) (l ++ [⟨k, t.data.toList, p⟩]) (.returned (.tuple #[])) _) :=
    Lib.hid fun w3 o g cap h1 h2 h3 => ⟨rfl, take_end (x := ⟨k, t.data.toList, p⟩) h h1 h2 (by unfold Wd.cells; rw [HT.out]; exact h3)⟩
  have hq : ∀ (o : Obj) (w3 : World), ((w.alloc o).drew).grownBy w3 v.ownBlock → w3.cell? ⟨d, 2, none⟩ = some v ∧ w3.frozen? ⟨d, 2, none⟩ = false ∧ w3.cell? ⟨d, 1, none⟩ = some (.int .i64 (p : Nat)) ∧ w3.frozen? ⟨d, 1, none⟩ = false ∧ Blk w3 d 84 #[.string s, .int .i64 (p : Nat), v, .int .i64 (0 : Nat), .int .i64 (0 : Nat)] := by
    intro o w3 hg
    have hdl := h.blk.lt
    have hb3 : Blk w3 d 84 #[.string s, .int .i64 (p : Nat), v, .int .i64 (0 : Nat), .int .i64 (0 : Nat)] := h.blk.of ((hg.block d (by simp; omega) (fun e => h.apart e.symm)).trans (Below.heap_alloc w o d hdl))
    exact ⟨hb3.cell 2, hb3.frozen 2, hb3.cell 1, hb3.frozen 1, hb3⟩
  have HQ := Lib.hid hq
  obtain ⟨i0, hi0, hz0, hz1, hz2⟩ := info_parts info31
  have HL : Hid (w.ownsRow B 42 3 v l.length (l.flatMap Wd.cells)) := Lib.hid h.row
  have c1 : w.cell? ⟨d, 1, none⟩ = some (.int .i64 (p : Nat)) := h.blk.cell 1
  have c2 : w.cell? ⟨d, 2, none⟩ = some v := h.blk.cell 2
  have hBw : B ≤ w.heap.size := by have := h.le; have := h.blk.lt; omega
  have hdw : d < w.heap.size := h.blk.lt
  unfold maxLen at hs
  have e1 : IntKind.i64.wrap ((p : Int) + (n : Int)) = ((p + n : Nat) : Int) := by rw [IntWalk.i64_in _ (by omega)]; omega
  have HE1 := Lib.hid e1
  clear h hq HT e1
  obtain ⟨q, hqn⟩ : ∃ q, p + n = q := ⟨_, rfl⟩
  rw [hqn] at HE1 HEND ⊢
  clear hqn
  go_enter Tryz.func52, Tryz.ntmps52
  go_wp2_with fail
  go_region_law (first | (refine step_append_lies _ (by rfl) _ _ _ (by rfl) B 42 i0 _ 3 32 Tryz.underlying38 hi0 hz0 hz1 hz2 rfl (by omega) v _ _ (by rfl) ((HL.out.alloc _).drew) ⟨w.heap.size, 0, none⟩ 1 1 [.int .i64 (k : Nat), .string t, .int .i64 (p : Nat)] (by rfl) (by rfl) (World.news_of_block (cs := #[.int .i64 (k : Nat), .string t, .int .i64 (p : Nat)]) (t := 42) (fr := (0, 0)) (heap_alloc_new w _)) (by simp [Value.oneCell']) (by omega) (by unfold maxLen; omega) (by omega) (by simp; omega) (w.heap.size + 1) (by simp) ?_; intro g cap w3 hown3 hgrow hat hlt; have q2 := (HQ.out _ _ hgrow).1; have qf2 := (HQ.out _ _ hgrow).2.1; have q1 := (HQ.out _ _ hgrow).2.2.1; have qf1 := (HQ.out _ _ hgrow).2.2.2.1; have HP := Lib.hid (HEND.out _ _ _ _ hgrow (HQ.out _ _ hgrow).2.2.2.2 hown3); clear hgrow hown3 hat))
  all_goals (have e1 := HE1.out; go_wp2; go_end0)
  all_goals exact HP.out
end Go.Proofs.YtkcnbmgaeompjaaGreatDoor
/- fail; the size of a text in quotes. -/
namespace Go.Proofs.YtkcnbmgaeompjaaGreatDoor
open Go.RowKit Go.Maps
set_option linter.unusedVariables false

def FailP (B d : Nat) (s : ByteArray) (w : World) (p c f : Nat) (e : Ending) (w' : World) : Prop := e = .returned (.tuple #[]) ∧ ∃ v, Sc B d s w' v p [] c f ∧ Below B w w'
set_option maxRecDepth 100000 in
theorem fail_any {B d : Nat} {s : ByteArray} {w : World} {v : Value} {p : Nat} {l : List Wd} (h : Sc B d s w v p l 0 0) (c on : Nat) (hp : p + on ≤ s.size) (hs : s.size ≤ maxLen) :
    Calls Tryz.prog 57 #[.pointer (some ⟨d, 0, none⟩), .int .i64 (c : Nat), .int .i64 (on : Nat)] w (FailP B d s w p c (p + on)) := by
  have HEND : Hid (FailP B d s w p c (p + on) (.returned (.tuple #[])) (((w.setCell ⟨d, 2, none⟩ (.slice none 0 0)).setCell ⟨d, 3, none⟩ (.int .i64 (c : Nat))).setCell ⟨d, 4, none⟩ (.int .i64 (p + on : Nat)))) := Lib.hid (by
    refine ⟨rfl, .slice none 0 0, ?_⟩
    have hb : Blk (((w.setCell ⟨d, 2, none⟩ (.slice none 0 0)).setCell ⟨d, 3, none⟩ (.int .i64 (c : Nat))).setCell ⟨d, 4, none⟩ (.int .i64 (p + on : Nat))) d 84 #[.string s, .int .i64 (p : Nat), .slice none 0 0, .int .i64 (c : Nat), .int .i64 (p + on : Nat)] := ((h.blk.set_ 2 _).set_ 3 _).set_ 4 _
    have hf : Fr (fun k => k = d) w (((w.setCell ⟨d, 2, none⟩ (.slice none 0 0)).setCell ⟨d, 3, none⟩ (.int .i64 (c : Nat))).setCell ⟨d, 4, none⟩ (.int .i64 (p + on : Nat))) :=
      (((Fr.refl (fun k => k = d) w).setCell (p := ⟨d, 2, none⟩) (fun _ => rfl) _).setCell (p := ⟨d, 3, none⟩) (fun _ => rfl) _).setCell (p := ⟨d, 4, none⟩) (fun _ => rfl) _
    have hbel : Below B w (((w.setCell ⟨d, 2, none⟩ (.slice none 0 0)).setCell ⟨d, 3, none⟩ (.int .i64 (c : Nat))).setCell ⟨d, 4, none⟩ (.int .i64 (p + on : Nat))) := hf.below_of (by have := h.le; have := h.blk.lt; omega) (by rintro k rfl; exact h.le)
    exact ⟨{ blk := hb, row := ⟨rfl, .inl ⟨rfl, rfl⟩⟩, le := h.le, lr := h.lr.keep h.b2 hbel, b2 := h.b2 }, hbel⟩)
  have c1 : w.cell? ⟨d, 1, none⟩ = some (.int .i64 (p : Nat)) := h.blk.cell 1
  have z2 := h.blk.frozen 2
  have z3 := h.blk.frozen 3
  have z4 := h.blk.frozen 4
  have c2 : w.cell? ⟨d, 2, none⟩ = some v := h.blk.cell 2
  have c3 : w.cell? ⟨d, 3, none⟩ = some (.int .i64 (0 : Nat)) := h.blk.cell 3
  have c4 : w.cell? ⟨d, 4, none⟩ = some (.int .i64 (0 : Nat)) := h.blk.cell 4
  unfold maxLen at hs
  have e1 : IntKind.i64.wrap ((p : Int) + (on : Int)) = ((p + on : Nat) : Int) := by rw [IntWalk.i64_in _ (by omega)]; omega
  obtain ⟨q, hq⟩ : ∃ q, p + on = q := ⟨_, rfl⟩
  rw [hq] at e1 HEND ⊢
  clear hq h
  go_enter Tryz.func57, Tryz.ntmps57
  go_wp2
  go_end0
  exact HEND.out

/-! ### texts in quotes -/
theorem two_any (s : ByteArray) (w : World) (hs : s.size ≤ maxLen) : Calls Tryz.prog 147 #[.string s, .string ⟨#[39, 39]⟩] w fun e w' => e = .returned (.bool (decide (2 ≤ s.size) && (s.data.toList.take 2 == [39, 39]))) ∧ w = w' := by
  unfold maxLen at hs
  by_cases h2 : 2 ≤ s.size
  · have HV : Hid ((decide (2 ≤ s.size) && (s.data.toList.take 2 == [39, 39])) = ((s.extract 0 2).toList == [39, 39])) := Lib.hid (by
      rw [ByteArray.toList_eq, ext_toList, List.drop_zero, decide_eq_true h2, Bool.true_and])
    go_enter Tryz.func147, Tryz.ntmps147
    go_wp2
    go_ret
    exact ⟨ret_bool (by first | rfl | rw [HV.out]), rfl⟩
  · have HV : Hid ((decide (2 ≤ s.size) && (s.data.toList.take 2 == [39, 39])) = false) := Lib.hid (by rw [decide_eq_false h2, Bool.false_and])
    go_enter Tryz.func147, Tryz.ntmps147
    go_wp2
    go_ret
    exact ⟨ret_bool (by first | rfl | rw [HV.out]), rfl⟩

def unqN (l : Tx) : Option Nat := (unq l).map (·.2)
theorem unqN_skip {l : Tx} {i : Nat} (h : i < l.length) (hb : l[i] ≠ 39) : unqN (l.drop i) = (unqN (l.drop (i + 1))).map (· + 1) := by
  rw [List.drop_eq_getElem_cons h]
  generalize l[i] = b at *
  unfold unqN
  cases l.drop (i + 1) with
  | nil => unfold unq; rw [if_neg hb]; rfl
  | cons c m =>
    conv => lhs; unfold unq
    rw [if_neg hb]
    cases unq (c :: m) <;> rfl
theorem unqN_two {l : Tx} {i : Nat} (h : i + 1 < l.length) (hb : l[i] = 39) (hc : l[i + 1] = 39) : unqN (l.drop i) = (unqN (l.drop (i + 2))).map (· + 2) := by
  rw [List.drop_eq_getElem_cons (by omega : i < l.length), List.drop_eq_getElem_cons h, hb, hc]
  unfold unqN
  conv => lhs; unfold unq
  rw [if_pos rfl, if_pos rfl]
  cases unq (l.drop (i + 1 + 1)) <;> rfl
theorem unqN_end {l : Tx} {i : Nat} (h : i < l.length) (hb : l[i] = 39) (hc : ∀ h2 : i + 1 < l.length, l[i + 1] ≠ 39) : unqN (l.drop i) = some 1 := by
  rw [List.drop_eq_getElem_cons h, hb]
  unfold unqN
  rcases Nat.lt_or_ge (i + 1) l.length with h2 | h2
  · rw [List.drop_eq_getElem_cons h2]
    unfold unq
    rw [if_pos rfl, if_neg (hc h2)]; rfl
  · rw [List.drop_eq_nil_of_le h2]; rfl
/-- How many bytes a text in quotes has at the beginning; 0 if it has no end. -/
def qsize (l : Tx) : Nat := match unq (l.drop 1) with | none => 0 | some x => x.2 + 1
theorem qsize_of {l : Tx} {i : Nat} {o : Option Nat} (hi : 1 ≤ i) (h : unqN (l.drop 1) = o.map (· + (i - 1))) : qsize l = match o with | none => 0 | some n => n + i := by
  unfold qsize
  unfold unqN at h
  cases hu : unq (l.drop 1) with
  | none =>
    rw [hu] at h
    cases o with
    | none => rfl
    | some n => cases h
  | some x =>
    rw [hu] at h
    cases o with
    | none => cases h
    | some n =>
      have : x.2 = n + (i - 1) := by simpa using h
      show x.2 + 1 = n + i
      omega
theorem take2_eq {l : Tx} {i : Nat} (h : i < l.length) (hb : l[i] = 39) : (decide (2 ≤ (l.drop i).length) && ((l.drop i).take 2 == [39, 39])) = true ↔ ∃ h2 : i + 1 < l.length, l[i + 1] = 39 := by
  rw [List.length_drop]
  rcases Nat.lt_or_ge (i + 1) l.length with h2 | h2
  · rw [decide_eq_true (by omega), Bool.true_and, List.drop_eq_getElem_cons h, List.drop_eq_getElem_cons h2, hb]
    simp only [h2, List.take_succ_cons, List.take_zero, beq_iff_eq, List.cons.injEq, true_and, and_true, exists_true_left]
  · rw [decide_eq_false (by omega), Bool.false_and]
    constructor
    · intro e; cases e
    · rintro ⟨h3, _⟩; omega
def QInv (l : Tx) (i : Nat) : Prop := 1 ≤ i ∧ i ≤ l.length ∧ unqN (l.drop 1) = (unqN (l.drop i)).map (· + (i - 1))
theorem QInv.zero {l : Tx} (h : 1 ≤ l.length) : QInv l 1 := ⟨by omega, h, by cases unqN (l.drop 1) <;> simp⟩
theorem QInv.next {l : Tx} {i k : Nat} (h : QInv l i) (hk : i + k ≤ l.length) (e : unqN (l.drop i) = (unqN (l.drop (i + k))).map (· + k)) : QInv l (i + k) := by
  obtain ⟨h1, h2, h3⟩ := h
  refine ⟨by omega, hk, ?_⟩
  rw [h3, e]
  cases unqN (l.drop (i + k)) with
  | none => rfl
  | some n => simp; omega
theorem QInv.done {l : Tx} {i : Nat} (h : QInv l i) (e : unqN (l.drop i) = some 1) : qsize l = i + 1 := by
  obtain ⟨h1, h2, h3⟩ := h
  rw [e] at h3
  rw [qsize_of h1 h3]
  show 1 + i = i + 1
  omega
theorem QInv.over {l : Tx} {i : Nat} (h : QInv l i) (hi : i = l.length) : qsize l = 0 := by
  obtain ⟨h1, h2, h3⟩ := h
  rw [hi, List.drop_length] at h3
  rw [← hi] at h3
  rw [qsize_of h1 (o := none) h3]

set_option maxRecDepth 100000 in
set_option maxHeartbeats 2000000 in
theorem quotedSize_any (s : ByteArray) (w : World) (h1 : 1 ≤ s.size) (hs : s.size ≤ maxLen) : Calls Tryz.prog 111 #[.string s] w fun e w' => e = .returned (.int .i64 (qsize s.data.toList : Nat)) ∧ w = w' := by
  have hl := len_data s
  have HL := Lib.hid hl
  have hq0 : QInv s.data.toList 1 := QInv.zero (by omega)
  have HQ0 := Lib.hid hq0
  have HS := Lib.hid hs
  unfold maxLen at hs
  clear hl hq0
  go_enter Tryz.func111, Tryz.ntmps111
  go_wp2
  go_loop [3] (fun iv => ∃ k : Nat, iv = .int .i64 k ∧ k ≤ s.size ∧ 1 ≤ k ∧ Hid (QInv s.data.toList k)) (fun iv => s.size - (intOf iv).toNat)
  case atStart => exact ⟨1, rfl, h1, Nat.le_refl _, HQ0⟩
  case round =>
    obtain ⟨k, rfl, hk, hk1, HQ⟩ := hrel
    by_cases hlt : k < s.size
    · have hb := u8_lt s[k]
      have hkl : k < s.data.toList.length := by rw [HL.out]; exact hlt
      have hg : s.data.toList[k] = s[k] := rfl
      by_cases h39 : s[k] = 39
      · have hne : ((s[k].toNat : Int) != 39) = false := by rw [h39]; rfl
        have HT : Hid ((decide (2 ≤ (s.extract k s.size).size) && ((s.extract k s.size).data.toList.take 2 == [39, 39])) = true ↔ ∃ h2 : k + 1 < s.data.toList.length, s.data.toList[k + 1] = 39) := Lib.hid (by
          rw [← len_data, ext_toList, show s.data.toList.take s.size = s.data.toList by rw [← HL.out, List.take_length]]
          exact take2_eq hkl (hg.trans h39))
        have HTW := Lib.hid (two_any (s.extract k s.size) w (by
          rw [← len_data, ext_toList, List.length_drop]
          have := HL.out
          unfold maxLen
          have := List.length_take_le s.size s.data.toList
          omega))
        generalize (decide (2 ≤ (s.extract k s.size).size) && ((s.extract k s.size).data.toList.take 2 == [39, 39])) = tw at *
        cases tw with
        | true =>
          have h2 := HT.out.1 rfl
          have hk2 : k + 2 ≤ s.size := by obtain ⟨h3, _⟩ := h2; rw [HL.out] at h3; omega
          have HN : Hid (QInv s.data.toList (k + 2)) := Lib.hid (HQ.out.next (by rw [HL.out]; exact hk2) (by
            obtain ⟨h3, h4⟩ := h2
            exact unqN_two h3 (hg.trans h39) h4))
          clear h2 hg h39
          go_wp2_with (go_at_call 147; refine HTW.out.mono ?_; rintro e w' ⟨rfl, rfl⟩)
          refine ⟨⟨k + 2, by go_num, by omega, by omega, HN⟩, by simp [intOf]; omega⟩
        | false =>
          have HN : Hid (qsize s.data.toList = k + 1) := Lib.hid (HQ.out.done (unqN_end hkl (hg.trans h39) fun h2 h3 => by
            have := HT.out.2 ⟨h2, h3⟩; cases this))
          clear hg h39
          go_wp2_with (go_at_call 147; refine HTW.out.mono ?_; rintro e w' ⟨rfl, rfl⟩)
          go_ret
          exact ⟨ret_int (by rw [HN.out]; omega), rfl⟩
      · have hne : ((s[k].toNat : Int) != 39) = true := by
          have : s[k].toNat ≠ 39 := fun e => h39 (UInt8.toNat_inj.1 e)
          simp; omega
        have HN : Hid (QInv s.data.toList (k + 1)) := Lib.hid (HQ.out.next (by omega) (unqN_skip hkl h39))
        clear hg h39
        go_wp2
        refine ⟨⟨k + 1, by go_num, by omega, by omega, HN⟩, by simp [intOf]; omega⟩
    · obtain rfl : k = s.size := by omega
      have HN : Hid (qsize s.data.toList = 0) := Lib.hid (HQ.out.over HL.out.symm)
      go_wp2
      go_ret
      exact ⟨ret_int (by rw [HN.out]; rfl), rfl⟩
theorem qsize_le {l : Tx} (h : qsize l ≠ 0) : 2 ≤ qsize l ∧ qsize l ≤ l.length ∧ ∃ t n, unq (l.drop 1) = some (t, n) ∧ qsize l = n + 1 ∧ (l.drop 1).take (n - 1) = dbl t := by
  unfold qsize at *
  cases hu : unq (l.drop 1) with
  | none => rw [hu] at h; exact absurd rfl h
  | some x =>
    obtain ⟨t, n⟩ := x
    obtain ⟨r, h1, h2, h3⟩ := unq_inv _ _ _ hu
    have hl := congrArg List.length h1
    rw [List.length_drop, List.length_append, List.length_cons] at hl
    refine ⟨by show 2 ≤ n + 1; omega, by show n + 1 ≤ _; omega, t, n, rfl, rfl, ?_⟩
    rw [h1, h3, Nat.add_sub_cancel, take_app]
end Go.Proofs.YtkcnbmgaeompjaaGreatDoor
/- letters, digits, sign. -/
namespace Go.Proofs.YtkcnbmgaeompjaaGreatDoor
open Go.RowKit Go.Maps
set_option linter.unusedVariables false

def StepP (B d : Nat) (s : ByteArray) (w : World) (p : Nat) (l : List Wd) (r : Tk) (e : Ending) (w' : World) : Prop :=
  e = .returned (.tuple #[]) ∧ match r with
    | .bad c on => ∃ v, Sc B d s w' v p [] c (p + on) ∧ Below B w w'
    | .good k t n => ∃ v, Sc B d s w' v (p + n) (l ++ [⟨k, t, p⟩]) 0 0 ∧ Below B w w'
theorem below_drewN (B : Nat) (w : World) (n : Nat) : Below B w (w.drewN n) := ⟨rfl, rfl, rfl, Nat.le_refl _, fun _ _ => rfl⟩
theorem step_take {B d : Nat} {s : ByteArray} {w w1 : World} {v : Value} {p : Nat} {l : List Wd} {q : Nat} (h : Sc B d s w v p l 0 0) (hw : w.drewN q = w1) (k n : Nat) (t : ByteArray) (hk : k ≤ 6) (hp : p + n ≤ s.size) (hs : s.size ≤ maxLen) (hl : l.length ≤ 5000) {r : Tk} (hr : r = .good k t.data.toList n) :
    Calls Tryz.prog 52 #[.pointer (some ⟨d, 0, none⟩), .int .i64 (k : Nat), .string t, .int .i64 (n : Nat)] w1 (StepP B d s w p l r) := by
  subst hw
  refine (take_any (h.drewN q) k n t hk hp hs hl).mono ?_
  rintro e w' ⟨he, v', h', hb⟩
  rw [hr]
  exact ⟨he, v', h', (below_drewN B w q).trans hb⟩
theorem step_fail {B d : Nat} {s : ByteArray} {w w1 : World} {v : Value} {p : Nat} {l : List Wd} {q : Nat} (h : Sc B d s w v p l 0 0) (hw : w.drewN q = w1) (c on : Nat) (hp : p + on ≤ s.size) (hs : s.size ≤ maxLen) {r : Tk} (hr : r = .bad c on) :
    Calls Tryz.prog 57 #[.pointer (some ⟨d, 0, none⟩), .int .i64 (c : Nat), .int .i64 (on : Nat)] w1 (StepP B d s w p l r) := by
  subst hw
  refine (fail_any (h.drewN q) c on hp hs).mono ?_
  rintro e w' ⟨he, v', h', hb⟩
  rw [hr]
  exact ⟨he, v', h', (below_drewN B w q).trans hb⟩

set_option maxRecDepth 100000 in
set_option maxHeartbeats 2000000 in
theorem letters_any {B d : Nat} {s : ByteArray} {w : World} {v : Value} {p : Nat} {l : List Wd} (h : Sc B d s w v p l 0 0) (r : ByteArray) (hr : p + r.size ≤ s.size) (hs : s.size ≤ maxLen) (hl : l.length ≤ 5000) :
    Calls Tryz.prog 53 #[.pointer (some ⟨d, 0, none⟩), .string r] w (StepP B d s w p l (lettersT r.data.toList)) := by
  have hrm : r.size ≤ maxLen := by omega
  have hle := runB_le goB r.data.toList
  rw [len_data] at hle
  have HR := Lib.hid (run_goes r w h.lr hrm)
  have hT : lettersT r.data.toList = if kwOf (r.data.toList.take (runB goB r.data.toList)) ≠ [] then .good 2 (kwOf (r.data.toList.take (runB goB r.data.toList))) (runB goB r.data.toList)
    else if 32 < runB goB r.data.toList then .bad 45 0 else .good 1 (r.data.toList.take (runB goB r.data.toList)) (runB goB r.data.toList) := rfl
  rw [hT]
  generalize runB goB r.data.toList = n at *
  have hx : (r.extract 0 n).data.toList = r.data.toList.take n := by rw [ext_toList, List.drop_zero]
  have HK := Lib.hid (keywordOf_any (r.extract 0 n) w h.lr (by rw [← len_data, hx, List.length_take, len_data]; unfold maxLen at *; omega))
  have hmaxs := hs
  unfold maxLen at hmaxs
  rw [← hx]
  have hn : p + n ≤ s.size := by omega
  obtain ⟨kw, hkw⟩ : ∃ kw, kwOf (r.extract 0 n).data.toList = kw := ⟨_, rfl⟩
  unfold KwP at HK
  rw [hkw] at HK ⊢
  have hsz : r.size ≤ 9223372036854775807 := by omega
  by_cases h1 : kw ≠ []
  · rw [if_pos h1]
    have hke : kw.isEmpty = false := by cases kw with | nil => exact absurd rfl h1 | cons _ _ => rfl
    have HC : Hid (∀ q w1, w.drewN q = w1 → Calls Tryz.prog 52 #[.pointer (some ⟨d, 0, none⟩), .int .i64 2, .string ⟨kw.toArray⟩, .int .i64 (n : Nat)] w1 (StepP B d s w p l (.good 2 kw n))) := Lib.hid fun q w1 hw => step_take h hw 2 n ⟨kw.toArray⟩ (by omega) hn hs hl rfl
    clear h hT hx hkw h1 hs
    go_enter Tryz.func53, Tryz.ntmps53
    go_wp2_with fail
    refine HR.out.mono ?_
    rintro e w' ⟨rfl, rfl⟩
    go_wp2_with fail
    refine HK.out.mono ?_
    rintro e w' ⟨rfl, q, hw⟩
    have HC2 := Lib.hid (HC.out q w' hw.symm)
    clear hw
    go_wp2_with fail
    refine HC2.out.mono ?_
    intro e w2 h2
    have H2 := Lib.hid h2
    obtain ⟨rfl, _⟩ := h2
    go_wp2
    go_end0
    exact H2.out
  · rw [if_neg h1]
    have hke : kw.isEmpty = true := by cases kw with | nil => rfl | cons _ _ => exact absurd (by simp) h1
    by_cases h32 : 32 < n
    · rw [if_pos h32]
      have HC : Hid (∀ q w1, w.drewN q = w1 → Calls Tryz.prog 57 #[.pointer (some ⟨d, 0, none⟩), .int .i64 45, .int .i64 0] w1 (StepP B d s w p l (.bad 45 0))) := Lib.hid fun q w1 hw => step_fail h hw 45 0 (by omega) hs rfl
      clear h hT hx hkw h1 hs
      go_enter Tryz.func53, Tryz.ntmps53
      go_wp2_with fail
      refine HR.out.mono ?_
      rintro e w' ⟨rfl, rfl⟩
      go_wp2_with fail
      refine HK.out.mono ?_
      rintro e w' ⟨rfl, q, hw⟩
      have HC2 := Lib.hid (HC.out q w' hw.symm)
      clear hw
      go_wp2_with fail
      refine HC2.out.mono ?_
      intro e w2 h2
      have H2 := Lib.hid h2
      obtain ⟨rfl, _⟩ := h2
      go_wp2
      go_end0
      exact H2.out
    · rw [if_neg h32]
      have HC : Hid (∀ q w1, w.drewN q = w1 → Calls Tryz.prog 52 #[.pointer (some ⟨d, 0, none⟩), .int .i64 1, .string (r.extract 0 n), .int .i64 (n : Nat)] w1 (StepP B d s w p l (.good 1 (r.extract 0 n).data.toList n))) := Lib.hid fun q w1 hw => step_take h hw 1 n (r.extract 0 n) (by omega) hn hs hl rfl
      clear h hT hx hkw h1 hs
      go_enter Tryz.func53, Tryz.ntmps53
      go_wp2_with fail
      refine HR.out.mono ?_
      rintro e w' ⟨rfl, rfl⟩
      go_wp2_with fail
      refine HK.out.mono ?_
      rintro e w' ⟨rfl, q, hw⟩
      have HC2 := Lib.hid (HC.out q w' hw.symm)
      clear hw
      go_wp2_with fail
      refine HC2.out.mono ?_
      intro e w2 h2
      have H2 := Lib.hid h2
      obtain ⟨rfl, _⟩ := h2
      go_wp2
      go_end0
      exact H2.out
end Go.Proofs.YtkcnbmgaeompjaaGreatDoor
/- digits, sign. -/
namespace Go.Proofs.YtkcnbmgaeompjaaGreatDoor
open Go.RowKit Go.Maps
set_option linter.unusedVariables false

set_option maxRecDepth 100000 in
set_option maxHeartbeats 2000000 in
theorem digits_any {B d : Nat} {s : ByteArray} {w : World} {v : Value} {p : Nat} {l : List Wd} (h : Sc B d s w v p l 0 0) (r : ByteArray) (hr : p + r.size ≤ s.size) (hs : s.size ≤ maxLen) (hl : l.length ≤ 5000) :
    Calls Tryz.prog 54 #[.pointer (some ⟨d, 0, none⟩), .string r] w (StepP B d s w p l (digitsT r.data.toList)) := by
  have hrm : r.size ≤ maxLen := by omega
  have hle := runB_le isDig r.data.toList
  rw [len_data] at hle
  have HR := Lib.hid (run_digit r w h.lr hrm)
  have hT : digitsT r.data.toList = if 1 < runB isDig r.data.toList ∧ r.data.toList.head? = some 48 then .bad 40 0
    else if 19 < runB isDig r.data.toList then .bad 45 0
    else if firstB (r.data.toList.drop (runB isDig r.data.toList)) = 2 then .bad 40 (runB isDig r.data.toList) else .good 3 (r.data.toList.take (runB isDig r.data.toList)) (runB isDig r.data.toList) := rfl
  rw [hT]
  generalize runB isDig r.data.toList = n at *
  have hx : (r.extract 0 n).data.toList = r.data.toList.take n := by rw [ext_toList, List.drop_zero]
  have hy : (r.extract n r.size).data.toList = r.data.toList.drop n := by rw [ext_toList, show r.data.toList.take r.size = r.data.toList by rw [← len_data, List.take_length]]
  have HF := Lib.hid (first_any (r.extract n r.size) w h.lr)
  have hmaxs := hs
  unfold maxLen at hmaxs
  rw [← hx]
  rw [← hy]
  have hn : p + n ≤ s.size := by omega
  obtain ⟨fb, hfb⟩ : ∃ fb, firstB (r.extract n r.size).data.toList = fb := ⟨_, rfl⟩
  rw [hfb] at HF ⊢
  have hsz : r.size ≤ 9223372036854775807 := by omega
  have hhead : ∀ hz : 0 < r.size, r.data.toList.head? = some r[0] := fun hz => by
    rw [List.head?_eq_getElem?, List.getElem?_eq_getElem (by rw [len_data]; exact hz)]; rfl
  clear hT hx hy hfb
  by_cases h1 : 1 < n
  · have hz : 0 < r.size := by omega
    have hd := hhead hz
    have hb := u8_lt r[0]
    by_cases h48 : r[0] = 48
    · rw [if_pos ⟨h1, by rw [hd, h48]⟩]
      have he : ((r[0].toNat : Int) == 48) = true := by rw [h48]; rfl
      clear hd hhead h48
      have HC : Hid (Calls Tryz.prog 57 #[.pointer (some ⟨d, 0, none⟩), .int .i64 40, .int .i64 0] w (StepP B d s w p l (.bad 40 0))) := Lib.hid (step_fail (q := 0) h rfl 40 0 (by omega) hs rfl)
      clear h hs
      go_enter Tryz.func54, Tryz.ntmps54
      go_wp2_with (first | (go_at_call 48; refine HR.out.mono ?_; rintro e w' ⟨rfl, rfl⟩) | (go_at_call 51; refine HF.out.mono ?_; rintro e w' ⟨rfl, rfl⟩) | (go_at_call 57; refine HC.out.mono ?_; intro e w2 h2; have H2 := Lib.hid h2; obtain ⟨rfl, _⟩ := h2))
      go_end0
      exact H2.out
    · have h48n : ¬ (1 < n ∧ r.data.toList.head? = some 48) := fun e => h48 (by have := e.2; rw [hd] at this; exact Option.some.inj this)
      rw [if_neg h48n]
      have he : ((r[0].toNat : Int) == 48) = false := by
        have : r[0].toNat ≠ 48 := fun e => h48 (UInt8.toNat_inj.1 e)
        simp; omega
      clear hd hhead h48 h48n
      by_cases h19 : 19 < n
      · rw [if_pos h19]
        have HC : Hid (Calls Tryz.prog 57 #[.pointer (some ⟨d, 0, none⟩), .int .i64 45, .int .i64 0] w (StepP B d s w p l (.bad 45 0))) := Lib.hid (step_fail (q := 0) h rfl 45 0 (by omega) hs rfl)
        clear h hs
        go_enter Tryz.func54, Tryz.ntmps54
        go_wp2_with (first | (go_at_call 48; refine HR.out.mono ?_; rintro e w' ⟨rfl, rfl⟩) | (go_at_call 51; refine HF.out.mono ?_; rintro e w' ⟨rfl, rfl⟩) | (go_at_call 57; refine HC.out.mono ?_; intro e w2 h2; have H2 := Lib.hid h2; obtain ⟨rfl, _⟩ := h2))
        go_end0
        exact H2.out
      · rw [if_neg h19]
        by_cases h2 : fb = 2
        · rw [if_pos h2]
          subst h2
          have HC : Hid (Calls Tryz.prog 57 #[.pointer (some ⟨d, 0, none⟩), .int .i64 40, .int .i64 (n : Nat)] w (StepP B d s w p l (.bad 40 n))) := Lib.hid (step_fail (q := 0) h rfl 40 n (by omega) hs rfl)
          clear h hs
          go_enter Tryz.func54, Tryz.ntmps54
          go_wp2_with (first | (go_at_call 48; refine HR.out.mono ?_; rintro e w' ⟨rfl, rfl⟩) | (go_at_call 51; refine HF.out.mono ?_; rintro e w' ⟨rfl, rfl⟩) | (go_at_call 57; refine HC.out.mono ?_; intro e w2 h2; have H2 := Lib.hid h2; obtain ⟨rfl, _⟩ := h2))
          go_end0
          exact H2.out
        · rw [if_neg h2]
          have h2' : ((fb : Int) == 2) = false := by simp; omega
          have HC : Hid (Calls Tryz.prog 52 #[.pointer (some ⟨d, 0, none⟩), .int .i64 3, .string (r.extract 0 n), .int .i64 (n : Nat)] w (StepP B d s w p l (.good 3 (r.extract 0 n).data.toList n))) := Lib.hid (step_take (q := 0) h rfl 3 n (r.extract 0 n) (by omega) hn hs hl rfl)
          clear h hs
          go_enter Tryz.func54, Tryz.ntmps54
          go_wp2_with (first | (go_at_call 48; refine HR.out.mono ?_; rintro e w' ⟨rfl, rfl⟩) | (go_at_call 51; refine HF.out.mono ?_; rintro e w' ⟨rfl, rfl⟩) | (go_at_call 52; refine HC.out.mono ?_; intro e w2 h2; have H2 := Lib.hid h2; obtain ⟨rfl, _⟩ := h2))
          go_end0
          exact H2.out
  · rw [if_neg (fun e => h1 e.1), if_neg (by omega)]
    clear hhead
    by_cases h2 : fb = 2
    · rw [if_pos h2]
      subst h2
      have HC : Hid (Calls Tryz.prog 57 #[.pointer (some ⟨d, 0, none⟩), .int .i64 40, .int .i64 (n : Nat)] w (StepP B d s w p l (.bad 40 n))) := Lib.hid (step_fail (q := 0) h rfl 40 n (by omega) hs rfl)
      clear h hs
      go_enter Tryz.func54, Tryz.ntmps54
      go_wp2_with (first | (go_at_call 48; refine HR.out.mono ?_; rintro e w' ⟨rfl, rfl⟩) | (go_at_call 51; refine HF.out.mono ?_; rintro e w' ⟨rfl, rfl⟩) | (go_at_call 57; refine HC.out.mono ?_; intro e w2 h2; have H2 := Lib.hid h2; obtain ⟨rfl, _⟩ := h2))
      go_end0
      exact H2.out
    · rw [if_neg h2]
      have h2' : ((fb : Int) == 2) = false := by simp; omega
      have HC : Hid (Calls Tryz.prog 52 #[.pointer (some ⟨d, 0, none⟩), .int .i64 3, .string (r.extract 0 n), .int .i64 (n : Nat)] w (StepP B d s w p l (.good 3 (r.extract 0 n).data.toList n))) := Lib.hid (step_take (q := 0) h rfl 3 n (r.extract 0 n) (by omega) hn hs hl rfl)
      clear h hs
      go_enter Tryz.func54, Tryz.ntmps54
      go_wp2_with (first | (go_at_call 48; refine HR.out.mono ?_; rintro e w' ⟨rfl, rfl⟩) | (go_at_call 51; refine HF.out.mono ?_; rintro e w' ⟨rfl, rfl⟩) | (go_at_call 52; refine HC.out.mono ?_; intro e w2 h2; have H2 := Lib.hid h2; obtain ⟨rfl, _⟩ := h2))
      go_end0
      exact H2.out

set_option maxRecDepth 100000 in
set_option maxHeartbeats 2000000 in
theorem sign_any {B d : Nat} {s : ByteArray} {w : World} {v : Value} {p : Nat} {l : List Wd} (h : Sc B d s w v p l 0 0) (r : ByteArray) (hr : p + r.size ≤ s.size) (hr1 : 1 ≤ r.size) (hs : s.size ≤ maxLen) (hl : l.length ≤ 5000) :
    Calls Tryz.prog 56 #[.pointer (some ⟨d, 0, none⟩), .string r] w (StepP B d s w p l (signT r.data.toList)) := by
  have hmaxs := hs
  unfold maxLen at hmaxs
  have hx : ∀ m, (r.extract 0 m).data.toList = r.data.toList.take m := fun m => by rw [ext_toList, List.drop_zero]
  have hx2 : ∀ m, (r.extract 0 m).toList = r.data.toList.take m := fun m => by rw [ByteArray.toList_eq, hx]
  by_cases h2 : 2 ≤ r.size
  · obtain ⟨X, hX⟩ : ∃ X, (r.extract 0 2).toList = X := ⟨_, rfl⟩
    have hT : signT r.data.toList = if (X == [60, 62] || X == [60, 61] || X == [62, 61]) = true then .good 5 (r.extract 0 2).data.toList 2 else .good 5 (r.extract 0 1).data.toList 1 := by
      rw [hx, hx, ← hX, hx2]; rfl
    rw [hT]
    clear hT hx hx2
    by_cases e1 : X = [60, 62]
    · rw [if_pos (by rw [e1]; rfl)]
      have t1 : (X == [60, 62]) = true := by rw [e1]; rfl
      have HC : Hid (Calls Tryz.prog 52 #[.pointer (some ⟨d, 0, none⟩), .int .i64 5, .string (r.extract 0 2), .int .i64 2] w (StepP B d s w p l (.good 5 (r.extract 0 2).data.toList 2))) := Lib.hid (step_take (q := 0) h rfl 5 2 (r.extract 0 2) (by omega) (by omega) hs hl rfl)
      clear e1
      clear h hs
      go_enter Tryz.func56, Tryz.ntmps56
      go_wp2_with fail
      refine HC.out.mono ?_
      intro e w2 hw2
      have H2 := Lib.hid hw2
      obtain ⟨rfl, _⟩ := hw2
      go_wp2
      go_end0
      exact H2.out
    · have t1 : (X == [60, 62]) = false := by simpa using e1
      by_cases e2 : X = [60, 61]
      · rw [if_pos (by rw [e2]; rfl)]
        have t2 : (X == [60, 61]) = true := by rw [e2]; rfl
        have HC : Hid (Calls Tryz.prog 52 #[.pointer (some ⟨d, 0, none⟩), .int .i64 5, .string (r.extract 0 2), .int .i64 2] w (StepP B d s w p l (.good 5 (r.extract 0 2).data.toList 2))) := Lib.hid (step_take (q := 0) h rfl 5 2 (r.extract 0 2) (by omega) (by omega) hs hl rfl)
        clear e1 e2
        clear h hs
        go_enter Tryz.func56, Tryz.ntmps56
        go_wp2_with fail
        refine HC.out.mono ?_
        intro e w2 hw2
        have H2 := Lib.hid hw2
        obtain ⟨rfl, _⟩ := hw2
        go_wp2
        go_end0
        exact H2.out
      · have t2 : (X == [60, 61]) = false := by simpa using e2
        by_cases e3 : X = [62, 61]
        · rw [if_pos (by rw [e3]; rfl)]
          have t3 : (X == [62, 61]) = true := by rw [e3]; rfl
          have HC : Hid (Calls Tryz.prog 52 #[.pointer (some ⟨d, 0, none⟩), .int .i64 5, .string (r.extract 0 2), .int .i64 2] w (StepP B d s w p l (.good 5 (r.extract 0 2).data.toList 2))) := Lib.hid (step_take (q := 0) h rfl 5 2 (r.extract 0 2) (by omega) (by omega) hs hl rfl)
          clear e1 e2 e3
          clear h hs
          go_enter Tryz.func56, Tryz.ntmps56
          go_wp2_with fail
          refine HC.out.mono ?_
          intro e w2 hw2
          have H2 := Lib.hid hw2
          obtain ⟨rfl, _⟩ := hw2
          go_wp2
          go_end0
          exact H2.out
        · have t3 : (X == [62, 61]) = false := by simpa using e3
          rw [if_neg (by rw [t1, t2, t3]; decide)]
          have HC : Hid (Calls Tryz.prog 52 #[.pointer (some ⟨d, 0, none⟩), .int .i64 5, .string (r.extract 0 1), .int .i64 1] w (StepP B d s w p l (.good 5 (r.extract 0 1).data.toList 1))) := Lib.hid (step_take (q := 0) h rfl 5 1 (r.extract 0 1) (by omega) (by omega) hs hl rfl)
          clear e1 e2 e3
          clear h hs
          go_enter Tryz.func56, Tryz.ntmps56
          go_wp2_with fail
          refine HC.out.mono ?_
          intro e w2 hw2
          have H2 := Lib.hid hw2
          obtain ⟨rfl, _⟩ := hw2
          go_wp2
          go_end0
          exact H2.out
  · have e1 : r.size = 1 := by omega
    obtain ⟨X, hX⟩ : ∃ X, (r.extract 0 1).toList = X := ⟨_, rfl⟩
    have hXl : X.length ≤ 1 := by rw [← hX, hx2]; exact List.length_take_le _ _
    have t1 : (X == [60, 62]) = false := by
      have : X ≠ [60, 62] := fun e => by rw [e] at hXl; simp at hXl
      simpa using this
    have t2 : (X == [60, 61]) = false := by
      have : X ≠ [60, 61] := fun e => by rw [e] at hXl; simp at hXl
      simpa using this
    have t3 : (X == [62, 61]) = false := by
      have : X ≠ [62, 61] := fun e => by rw [e] at hXl; simp at hXl
      simpa using this
    have hT : signT r.data.toList = .good 5 (r.extract 0 1).data.toList 1 := by
      have e2 : r.data.toList.take 2 = X := by
        rw [← hX, hx2, List.take_of_length_le (by rw [len_data]; omega), List.take_of_length_le (by rw [len_data]; omega)]
      unfold signT twoB
      rw [e2, t1, t2, t3, hx]; rfl
    rw [hT]
    clear hT hx hx2 hXl
    have hz : r.size = 1 := e1
    have HC : Hid (Calls Tryz.prog 52 #[.pointer (some ⟨d, 0, none⟩), .int .i64 5, .string (r.extract 0 1), .int .i64 1] w (StepP B d s w p l (.good 5 (r.extract 0 1).data.toList 1))) := Lib.hid (step_take (q := 0) h rfl 5 1 (r.extract 0 1) (by omega) (by omega) hs hl rfl)
    clear h hs
    go_enter Tryz.func56, Tryz.ntmps56
    go_wp2_with fail
    refine HC.out.mono ?_
    intro e w2 hw2
    have H2 := Lib.hid hw2
    obtain ⟨rfl, _⟩ := hw2
    go_wp2
    go_end0
    exact H2.out

end Go.Proofs.YtkcnbmgaeompjaaGreatDoor
