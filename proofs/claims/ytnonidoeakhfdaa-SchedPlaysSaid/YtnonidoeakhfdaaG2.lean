/- The document's own scheduler: what is read of it (find, Holder, isOpen, Picks, Ready, Stuck). -/
import Derived.Test.YtnonidoeakhfdaaG1
namespace Go.Proofs.Ytnonidoeakhfdaa
open Go.RowKit Go.Maps Go.Sort
set_option linter.unusedVariables false

theorem elem27 : Try.prog.elem 27 = 62 := by kernel_rfl
theorem elem28 : Try.prog.elem 28 = 68 := by kernel_rfl
theorem under27 : Try.prog.underlying 27 = some (.slice (Try.prog.elem 27)) := by kernel_rfl
theorem under28 : Try.prog.underlying 28 = some (.slice (Try.prog.elem 28)) := by kernel_rfl
theorem under27' : Try.prog.underlying 27 = some (.slice 62) := by kernel_rfl
theorem under28' : Try.prog.underlying 28 = some (.slice 68) := by kernel_rfl
theorem info62 : (Try.prog.info? 62).map (fun i => (i.zero, i.size, i.bytes)) = some (some (.agg #[.int .i64 0, .int .i64 0, .int .i64 0, .int .i64 0]), 4, 32) := by kernel_rfl
theorem info68 : (Try.prog.info? 68).map (fun i => (i.zero, i.size, i.bytes)) = some (some (.agg #[.int .i64 0, .int .i64 0]), 2, 16) := by kernel_rfl
theorem size27 (W : World) : (sizeOf (Try.prog.elem 27)).run Try.prog W = .ok 4 W := by
  obtain ⟨i0, hi, hz0, hz1, hz2⟩ := info_parts info62
  rw [elem27]
  simp [sizeOf, typeInfo, hi, hz1]
theorem size28 (W : World) : (sizeOf (Try.prog.elem 28)).run Try.prog W = .ok 2 W := by
  obtain ⟨i0, hi, hz0, hz1, hz2⟩ := info_parts info68
  rw [elem28]
  simp [sizeOf, typeInfo, hi, hz1]

theorem len27 (A : Option Addr) (n c : Nat) (ty : TypeId) (W : World) : (Builtin.len_ #[27] ty #[.slice A n c]).run Try.prog W = .ok (.int .i64 n) W := by simp [Builtin.len_, run_underlying under27', goInt]
theorem len28 (A : Option Addr) (n c : Nat) (ty : TypeId) (W : World) : (Builtin.len_ #[28] ty #[.slice A n c]).run Try.prog W = .ok (.int .i64 n) W := by simp [Builtin.len_, run_underlying under28', goInt]
theorem len29 (A : Option Addr) (n c : Nat) (ty : TypeId) (W : World) : (Builtin.len_ #[29] ty #[.slice A n c]).run Try.prog W = .ok (.int .i64 n) W := by simp [Builtin.len_, run_underlying Try.underlying29, goInt]
theorem ix27 {g n c k : Nat} (hk : k < n) (W : World) : (Instr.indexAt 27 (.slice (some ⟨g, 0, none⟩) n c) (.int .i64 k)).run Try.prog W = .ok (.pointer (some ⟨g, k * 4, none⟩)) W := by
  rw [run_indexAt_slice (w := W) 27 _ _ _ .i64 k under27, size27]
  simp [Result.andThen, Addr.add_lit]; omega
theorem ix28 {g n c k : Nat} (hk : k < n) (W : World) : (Instr.indexAt 28 (.slice (some ⟨g, 0, none⟩) n c) (.int .i64 k)).run Try.prog W = .ok (.pointer (some ⟨g, k * 2, none⟩)) W := by
  rw [run_indexAt_slice (w := W) 28 _ _ _ .i64 k under28, size28]
  simp [Result.andThen, Addr.add_lit]; omega
theorem ix29 {g n c k : Nat} (hk : k < n) (W : World) : (Instr.indexAt 29 (.slice (some ⟨g, 0, none⟩) n c) (.int .i64 k)).run Try.prog W = .ok (.pointer (some ⟨g, k, none⟩)) W := by
  rw [run_indexAt_slice (w := W) 29 _ _ _ .i64 k under29, size29]
  simp [Result.andThen, Addr.add_lit]; omega

section
variable {w w' w1 : World} {r : Nat} {V : Nat → Value} {Z Z' : ZS}
theorem RAt.max (h : RAt w r V Z) {i : Nat} (hi : i < 4) : (Z.rows i).length ≤ 9223372036854775807 := by
  rcases (h.row i hi).2 with ⟨e0, h0⟩ | ⟨g, cap, cur, e1, hb, hh, h1, h2, h3, h4⟩
  · omega
  · unfold maxLen at h2; omega
theorem RAt.tlen (h : RAt w r V Z) (ty : TypeId) (W : World) : (Builtin.len_ #[27] ty #[V 0]).run Try.prog W = .ok (.int .i64 Z.tasks.length) W := by
  obtain ⟨A, c, e⟩ := h.form (i := 0) (by omega)
  rw [e, len27]; simp [ZS.rows]
theorem RAt.hlen (h : RAt w r V Z) (ty : TypeId) (W : World) : (Builtin.len_ #[28] ty #[V 1]).run Try.prog W = .ok (.int .i64 Z.held.length) W := by
  obtain ⟨A, c, e⟩ := h.form (i := 1) (by omega)
  rw [e, len28]; simp [ZS.rows]
theorem RAt.qlen (h : RAt w r V Z) (ty : TypeId) (W : World) : (Builtin.len_ #[28] ty #[V 2]).run Try.prog W = .ok (.int .i64 Z.queue.length) W := by
  obtain ⟨A, c, e⟩ := h.form (i := 2) (by omega)
  rw [e, len28]; simp [ZS.rows]
theorem RAt.olen (h : RAt w r V Z) (ty : TypeId) (W : World) : (Builtin.len_ #[29] ty #[V 3]).run Try.prog W = .ok (.int .i64 Z.opens.length) W := by
  obtain ⟨A, c, e⟩ := h.form (i := 3) (by omega)
  rw [e, len29]; simp [ZS.rows]

/-- A task's place. -/
structure TaskAt (w : World) (v : Value) (k : Nat) (T : ZT) (g o : Nat) : Prop where
  own : v.ownBlock = some g
  off : o = k * 4
  ix : ∀ W, (Instr.indexAt 27 v (.int .i64 (k : Nat))).run Try.prog W = .ok (.pointer (some ⟨g, o, none⟩)) W
  n : w.cell? ⟨g, o, none⟩ = some (.int .i64 T.n)
  kind : w.cell? ⟨g, o + 1, none⟩ = some (.int .i64 T.kind)
  num : w.cell? ⟨g, o + 2, none⟩ = some (.int .i64 T.num)
  picks : w.cell? ⟨g, o + 3, none⟩ = some (.int .i64 T.picks)
  frozen : ∀ j, j < 4 → w.frozen? ⟨g, o + j, none⟩ = false
theorem RAt.task (h : RAt w r V Z) {k : Nat} {T : ZT} (hT : Z.tasks[k]? = some T) : ∃ g o, TaskAt w (V 0) k T g o := by
  have hk := (List.getElem?_eq_some_iff.1 hT).1
  have hl : (Z.rows 0).length = Z.tasks.length := by simp [ZS.rows]
  have hx : ∀ (j : Nat) x, T.cells[j]? = some x → (Z.rows 0)[k]?.bind (·[j]?) = some x := fun j x hj => by
    have : (Z.rows 0)[k]? = some T.cells := by show (Z.tasks.map ZT.cells)[k]? = _; rw [List.getElem?_map, hT]; rfl
    rw [this]; exact hj
  obtain ⟨g, cap, e, c0, f0⟩ := h.get (i := 0) (j := 0) (by omega) (by decide) (hx 0 _ rfl)
  have more : ∀ (j : Nat) x, j < 4 → T.cells[j]? = some x → w.cell? ⟨g, k * 4 + j, none⟩ = some x ∧ w.frozen? ⟨g, k * 4 + j, none⟩ = false := fun j x hj hc => by
    obtain ⟨g', cap', e', c', f'⟩ := h.get (i := 0) (j := j) (by omega) (by exact hj) (hx j x hc)
    rw [e] at e'; cases e'; exact ⟨c', f'⟩
  refine ⟨g, k * 4, by rw [e]; rfl, rfl, fun W => by rw [e]; exact ix27 (by omega) W, (more 0 _ (by omega) rfl).1, (more 1 _ (by omega) rfl).1, (more 2 _ (by omega) rfl).1, (more 3 _ (by omega) rfl).1, fun j hj => ?_⟩
  have : j = 0 ∨ j = 1 ∨ j = 2 ∨ j = 3 := by omega
  rcases this with rfl | rfl | rfl | rfl
  · exact (more 0 _ (by omega) rfl).2
  · exact (more 1 _ (by omega) rfl).2
  · exact (more 2 _ (by omega) rfl).2
  · exact (more 3 _ (by omega) rfl).2
/-- A pair's place. -/
structure PairAt (w : World) (v : Value) (k : Nat) (p : Int × Int) (g o : Nat) : Prop where
  own : v.ownBlock = some g
  ix : ∀ W, (Instr.indexAt 28 v (.int .i64 (k : Nat))).run Try.prog W = .ok (.pointer (some ⟨g, o, none⟩)) W
  a : w.cell? ⟨g, o, none⟩ = some (.int .i64 p.1)
  b : w.cell? ⟨g, o + 1, none⟩ = some (.int .i64 p.2)
theorem RAt.pair (h : RAt w r V Z) {i : Nat} (hi : i = 1 ∨ i = 2) {k : Nat} {p : Int × Int} (hp : (Z.rows i)[k]? = some (pc p)) : ∃ g o, PairAt w (V i) k p g o := by
  have hk := (List.getElem?_eq_some_iff.1 hp).1
  have hz : zsz i = 2 := by rcases hi with rfl | rfl <;> rfl
  have hx : ∀ (j : Nat) x, (pc p)[j]? = some x → (Z.rows i)[k]?.bind (·[j]?) = some x := fun j x hj => by rw [hp]; exact hj
  obtain ⟨g, cap, e, c0, _⟩ := h.get (i := i) (j := 0) (by omega) (by omega) (hx 0 _ rfl)
  obtain ⟨g', cap', e', c1, _⟩ := h.get (i := i) (j := 1) (by omega) (by omega) (hx 1 _ rfl)
  rw [e] at e'; cases e'
  rw [hz] at c0 c1
  exact ⟨g, k * 2, by rw [e]; rfl, fun W => by rw [e]; exact ix28 hk W, c0, c1⟩
theorem RAt.heldAt (h : RAt w r V Z) {k : Nat} {p : Int × Int} (hp : Z.held[k]? = some p) : ∃ g o, PairAt w (V 1) k p g o :=
  h.pair (.inl rfl) (by show (Z.held.map pc)[k]? = _; rw [List.getElem?_map, hp]; rfl)
theorem RAt.queueAt (h : RAt w r V Z) {k : Nat} {p : Int × Int} (hp : Z.queue[k]? = some p) : ∃ g o, PairAt w (V 2) k p g o :=
  h.pair (.inr rfl) (by show (Z.queue.map pc)[k]? = _; rw [List.getElem?_map, hp]; rfl)
theorem RAt.openAt (h : RAt w r V Z) {k : Nat} {n : Int} (hp : Z.opens[k]? = some n) : ∃ g o, (∀ W, (Instr.indexAt 29 (V 3) (.int .i64 (k : Nat))).run Try.prog W = .ok (.pointer (some ⟨g, o, none⟩)) W) ∧ w.cell? ⟨g, o, none⟩ = some (.int .i64 n) := by
  have hk := (List.getElem?_eq_some_iff.1 hp).1
  have hl : (Z.rows 3).length = Z.opens.length := by simp [ZS.rows]
  obtain ⟨g, cap, e, c0, _⟩ := h.get (i := 3) (j := 0) (k := k) (x := .int .i64 n) (by omega) (by decide) (by show (Z.opens.map oc)[k]?.bind _ = _; rw [List.getElem?_map, hp]; rfl)
  refine ⟨g, k, fun W => by rw [e]; exact ix29 (by omega) W, ?_⟩
  have : zsz 3 = 1 := rfl
  rw [this] at c0
  simpa using c0

theorem RAt.cells (h : RAt w r V Z) : w.cell? ⟨r, 0, none⟩ = some (.int .i64 Z.last) ∧ w.cell? ⟨r, 1, none⟩ = some (V 0) ∧ w.cell? ⟨r, 2, none⟩ = some (V 1) ∧ w.cell? ⟨r, 3, none⟩ = some (V 2) ∧ w.cell? ⟨r, 4, none⟩ = some (V 3) :=
  ⟨h.blk.cell 0, h.blk.cell 1, h.blk.cell 2, h.blk.cell 3, h.blk.cell 4⟩
end

/-- The task t is at place k, and no other one before. -/
structure ZS.Has (Z : ZS) (t : Int) (k : Nat) (T : ZT) : Prop where
  get : Z.tasks[k]? = some T
  n : T.n = t
  no : ∀ j, j < k → ∀ T', Z.tasks[j]? = some T' → T'.n ≠ t
def ZS.Hasnt (Z : ZS) (t : Int) : Prop := ∀ T ∈ Z.tasks, T.n ≠ t

set_option maxHeartbeats 1000000 in
theorem zfind_no (r : Nat) (V : Nat → Value) (Z : ZS) (t : Int) (w : World) (h : RAt w r V Z) (hno : Z.Hasnt t) :
    Calls Try.prog 39 #[.pointer (some ⟨r, 0, none⟩), .int .i64 t] w fun e w' => e = .returned (.int .i64 (-1)) ∧ w = w' := by
  obtain ⟨_, c1, _⟩ := h.cells
  have hlen := h.tlen
  have hmx : (Z.tasks.length : Int) ≤ 9223372036854775807 := by have := h.max (i := 0) (by omega); simp [ZS.rows] at this; omega
  have HH := Lib.hid h
  have HNo := Lib.hid hno
  clear h hno
  go_enter Try.func39, Try.ntmps39
  go_wp2
  go_loop [5] (fun i => ∃ k : Nat, k ≤ Z.tasks.length ∧ i = .int .i64 k) (fun i => Z.tasks.length - (intOf i).toNat)
  case atStart => exact ⟨0, Nat.zero_le _, rfl⟩
  case round =>
    obtain ⟨k, hk, rfl⟩ := hrel
    by_cases hlt : k < Z.tasks.length
    · obtain ⟨T, hT⟩ : ∃ T, Z.tasks[k]? = some T := ⟨_, List.getElem?_eq_getElem hlt⟩
      obtain ⟨g, o, hA⟩ := HH.out.task hT
      have hne : (T.n == t) = false := by simpa using HNo.out T (List.mem_of_getElem? hT)
      have hix := hA.ix
      have hn := hA.n
      clear hA hT
      go_wp2
      refine ⟨⟨k + 1, by omega, by go_num⟩, by simp [intOf]; omega⟩
    · go_wp2
      go_ret
      exact ⟨rfl, rfl⟩

set_option maxHeartbeats 1000000 in
theorem zfind_yes (r : Nat) (V : Nat → Value) (Z : ZS) (t : Int) (p : Nat) (P : ZT) (w : World) (h : RAt w r V Z) (hP : Z.Has t p P) :
    Calls Try.prog 39 #[.pointer (some ⟨r, 0, none⟩), .int .i64 t] w fun e w' => e = .returned (.int .i64 p) ∧ w = w' := by
  obtain ⟨_, c1, _⟩ := h.cells
  have hlen := h.tlen
  have hmx : (Z.tasks.length : Int) ≤ 9223372036854775807 := by have := h.max (i := 0) (by omega); simp [ZS.rows] at this; omega
  have hpl := (List.getElem?_eq_some_iff.1 hP.get).1
  have HH := Lib.hid h
  have HP := Lib.hid hP
  clear h hP
  go_enter Try.func39, Try.ntmps39
  go_wp2
  go_loop [5] (fun i => ∃ k : Nat, k ≤ p ∧ i = .int .i64 k) (fun i => p - (intOf i).toNat)
  case atStart => exact ⟨0, Nat.zero_le _, rfl⟩
  case round =>
    obtain ⟨k, hk, rfl⟩ := hrel
    by_cases hlt : k < p
    · obtain ⟨T, hT⟩ : ∃ T, Z.tasks[k]? = some T := ⟨_, List.getElem?_eq_getElem (by omega)⟩
      obtain ⟨g, o, hA⟩ := HH.out.task hT
      have hne : (T.n == t) = false := by simpa using HP.out.no k hlt T hT
      have hix := hA.ix
      have hn := hA.n
      clear hA hT
      go_wp2
      refine ⟨⟨k + 1, by omega, by go_num⟩, by simp [intOf]; omega⟩
    · have hkp : k = p := by omega
      subst hkp
      obtain ⟨g, o, hA⟩ := HH.out.task HP.out.get
      have hix := hA.ix
      have hn := hA.n
      rw [HP.out.n] at hn
      clear hA hlt
      go_wp2
      go_ret
      exact ⟨rfl, rfl⟩

/-- Who holds the lock, by the list. -/
def hget : List (Int × Int) → Int → Int
  | [], _ => 0
  | p :: l, n => if p.1 = n then p.2 else hget l n

set_option maxHeartbeats 1000000 in
theorem zholder (r : Nat) (V : Nat → Value) (Z : ZS) (n : Int) (w : World) (h : RAt w r V Z) :
    Calls Try.prog 17 #[.pointer (some ⟨r, 0, none⟩), .int .i64 n] w fun e w' => e = .returned (.int .i64 (hget Z.held n)) ∧ w = w' := by
  obtain ⟨_, _, c2, _⟩ := h.cells
  have hlen := h.hlen
  have hmx : (Z.held.length : Int) ≤ 9223372036854775807 := by have := h.max (i := 1) (by omega); simp [ZS.rows] at this; omega
  have HH := Lib.hid h
  clear h
  go_enter Try.func17, Try.ntmps17
  go_wp2
  go_loop [5] (fun i => ∃ k : Nat, k ≤ Z.held.length ∧ i = .int .i64 k ∧ hget (Z.held.drop k) n = hget Z.held n) (fun i => Z.held.length - (intOf i).toNat)
  case atStart => exact ⟨0, Nat.zero_le _, rfl, rfl⟩
  case round =>
    obtain ⟨k, hk, rfl, hg⟩ := hrel
    have HG := Lib.hid hg
    clear hg
    by_cases hlt : k < Z.held.length
    · obtain ⟨p, hp⟩ : ∃ p, Z.held[k]? = some p := ⟨_, List.getElem?_eq_getElem hlt⟩
      have hdr : Z.held.drop k = p :: Z.held.drop (k + 1) := by
        obtain ⟨hk', rfl⟩ := List.getElem?_eq_some_iff.1 hp
        exact List.drop_eq_getElem_cons hk'
      obtain ⟨g, o, hA⟩ := HH.out.heldAt hp
      have hix := hA.ix
      have ha := hA.a
      have hb := hA.b
      by_cases e : p.1 = n
      · have hv : hget Z.held n = p.2 := by rw [← HG.out, hdr, hget, if_pos e]
        have HV := Lib.hid hv
        rw [e] at ha
        clear hA hp hdr e hv
        go_wp2
        go_ret
        exact ⟨by rw [HV.out]; rfl, rfl⟩
      · have hv : hget (Z.held.drop (k + 1)) n = hget Z.held n := by rw [← HG.out, hdr, hget, if_neg e]
        have HV := Lib.hid hv
        have hne : (p.1 == n) = false := by simpa using e
        clear hA hp hdr e hv
        go_wp2
        refine ⟨⟨k + 1, by omega, by go_num, HV.out⟩, by simp [intOf]; omega⟩
    · have hv : hget Z.held n = 0 := by rw [← HG.out, List.drop_of_length_le (by omega)]; rfl
      have HV := Lib.hid hv
      clear hv
      go_wp2
      go_ret
      exact ⟨by rw [HV.out]; rfl, rfl⟩

set_option maxHeartbeats 1000000 in
theorem zopen (r : Nat) (V : Nat → Value) (Z : ZS) (n : Int) (w : World) (h : RAt w r V Z) :
    Calls Try.prog 47 #[.pointer (some ⟨r, 0, none⟩), .int .i64 n] w fun e w' => e = .returned (.bool (decide (n ∈ Z.opens))) ∧ w = w' := by
  obtain ⟨_, _, _, _, c4⟩ := h.cells
  have hlen := h.olen
  have hmx : (Z.opens.length : Int) ≤ 9223372036854775807 := by have := h.max (i := 3) (by omega); simp [ZS.rows] at this; omega
  have HH := Lib.hid h
  clear h
  go_enter Try.func47, Try.ntmps47
  go_wp2
  go_loop [5] (fun i => ∃ k : Nat, k ≤ Z.opens.length ∧ i = .int .i64 k ∧ n ∉ Z.opens.take k) (fun i => Z.opens.length - (intOf i).toNat)
  case atStart => exact ⟨0, Nat.zero_le _, rfl, by simp⟩
  case round =>
    obtain ⟨k, hk, rfl, hg⟩ := hrel
    have HG := Lib.hid hg
    clear hg
    by_cases hlt : k < Z.opens.length
    · obtain ⟨p, hp⟩ : ∃ p, Z.opens[k]? = some p := ⟨_, List.getElem?_eq_getElem hlt⟩
      obtain ⟨g, o, hix, ha⟩ := HH.out.openAt hp
      by_cases e : p = n
      · subst e
        have hv : decide (p ∈ Z.opens) = true := by simpa using List.mem_of_getElem? hp
        have HV := Lib.hid hv
        clear hp hv
        go_wp2
        go_ret
        exact ⟨by rw [HV.out]; rfl, rfl⟩
      · have hv : n ∉ Z.opens.take (k + 1) := by
          rw [List.take_add_one, hp]
          simp only [Option.toList, List.mem_append, List.mem_singleton]
          rintro (h | h)
          · exact HG.out h
          · exact e h.symm
        have HV := Lib.hid hv
        have hne : (p == n) = false := by simpa using e
        clear hp e hv
        go_wp2
        refine ⟨⟨k + 1, by omega, by go_num, HV.out⟩, by simp [intOf]; omega⟩
    · have hv : decide (n ∈ Z.opens) = false := by
        have := HG.out
        rw [List.take_of_length_le (by omega)] at this
        simpa using this
      have HV := Lib.hid hv
      clear hv
      go_wp2
      go_ret
      exact ⟨by rw [HV.out]; rfl, rfl⟩

end Go.Proofs.Ytnonidoeakhfdaa
