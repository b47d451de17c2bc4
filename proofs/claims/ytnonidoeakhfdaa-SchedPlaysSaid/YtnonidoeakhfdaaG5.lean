/- The document's own scheduler: Start, Lock, Await, Unlock. -/
import Derived.Test.YtnonidoeakhfdaaG4
namespace Go.Proofs.Ytnonidoeakhfdaa
open Go.RowKit Go.Maps Go.Sort
set_option linter.unusedVariables false

section
variable {w w1 : World} {r : Nat} {V V' : Nat → Value} {Z Z' : ZS}
theorem Postr.refl (h : RAt w r V Z) : Postr r V w Z w := (PRr.refl h).post
/-- The last number turns. -/
theorem RAt.setLast (h : RAt w r V Z) (x : Int) : PRr r V w V { Z with last := x } (w.setCell ⟨r, 0, none⟩ (.int .i64 x)) := by
  have hst : ∀ k, k ≠ r → (w.setCell ⟨r, 0, none⟩ (.int .i64 x)).heap[k]? = w.heap[k]? := fun k hk => Below.heap_setCell w ⟨r, 0, none⟩ (.int .i64 x) k hk
  exact ⟨⟨h.blk.set_ 0 _, fun i hi => own_of (h.row i hi) fun k hk => hst k (h.ne_r hi hk), h.ap⟩, (Fr.refl _ w).setCell (p := ⟨r, 0, none⟩) (fun _ => .inl rfl) _, fun k hk => .inl hk⟩
def ZS.begun (Z : ZS) : ZS := { Z with last := Z.last + 1, tasks := Z.tasks ++ [⟨Z.last + 1, 0, 0, 0⟩] }
theorem start_end (h : RAt w r V Z) {w1 w3 : World} (hw1 : w.setCell ⟨r, 0, none⟩ (.int .i64 (Z.last + 1)) = w1) {o : Obj} {g cap : Nat} (hg : ((w1.alloc o).drew).grownBy w3 (V 0).ownBlock)
    (ho : w3.ownsRow 0 62 4 (.slice (some ⟨g, 0, none⟩) ((Z.rows 0).length + 1) cap) ((Z.rows 0).length + 1) ((Z.rows 0).flatten ++ ZT.cells ⟨Z.last + 1, 0, 0, 0⟩)) (hat : (V 0).ownBlock = some g ∨ g = w1.heap.size + 1) :
    Postr r V w Z.begun (w3.setCell ⟨r, 1, none⟩ (.slice (some ⟨g, 0, none⟩) ((Z.rows 0).length + 1) cap)) := by
  have h1 := h.setLast (Z.last + 1)
  rw [hw1] at h1
  have hf : Fr (fun k => (V 0).ownBlock = some k) w1 w3 := (((Fr.refl _ w1).alloc o).drew).grown hg fun k hk _ => hk
  have hl : Z.begun.rows 0 = Z.rows 0 ++ [ZT.cells ⟨Z.last + 1, 0, 0, 0⟩] := by show (Z.tasks ++ [_]).map ZT.cells = _; rw [List.map_append]; rfl
  refine (h1.trans (h1.at_.turn (Z' := Z.begun) (i := 0) (by omega) hf ?_ (fun k hk => ?_) (fun j hj hne => ?_) rfl)).post
  · rw [hl, List.length_append, List.flatten_append, List.flatten_singleton]; exact ho
  · have e : g = k := by simpa [Value.ownBlock] using hk
    subst e
    exact hat.imp_right fun h => by omega
  · have : j = 1 ∨ j = 2 ∨ j = 3 := by omega
    rcases this with rfl | rfl | rfl <;> rfl
end

set_option maxHeartbeats 400000 in
theorem zstart_full (r : Nat) (V : Nat → Value) (Z : ZS) (w : World) (h : RAt w r V Z) (h8 : 64 ≤ Z.tasks.length) :
    Calls Try.prog 27 #[.pointer (some ⟨r, 0, none⟩)] w fun e w' => e = .returned (.tuple #[.int .i64 0, .int .i64 12]) ∧ w = w' := by
  obtain ⟨_, c1, _⟩ := h.cells
  have hlen := h.tlen
  clear h
  go_enter Try.func27, Try.ntmps27
  go_wp2
  go_ret2
  exact ⟨rfl, rfl⟩

set_option maxRecDepth 100000 in
set_option maxHeartbeats 2000000 in
theorem zstart_made (r : Nat) (V : Nat → Value) (Z : ZS) (w : World) (h : RAt w r V Z) (h8 : Z.tasks.length < 64) (hl0 : 0 ≤ Z.last) (hl1 : Z.last ≤ 1000000) :
    Calls Try.prog 27 #[.pointer (some ⟨r, 0, none⟩)] w fun e w' => e = .returned (.tuple #[.int .i64 (Z.last + 1), .int .i64 0]) ∧ Postr r V w Z.begun w' := by
  obtain ⟨c0, c1, _⟩ := h.cells
  have hlen := h.tlen
  have f0 := h.blk.frozen 0
  obtain ⟨w1, hw1⟩ : ∃ w1, w.setCell ⟨r, 0, none⟩ (.int .i64 (Z.last + 1)) = w1 := ⟨_, rfl⟩
  have h1 := (h.setLast (Z.last + 1)).at_
  rw [hw1] at h1
  have d0 := h1.cells.1
  have d1 := h1.cells.2.1
  have hrow : w1.ownsRow 0 62 4 (V 0) (Z.rows 0).length (Z.rows 0).flatten := h1.row 0 (by omega)
  have hrl := h1.blk.lt
  have hle : (Z.rows 0).length < 64 := by simpa [ZS.rows] using h8
  have hq : ∀ (o : Obj) (w3 : World), ((w1.alloc o).drew).grownBy w3 (V 0).ownBlock → w3.cell? ⟨r, 0, none⟩ = some (.int .i64 (Z.last + 1)) ∧ w3.cell? ⟨r, 1, none⟩ = some (V 0) ∧ w3.frozen? ⟨r, 1, none⟩ = false := by
    intro o w3 hg
    have hb3 := h1.blk.of ((hg.block r (by simp; omega) (fun e => h1.ne_r (i := 0) (by omega) e.symm rfl)).trans (Below.heap_alloc w1 o r hrl))
    exact ⟨hb3.cell 0, hb3.cell 1, hb3.frozen 1⟩
  have HE := Lib.hid (fun (o : Obj) (w3 : World) (g cap : Nat) hg ho hat => start_end (w3 := w3) (o := o) (g := g) (cap := cap) h hw1 hg ho hat)
  have HQ := Lib.hid hq
  have HL := Lib.hid hrow
  obtain ⟨i0, hi0, hz0, hz1, hz2⟩ := info_parts info62
  clear h h1 hq hrow
  go_enter Try.func27, Try.ntmps27
  go_wp2_with fail
  clear hw1 c0 c1 f0
  go_region_law (first | (refine step_append_lies _ (by rfl) _ _ _ (by rfl) 0 62 i0 _ 4 32 under27' hi0 hz0 hz1 hz2 rfl (by omega) (V 0) _ _ (by rfl) ((HL.out.alloc _).drew) ⟨w1.heap.size, 0, none⟩ 1 1 (ZT.cells ⟨Z.last + 1, 0, 0, 0⟩) (by rfl) (by rfl) (World.news_of_block (cs := #[.int .i64 (Z.last + 1), .int .i64 0, .int .i64 0, .int .i64 0]) (t := 62) (fr := (0, 0)) (heap_alloc_new w1 _)) (by simp [ZT.cells, Value.oneCell']) (by omega) (by unfold maxLen; omega) (by omega) (by simp) (w1.heap.size + 1) (by simp) ?_; intro g cap w3 hown3 hgrow hat hlt; have q0 := (HQ.out _ _ hgrow).1; have q1 := (HQ.out _ _ hgrow).2.1; have qf := (HQ.out _ _ hgrow).2.2; have HP := Lib.hid (HE.out _ _ _ _ hgrow hown3 hat); clear hgrow hown3 hat))
  all_goals (go_wp2; go_ret2)
  all_goals exact ⟨rfl, HP.out⟩

/-! ### find, whatever comes of it -/
theorem has_or (Z : ZS) (t : Int) : (∃ p P, Z.Has t p P) ∨ Z.Hasnt t := by
  by_cases h : ∃ T ∈ Z.tasks, T.n = t
  · left
    obtain ⟨T, hT, hn⟩ := h
    have key : ∀ (l : List ZT), T ∈ l → ∃ (p : Nat) (P : ZT), l[p]? = some P ∧ P.n = t ∧ ∀ j : Nat, j < p → ∀ T' : ZT, l[j]? = some T' → T'.n ≠ t := by
      intro l
      induction l with
      | nil => intro h; cases h
      | cons a l ih =>
        intro h
        by_cases ea : a.n = t
        · exact ⟨0, a, rfl, ea, fun j hj => by omega⟩
        · have hl : T ∈ l := by
            rcases List.mem_cons.1 h with rfl | h
            · exact absurd hn ea
            · exact h
          obtain ⟨p, P, h1, h2, h3⟩ := ih hl
          refine ⟨p + 1, P, by simpa using h1, h2, fun j hj T' hT' => ?_⟩
          cases j with
          | zero => simp at hT'; subst hT'; exact ea
          | succ j => exact h3 j (by omega) T' (by simpa using hT')
    obtain ⟨p, P, h1, h2, h3⟩ := key _ hT
    exact ⟨p, P, ⟨h1, h2, h3⟩⟩
  · right
    exact fun T hT hn => h ⟨T, hT, hn⟩

theorem zfind_any (r : Nat) (V : Nat → Value) (Z : ZS) (t : Int) (w : World) (h : RAt w r V Z) :
    ∃ i, Calls Try.prog 39 #[.pointer (some ⟨r, 0, none⟩), .int .i64 t] w fun e w' => e = .returned (.int .i64 i) ∧ w = w' := by
  rcases has_or Z t with ⟨p, P, hP⟩ | hno
  · exact ⟨_, zfind_yes r V Z t p P w h hP⟩
  · exact ⟨_, zfind_no r V Z t w h hno⟩

/-! ### Lock -/
set_option maxHeartbeats 400000 in
theorem zlock_neg (r : Nat) (V : Nat → Value) (Z : ZS) (t n : Int) (w : World) (h : RAt w r V Z) (hn : n < 0) :
    Calls Try.prog 30 #[.pointer (some ⟨r, 0, none⟩), .int .i64 t, .int .i64 n] w fun e w' => e = .returned (.tuple #[.bool false, .int .i64 1]) ∧ w = w' := by
  obtain ⟨i, hf⟩ := zfind_any r V Z t w h
  clear h
  go_enter Try.func30, Try.ntmps30
  go_wp2_with (go_at_call 39; refine hf.mono ?_; rintro e w' ⟨rfl, rfl⟩)
  go_ret2
  exact ⟨rfl, rfl⟩
set_option maxHeartbeats 400000 in
theorem zlock_no (r : Nat) (V : Nat → Value) (Z : ZS) (t n : Int) (w : World) (h : RAt w r V Z) (hn : 0 ≤ n) (hno : Z.Hasnt t) :
    Calls Try.prog 30 #[.pointer (some ⟨r, 0, none⟩), .int .i64 t, .int .i64 n] w fun e w' => e = .returned (.tuple #[.bool false, .int .i64 18]) ∧ w = w' := by
  have hf := zfind_no r V Z t w h hno
  clear h hno
  go_enter Try.func30, Try.ntmps30
  go_wp2_with (go_at_call 39; refine hf.mono ?_; rintro e w' ⟨rfl, rfl⟩)
  go_ret2
  exact ⟨rfl, rfl⟩
set_option maxHeartbeats 400000 in
theorem zlock_busy (r p : Nat) (V : Nat → Value) (Z : ZS) (P : ZT) (t n : Int) (w : World) (h : RAt w r V Z) (hn : 0 ≤ n) (hP : Z.Has t p P) (hk : P.kind ≠ 0) :
    Calls Try.prog 30 #[.pointer (some ⟨r, 0, none⟩), .int .i64 t, .int .i64 n] w fun e w' => e = .returned (.tuple #[.bool false, .int .i64 51]) ∧ w = w' := by
  have hf := zfind_yes r V Z t p P w h hP
  obtain ⟨_, c1, _⟩ := h.cells
  obtain ⟨g, o, hA⟩ := h.task hP.get
  have hix := hA.ix
  have hkd := hA.kind
  have hb : (P.kind != 0) = true := by simpa using hk
  clear h hP hA hk
  go_enter Try.func30, Try.ntmps30
  go_wp2_with (go_at_call 39; refine hf.mono ?_; rintro e w' ⟨rfl, rfl⟩)
  go_ret2
  exact ⟨rfl, rfl⟩
set_option maxHeartbeats 400000 in
theorem zlock_mine (r p : Nat) (V : Nat → Value) (Z : ZS) (P : ZT) (t n : Int) (w : World) (h : RAt w r V Z) (hn : 0 ≤ n) (hP : Z.Has t p P) (hk : P.kind = 0) (hh : hget Z.held n = t) :
    Calls Try.prog 30 #[.pointer (some ⟨r, 0, none⟩), .int .i64 t, .int .i64 n] w fun e w' => e = .returned (.tuple #[.bool true, .int .i64 0]) ∧ w = w' := by
  have hf := zfind_yes r V Z t p P w h hP
  have hho := zholder r V Z n w h
  obtain ⟨_, c1, _⟩ := h.cells
  obtain ⟨g, o, hA⟩ := h.task hP.get
  have hix := hA.ix
  have hkd := hA.kind
  rw [hk] at hkd
  rw [hh] at hho
  clear h hP hA hk hh
  go_enter Try.func30, Try.ntmps30
  go_wp2_with (first | (go_at_call 39; refine hf.mono ?_; rintro e w' ⟨rfl, rfl⟩) | (go_at_call 17; refine hho.mono ?_; rintro e w' ⟨rfl, rfl⟩))
  go_ret2
  exact ⟨rfl, rfl⟩
set_option maxHeartbeats 1000000 in
theorem zlock_free (r p : Nat) (V : Nat → Value) (Z : ZS) (P : ZT) (t n : Int) (w : World) (h : RAt w r V Z) (hn : 0 ≤ n) (hP : Z.Has t p P) (hk : P.kind = 0) (hh : hget Z.held n = 0) (ht : t ≠ 0) (hlen : Z.held.length ≤ 1000000) :
    Calls Try.prog 30 #[.pointer (some ⟨r, 0, none⟩), .int .i64 t, .int .i64 n] w fun e w' => e = .returned (.tuple #[.bool true, .int .i64 0]) ∧ Postr r V w { Z with held := Z.held ++ [(n, t)] } w' := by
  have hf := zfind_yes r V Z t p P w h hP
  have hho := zholder r V Z n w h
  obtain ⟨_, c1, c2, _⟩ := h.cells
  obtain ⟨g, o, hA⟩ := h.task hP.get
  have hix := hA.ix
  have hkd := hA.kind
  rw [hk] at hkd
  rw [hh] at hho
  have hb : ((0 : Int) == t) = false := by simpa using Ne.symm ht
  obtain ⟨v', w1, ⟨A', c', rfl⟩, hr, d2, f2, hPost⟩ := h.addp (i := 1) (.inl rfl) (n, t) (by simpa [ZS.rows] using hlen)
  have d2' : w1.cell? ⟨r, 2, none⟩ = some (V 1) := d2
  have f2' : w1.frozen? ⟨r, 2, none⟩ = false := f2
  have HP := Lib.hid (hPost { Z with held := Z.held ++ [(n, t)] } (by show (Z.held ++ [(n, t)]).map pc = _; rw [List.map_append]; rfl) (fun j hj hne => by
    have : j = 0 ∨ j = 2 ∨ j = 3 := by omega
    rcases this with rfl | rfl | rfl <;> rfl) rfl)
  have HR := Lib.hid hr
  clear h hP hA hk hh hPost hr ht d2 f2
  go_enter Try.func30, Try.ntmps30
  go_wp2_with (first | (go_at_call 39; refine hf.mono ?_; rintro e w' ⟨rfl, rfl⟩) | (go_at_call 17; refine hho.mono ?_; rintro e w' ⟨rfl, rfl⟩) | (at_builtin; refine wpList_addt 28 rfl _ _ rfl _ _ _ _ rfl rfl (HR.out _) ?_))
  go_ret2
  exact ⟨rfl, HP.out.post⟩

end Go.Proofs.Ytnonidoeakhfdaa
