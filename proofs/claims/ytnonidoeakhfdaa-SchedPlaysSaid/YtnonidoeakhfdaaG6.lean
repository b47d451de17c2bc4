/- The document's own scheduler: Lock of a lock that another one has; Await; Unlock but for what it frees. -/
import Derived.Test.YtnonidoeakhfdaaG5
namespace Go.Proofs.Ytnonidoeakhfdaa
open Go.RowKit Go.Maps Go.Sort
set_option linter.unusedVariables false

section
variable {w w1 : World} {r : Nat} {V V' : Nat → Value} {Z Z' : ZS}
theorem TaskAt.same {v : Value} {k g o g' o' : Nat} {T T' : ZT} (h : TaskAt w v k T g o) (h' : TaskAt w1 v k T' g' o') : g' = g ∧ o' = o := by
  have e : some g = some g' := by rw [← h.own, ← h'.own]
  exact ⟨by injection e with e; exact e.symm, by rw [h.off, h'.off]⟩
def ZT.waits (P : ZT) (k n : Int) : ZT := { P with kind := k, num := n }

/-- A task begins to wait: its two cells. -/
theorem RAt.wait2 (h : RAt w r V Z) {p g o : Nat} {P : ZT} {wa wb : World} {k n : Int} (hP : Z.tasks[p]? = some P) (hA : TaskAt w (V 0) p P g o) (hwa : w.setCell ⟨g, o + 1, none⟩ (.int .i64 k) = wa) (hwb : wa.setCell ⟨g, o + 2, none⟩ (.int .i64 n) = wb) :
    RAt wa r V { Z with tasks := Z.tasks.set p { P with kind := k } } ∧ TaskAt wa (V 0) p { P with kind := k } g o ∧ PRr r V w V { Z with tasks := Z.tasks.set p (P.waits k n) } wb := by
  have hpl := (List.getElem?_eq_some_iff.1 hP).1
  have h1 := h.tset (j := 1) (T' := { P with kind := k }) (x := .int .i64 k) hP hA (by omega) rfl
  rw [hwa] at h1
  have hg : (Z.tasks.set p { P with kind := k })[p]? = some { P with kind := k } := List.getElem?_set_self hpl
  obtain ⟨g', o', hA1⟩ := h1.at_.task (k := p) (T := { P with kind := k }) hg
  obtain ⟨rfl, rfl⟩ := hA.same hA1
  have h2 := h1.at_.tset (j := 2) (T' := P.waits k n) (x := .int .i64 n) hg hA1 (by omega) rfl
  rw [hwb] at h2
  have e : (Z.tasks.set p { P with kind := k }).set p (P.waits k n) = Z.tasks.set p (P.waits k n) := List.set_set _
  refine ⟨h1.at_, hA1, ?_⟩
  have h3 := h1.trans h2
  simp only [e] at h3
  exact h3
end

set_option maxHeartbeats 1000000 in
theorem zlock_wait (r p : Nat) (V : Nat → Value) (Z : ZS) (P : ZT) (t n : Int) (w : World) (h : RAt w r V Z) (hn : 0 ≤ n) (hP : Z.Has t p P) (hk : P.kind = 0) (hh : hget Z.held n ≠ 0) (ht : hget Z.held n ≠ t) (hlen : Z.queue.length ≤ 1000000) :
    Calls Try.prog 30 #[.pointer (some ⟨r, 0, none⟩), .int .i64 t, .int .i64 n] w fun e w' => e = .returned (.tuple #[.bool false, .int .i64 0]) ∧ Postr r V w { Z with tasks := Z.tasks.set p (P.waits 1 n), queue := Z.queue ++ [(n, t)] } w' := by
  have hf := zfind_yes r V Z t p P w h hP
  have hho := zholder r V Z n w h
  obtain ⟨_, c1, c2, _⟩ := h.cells
  obtain ⟨g, o, hA⟩ := h.task hP.get
  have hix := hA.ix
  have hkd := hA.kind
  have hfz := hA.frozen 1 (by omega)
  rw [hk] at hkd
  obtain ⟨H, hH⟩ : ∃ H, hget Z.held n = H := ⟨_, rfl⟩
  rw [hH] at hho hh ht
  have hb1 : (H == t) = false := by simpa using ht
  have hb0 : (H == 0) = false := by simpa using hh
  obtain ⟨wa, hwa⟩ : ∃ wa, w.setCell ⟨g, o + 1, none⟩ (.int .i64 1) = wa := ⟨_, rfl⟩
  obtain ⟨wb, hwb⟩ : ∃ wb, wa.setCell ⟨g, o + 2, none⟩ (.int .i64 n) = wb := ⟨_, rfl⟩
  obtain ⟨ha, hA1, h2⟩ := h.wait2 hP.get hA hwa hwb
  have ca1 := ha.cells.2.1
  have can := hA1.num
  have caf := hA1.frozen 2 (by omega)
  obtain ⟨v', w1, ⟨A', c', rfl⟩, hr, d3, f3, hPost⟩ := h2.at_.addp (i := 2) (.inr rfl) (n, t) (by simpa [ZS.rows] using hlen)
  have cb3 := h2.at_.cells.2.2.2.1
  have d3' : w1.cell? ⟨r, 3, none⟩ = some (V 2) := d3
  have f3' : w1.frozen? ⟨r, 3, none⟩ = false := f3
  have HP := Lib.hid (h2.trans (hPost { Z with tasks := Z.tasks.set p (P.waits 1 n), queue := Z.queue ++ [(n, t)] } (by show (Z.queue ++ [(n, t)]).map pc = _; rw [List.map_append]; rfl) (fun j hj hne => by
    have : j = 0 ∨ j = 1 ∨ j = 3 := by omega
    rcases this with rfl | rfl | rfl <;> rfl) rfl))
  have HR := Lib.hid hr
  have HWA := Lib.hid hwa
  have HWB := Lib.hid hwb
  clear h hP hA hk hh hPost hr ht d3 f3 ha hA1 h2 hwa hwb hH
  go_enter Try.func30, Try.ntmps30
  go_upto_region 15 with (first | (go_at_call 39; refine hf.mono ?_; rintro e w' ⟨rfl, rfl⟩) | (go_at_call 17; refine hho.mono ?_; rintro e w' ⟨rfl, rfl⟩))
  rw [HWA.out]
  clear HWA c1 c2 hkd hfz hf hho
  go_upto_region 16 with fail
  rw [HWB.out]
  clear HWB ca1 can caf
  go_wp2_with (at_builtin; refine wpList_addt 28 rfl _ _ rfl _ _ _ _ rfl rfl (HR.out _) ?_)
  go_ret2
  exact ⟨rfl, HP.out.post⟩

/-! ### Await -/
set_option maxHeartbeats 400000 in
theorem zawait_neg (r : Nat) (V : Nat → Value) (Z : ZS) (t n : Int) (w : World) (h : RAt w r V Z) (hn : n < 0) :
    Calls Try.prog 32 #[.pointer (some ⟨r, 0, none⟩), .int .i64 t, .int .i64 n] w fun e w' => e = .returned (.tuple #[.bool false, .int .i64 1]) ∧ w = w' := by
  obtain ⟨i, hf⟩ := zfind_any r V Z t w h
  clear h
  go_enter Try.func32, Try.ntmps32
  go_wp2_with (go_at_call 39; refine hf.mono ?_; rintro e w' ⟨rfl, rfl⟩)
  go_ret2
  exact ⟨rfl, rfl⟩
set_option maxHeartbeats 400000 in
theorem zawait_no (r : Nat) (V : Nat → Value) (Z : ZS) (t n : Int) (w : World) (h : RAt w r V Z) (hn : 0 ≤ n) (hno : Z.Hasnt t) :
    Calls Try.prog 32 #[.pointer (some ⟨r, 0, none⟩), .int .i64 t, .int .i64 n] w fun e w' => e = .returned (.tuple #[.bool false, .int .i64 18]) ∧ w = w' := by
  have hf := zfind_no r V Z t w h hno
  clear h hno
  go_enter Try.func32, Try.ntmps32
  go_wp2_with (go_at_call 39; refine hf.mono ?_; rintro e w' ⟨rfl, rfl⟩)
  go_ret2
  exact ⟨rfl, rfl⟩
set_option maxHeartbeats 400000 in
theorem zawait_busy (r p : Nat) (V : Nat → Value) (Z : ZS) (P : ZT) (t n : Int) (w : World) (h : RAt w r V Z) (hn : 0 ≤ n) (hP : Z.Has t p P) (hk : P.kind ≠ 0) :
    Calls Try.prog 32 #[.pointer (some ⟨r, 0, none⟩), .int .i64 t, .int .i64 n] w fun e w' => e = .returned (.tuple #[.bool false, .int .i64 51]) ∧ w = w' := by
  have hf := zfind_yes r V Z t p P w h hP
  obtain ⟨_, c1, _⟩ := h.cells
  obtain ⟨g, o, hA⟩ := h.task hP.get
  have hix := hA.ix
  have hkd := hA.kind
  have hb : (P.kind != 0) = true := by simpa using hk
  clear h hP hA hk
  go_enter Try.func32, Try.ntmps32
  go_wp2_with (go_at_call 39; refine hf.mono ?_; rintro e w' ⟨rfl, rfl⟩)
  go_ret2
  exact ⟨rfl, rfl⟩
set_option maxHeartbeats 400000 in
theorem zawait_open (r p : Nat) (V : Nat → Value) (Z : ZS) (P : ZT) (t n : Int) (w : World) (h : RAt w r V Z) (hn : 0 ≤ n) (hP : Z.Has t p P) (hk : P.kind = 0) (ho : n ∈ Z.opens) :
    Calls Try.prog 32 #[.pointer (some ⟨r, 0, none⟩), .int .i64 t, .int .i64 n] w fun e w' => e = .returned (.tuple #[.bool true, .int .i64 0]) ∧ w = w' := by
  have hf := zfind_yes r V Z t p P w h hP
  have hop := zopen r V Z n w h
  rw [show decide (n ∈ Z.opens) = true by simpa using ho] at hop
  obtain ⟨_, c1, _⟩ := h.cells
  obtain ⟨g, o, hA⟩ := h.task hP.get
  have hix := hA.ix
  have hkd := hA.kind
  rw [hk] at hkd
  clear h hP hA hk ho
  go_enter Try.func32, Try.ntmps32
  go_wp2_with (first | (go_at_call 39; refine hf.mono ?_; rintro e w' ⟨rfl, rfl⟩) | (go_at_call 47; refine hop.mono ?_; rintro e w' ⟨rfl, rfl⟩))
  go_ret2
  exact ⟨rfl, rfl⟩
set_option maxHeartbeats 1000000 in
theorem zawait_wait (r p : Nat) (V : Nat → Value) (Z : ZS) (P : ZT) (t n : Int) (w : World) (h : RAt w r V Z) (hn : 0 ≤ n) (hP : Z.Has t p P) (hk : P.kind = 0) (ho : n ∉ Z.opens) :
    Calls Try.prog 32 #[.pointer (some ⟨r, 0, none⟩), .int .i64 t, .int .i64 n] w fun e w' => e = .returned (.tuple #[.bool false, .int .i64 0]) ∧ Postr r V w { Z with tasks := Z.tasks.set p (P.waits 2 n) } w' := by
  have hf := zfind_yes r V Z t p P w h hP
  have hop := zopen r V Z n w h
  rw [show decide (n ∈ Z.opens) = false by simpa using ho] at hop
  obtain ⟨_, c1, c2, _⟩ := h.cells
  obtain ⟨g, o, hA⟩ := h.task hP.get
  have hix := hA.ix
  have hkd := hA.kind
  have hfz := hA.frozen 1 (by omega)
  rw [hk] at hkd
  obtain ⟨wa, hwa⟩ : ∃ wa, w.setCell ⟨g, o + 1, none⟩ (.int .i64 2) = wa := ⟨_, rfl⟩
  obtain ⟨wb, hwb⟩ : ∃ wb, wa.setCell ⟨g, o + 2, none⟩ (.int .i64 n) = wb := ⟨_, rfl⟩
  obtain ⟨ha, hA1, h2⟩ := h.wait2 hP.get hA hwa hwb
  have ca1 := ha.cells.2.1
  have can := hA1.num
  have caf := hA1.frozen 2 (by omega)
  have HP := Lib.hid h2
  have HWA := Lib.hid hwa
  have HWB := Lib.hid hwb
  clear h hP hA hk ha hA1 h2 hwa hwb ho
  go_enter Try.func32, Try.ntmps32
  go_upto_region 11 with (first | (go_at_call 39; refine hf.mono ?_; rintro e w' ⟨rfl, rfl⟩) | (go_at_call 47; refine hop.mono ?_; rintro e w' ⟨rfl, rfl⟩))
  rw [HWA.out]
  clear HWA c1 c2 hkd hfz hf hop
  go_upto_region 12 with fail
  rw [HWB.out]
  clear HWB ca1 can caf
  go_wp2
  go_ret2
  exact ⟨rfl, HP.out.post⟩

/-! ### Unlock -/
set_option maxHeartbeats 400000 in
theorem zunlock_neg (r : Nat) (t n : Int) (w : World) (hn : n < 0) :
    Calls Try.prog 31 #[.pointer (some ⟨r, 0, none⟩), .int .i64 t, .int .i64 n] w fun e w' => e = .returned (.int .i64 1) ∧ w = w' := by
  go_enter Try.func31, Try.ntmps31
  go_wp2
  go_ret
  exact ⟨rfl, rfl⟩
set_option maxHeartbeats 400000 in
theorem zunlock_no (r : Nat) (V : Nat → Value) (Z : ZS) (t n : Int) (w : World) (h : RAt w r V Z) (hn : 0 ≤ n) (hno : Z.Hasnt t) :
    Calls Try.prog 31 #[.pointer (some ⟨r, 0, none⟩), .int .i64 t, .int .i64 n] w fun e w' => e = .returned (.int .i64 18) ∧ w = w' := by
  have hf := zfind_no r V Z t w h hno
  clear h hno
  go_enter Try.func31, Try.ntmps31
  go_wp2_with (go_at_call 39; refine hf.mono ?_; rintro e w' ⟨rfl, rfl⟩)
  go_ret
  exact ⟨rfl, rfl⟩
set_option maxHeartbeats 400000 in
theorem zunlock_other (r p : Nat) (V : Nat → Value) (Z : ZS) (P : ZT) (t n : Int) (w : World) (h : RAt w r V Z) (hn : 0 ≤ n) (hP : Z.Has t p P) (hh : hget Z.held n ≠ t) :
    Calls Try.prog 31 #[.pointer (some ⟨r, 0, none⟩), .int .i64 t, .int .i64 n] w fun e w' => e = .returned (.int .i64 19) ∧ w = w' := by
  have hf := zfind_yes r V Z t p P w h hP
  have hho := zholder r V Z n w h
  obtain ⟨H, hH⟩ : ∃ H, hget Z.held n = H := ⟨_, rfl⟩
  rw [hH] at hho hh
  have hb : (H != t) = true := by simpa using hh
  clear h hP hh hH
  go_enter Try.func31, Try.ntmps31
  go_wp2_with (first | (go_at_call 39; refine hf.mono ?_; rintro e w' ⟨rfl, rfl⟩) | (go_at_call 17; refine hho.mono ?_; rintro e w' ⟨rfl, rfl⟩))
  go_ret
  exact ⟨rfl, rfl⟩
set_option maxHeartbeats 400000 in
theorem zunlock_mine (r p : Nat) (V : Nat → Value) (Z : ZS) (P : ZT) (t n : Int) (w : World) {Q : World → Prop} (h : RAt w r V Z) (hn : 0 ≤ n) (hP : Z.Has t p P) (hh : hget Z.held n = t)
    (hfree : Calls Try.prog 46 #[.pointer (some ⟨r, 0, none⟩), .int .i64 n] w fun e w' => e = .returned (.tuple #[]) ∧ Q w') :
    Calls Try.prog 31 #[.pointer (some ⟨r, 0, none⟩), .int .i64 t, .int .i64 n] w fun e w' => e = .returned (.int .i64 0) ∧ Q w' := by
  have hf := zfind_yes r V Z t p P w h hP
  have hho := zholder r V Z n w h
  rw [hh] at hho
  have HF := Lib.hid hfree
  clear h hP hh hfree
  go_enter Try.func31, Try.ntmps31
  go_wp2_with (first | (go_at_call 39; refine hf.mono ?_; rintro e w' ⟨rfl, rfl⟩) | (go_at_call 17; refine hho.mono ?_; rintro e w' ⟨rfl, rfl⟩) | (go_at_call 46; refine HF.out.mono ?_; rintro e w' ⟨rfl, hq⟩; have HQ := Lib.hid hq; clear hq))
  go_ret
  exact ⟨rfl, HQ.out⟩

end Go.Proofs.Ytnonidoeakhfdaa
