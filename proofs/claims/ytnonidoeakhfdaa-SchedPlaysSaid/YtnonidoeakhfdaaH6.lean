/- Both schedulers, one call of each: the same answer. -/
import Derived.Test.YtnonidoeakhfdaaH5
import Derived.Test.YtnonidoeakhfdaaE4
namespace Go.Proofs.Ytnonidoeakhfdaa
open Go.RowKit Go.Maps Go.Sort
set_option linter.unusedVariables false

structure NN (w : World) (X : Nat → Prop) (d r : Nat) (S T : SS) : Prop where
  ex : ∃ V Z, RAt w r V Z ∧ Sim T Z ∧ (∀ k, footR r V k → ¬ X k) ∧ Sc w (fun k => X k ∨ footR r V k) d S
  wf : WF T

section
variable {w w' : World} {X Y : Nat → Prop} {d r : Nat} {S S' T T' : SS}
theorem NN.land (h : NN w X d r S T) {f : Nat} {args : Array Value} {E : Ending → Prop} (hc : ∀ Y, Sc w Y d S → Calls Try.prog f args w fun e w' => E e ∧ Sc w' Y d S' ∧ Fr (Out Y) w w') :
    Calls Try.prog f args w fun e w' => E e ∧ NN w' X d r S' T ∧ Fr (Out X) w w' := by
  obtain ⟨⟨V, Z, h1, h2, h3, h4⟩, hW⟩ := h
  refine (hc _ h4).mono ?_
  rintro e w' ⟨he, h5, h6⟩
  exact ⟨he, ⟨⟨V, Z, h1.fr h6 fun k hk hf => hk (.inr hf), h2, h3, h5⟩, hW⟩, h6.mono fun k _ hk hx => hk (.inl hx)⟩
theorem NN.docs (h : NN w X d r S T) {f : Nat} {args : Array Value} {E : Ending → Prop} (hW' : WF T') (hc : ∀ V Z, RAt w r V Z → Sim T Z → Calls Try.prog f args w fun e w' => E e ∧ Left r V w T' w') :
    Calls Try.prog f args w fun e w' => E e ∧ NN w' X d r S T' ∧ Fr (Out X) w w' := by
  obtain ⟨⟨V, Z, h1, h2, h3, h4⟩, hW⟩ := h
  refine (hc V Z h1 h2).mono ?_
  rintro e w' ⟨he, Z', h5, V', h6⟩
  have hg := h4.grow (h6.fr.mono fun k _ hk => (Or.inr hk : X k ∨ footR r V k))
  refine ⟨he, ⟨⟨V', Z', h6.at_, h5, fun k hk hx => ?_, hg.less fun k hk => ?_⟩, hW'⟩, h6.fr.mono fun k _ hk => h3 k hk⟩
  · rcases h6.foot k hk with hk | hk
    · exact h3 k hk hx
    · have := h4.there k (.inl hx); omega
  · rcases hk with hk | hk
    · exact .inl (.inl hk)
    · rcases h6.foot k hk with hk2 | hk2
      · exact .inl (.inr hk2)
      · exact .inr ⟨hk2, h6.at_.lt k hk⟩
theorem NN.keep (h : NN w X d r S T) (hf : Fr No w w') : NN w' X d r S T := by
  obtain ⟨⟨V, Z, h1, h2, h3, h4⟩, hW⟩ := h
  exact ⟨⟨V, Z, h1.keep hf, h2, h3, h4.keep hf⟩, hW⟩
theorem NN.less (h : NN w X d r S T) (hY : ∀ k, Y k → X k) : NN w Y d r S T := by
  obtain ⟨⟨V, Z, h1, h2, h3, h4⟩, hW⟩ := h
  exact ⟨⟨V, Z, h1, h2, fun k hk hy => h3 k hk (hY k hy), h4.less fun k hk => hk.imp_left (hY k)⟩, hW⟩
theorem NN.wfl (h : NN w X d r S T) : WF S := by
  obtain ⟨⟨V, Z, h1, h2, h3, h4⟩, hW⟩ := h
  exact h4.wf

/-- The law's own, and the call's copy. -/
def XO (X : Nat → Prop) (b k : Nat) : Prop := X k ∨ k = b
theorem unlockC_used (S : SS) (t n : Int) : (S.unlockC t n).2.used ≤ S.used + 1 := by
  unfold SS.unlockC
  split
  · exact Nat.le_succ _
  · split
    · exact Nat.le_succ _
    · split
      · exact Nat.le_succ _
      · show (S.pass n).used ≤ _; rw [pass_used]; exact Nat.le_succ _
theorem awaitC_used (S : SS) (t n : Int) : (S.awaitC t n).2.used ≤ S.used + 1 := by
  unfold SS.awaitC
  split
  · exact Nat.le_succ _
  · split
    · exact Nat.le_succ _
    · split
      · exact Nat.le_succ _
      · split <;> exact Nat.le_succ _
theorem openC_used (S : SS) (n : Int) : (S.openC n).2.used ≤ S.used + 1 := by
  unfold SS.openC
  split
  · exact Nat.le_succ _
  · rw [wakeAll_eq]; exact Nat.le_refl _

theorem NN.alloc (h : NN w X d r S T) (o : Obj) : NN (w.alloc o) (XO X w.heap.size) d r S T := by
  obtain ⟨⟨V, Z, h1, h2, h3, h4⟩, hW⟩ := h
  have hf : Fr No w (w.alloc o) := (Fr.refl No w).alloc o
  refine ⟨⟨V, Z, h1.keep hf, h2, fun k hk hx => ?_, (h4.grow hf.any).less fun k hk => ?_⟩, hW⟩
  · rcases hx with hx | hx
    · exact h3 k hk hx
    · have := h1.lt k hk; omega
  · rcases hk with (hk | hk) | hk
    · exact .inl (.inl hk)
    · right; simp; omega
    · exact .inl (.inr hk)
end

structure OpV where
  kind : Int
  task : Int
  num : Int
def OpV.cells (o : OpV) : Array Value := #[.int .i64 o.kind, .int .i64 o.task, .int .i64 o.num]
def i64 (n : Int) : Prop := -9223372036854775808 ≤ n ∧ n ≤ 9223372036854775807
structure OpV.Ok (o : OpV) : Prop where
  kind : i64 o.kind
  task : i64 o.task
  num : i64 o.num

theorem tmod8 (x : Int) : (x.tmod 8 = 0) ∨ (x.tmod 8 = 1 ∨ x.tmod 8 = -7) ∨ (x.tmod 8 = 2 ∨ x.tmod 8 = -6) ∨ (x.tmod 8 = 3 ∨ x.tmod 8 = -5) ∨ (x.tmod 8 = 4 ∨ x.tmod 8 = -4) ∨ (x.tmod 8 = 5 ∨ x.tmod 8 = -3) ∨ (x.tmod 8 = 6 ∨ x.tmod 8 = -2) ∨ (x.tmod 8 = 7 ∨ x.tmod 8 = -1) := by
  have := tmod_small x 8 (by omega)
  omega

def DoesOk (w : World) (X : Nat → Prop) (d r : Nat) (S : SS) (o : OpV) : Prop :=
  Calls Try.prog 11 #[.pointer (some ⟨d, 0, none⟩), .pointer (some ⟨r, 0, none⟩), .agg #[.int .i64 o.kind, .int .i64 o.task, .int .i64 o.num]] w fun e w' => e = .returned (.bool true) ∧ ∃ S', NN w' X d r S' S' ∧ S'.used ≤ S.used + 1 ∧ Fr (Out X) w w'
theorem out_less {w w' : World} {X : Nat → Prop} {b : Nat} (h : Fr (Out (XO X b)) w w') : Fr (Out X) w w' := h.mono fun k _ hk hx => hk (.inl hx)
theorem does_end {w w1 w2 : World} {X : Nat → Prop} {d r : Nat} {S S' : SS} {o : Obj} (h : NN w2 (XO X w.heap.size) d r S' S') (hu : S'.used ≤ S.used + 1) (f1 : Fr (Out (XO X w.heap.size)) (w.alloc o) w1) (f2 : Fr (Out (XO X w.heap.size)) w1 w2) :
    ∃ S', NN w2 X d r S' S' ∧ S'.used ≤ S.used + 1 ∧ Fr (Out X) w w2 :=
  ⟨S', h.less fun k hk => .inl hk, hu, ((Fr.refl _ w).alloc o).trans (out_less (f1.trans f2 fun _ _ hk => hk)) fun _ _ hk => hk⟩
theorem copy_cell {w w1 : World} {X : Nat → Prop} {o : OpV} (f1 : Fr (Out (XO X w.heap.size)) (w.alloc (.cells #[.int .i64 o.kind, .int .i64 o.task, .int .i64 o.num] 34)) w1) :
    Blk w1 w.heap.size 34 o.cells :=
  (Blk.new w 34 o.cells).of (f1.block _ (by simp) fun hk => hk (.inr rfl))

set_option maxRecDepth 100000 in
set_option maxHeartbeats 2000000 in
theorem does_start (w : World) (X : Nat → Prop) (d r : Nat) (S : SS) (o : OpV) (h : NN w X d r S S) (hu : S.used ≤ 1000) (ho : o.Ok) (hk : o.kind.tmod 8 = 0) : DoesOk w X d r S o := by
  have htw := wf64 ho.task.1 ho.task.2
  have hnw := wf64 ho.num.1 ho.num.2
  have hW := h.wf
  have h0 : NN (w.alloc (.cells #[.int .i64 o.kind, .int .i64 o.task, .int .i64 o.num] 34)) (XO X w.heap.size) d r S S := h.alloc _
  have hq := h0.land (S' := S.started.2) fun Y hS => m_start hS (by omega)
  have hs := fun (w' : World) (S1 : SS) (hn : NN w' (XO X w.heap.size) d r S1 S) => hn.docs (T' := S.started.2) (hW.started (by omega)) fun V Z hR hS => r_start hR hS hW
  have hus : S.started.2.used ≤ S.used + 1 := by unfold SS.started; split; exact Nat.le_succ _; exact Nat.le_refl _
  obtain ⟨⟨⟨a, e1⟩, S1⟩, hp⟩ : ∃ p, S.started = p := ⟨_, rfl⟩
  rw [hp] at hq hus
  simp only [hp] at hs
  simp only at hq hus
  have HU := Lib.hid hus
  clear hp hus
  have HQ := Lib.hid hq
  have HS := Lib.hid hs
  clear h h0 hq hs hW hu ho
  unfold DoesOk
  go_enter Try.func11, Try.ntmps11
  go_wp2_with fail
  refine HQ.out.mono ?_
  rintro e w1 ⟨rfl, h1, f1⟩
  have hb1 := copy_cell f1
  have c0 : w1.cell? ⟨w.heap.size, 0, none⟩ = some (.int .i64 o.kind) := hb1.cell 0
  have c1 : w1.cell? ⟨w.heap.size, 1, none⟩ = some (.int .i64 o.task) := hb1.cell 1
  have c2 : w1.cell? ⟨w.heap.size, 2, none⟩ = some (.int .i64 o.num) := hb1.cell 2
  have H1 := Lib.hid h1
  have F1 := Lib.hid f1
  clear h1 f1 hb1 HQ
  go_wp2_with fail
  refine (HS.out _ _ H1.out).mono ?_
  rintro e w2 ⟨rfl, h2, f2⟩
  have HE := Lib.hid (does_end (S := S) h2 HU.out F1.out f2)
  clear h2 f2 HS H1 F1 c0 c1 c2
  go_wp2
  go_ret
  exact ⟨rfl, HE.out⟩

set_option maxRecDepth 100000 in
set_option maxHeartbeats 2000000 in
theorem does_ends (w : World) (X : Nat → Prop) (d r : Nat) (S : SS) (o : OpV) (h : NN w X d r S S) (hu : S.used ≤ 1000) (ho : o.Ok) (hk : o.kind.tmod 8 = 1 ∨ o.kind.tmod 8 = -7) : DoesOk w X d r S o := by
  have htw := wf64 ho.task.1 ho.task.2
  have hnw := wf64 ho.num.1 ho.num.2
  have hW := h.wf
  have h0 : NN (w.alloc (.cells #[.int .i64 o.kind, .int .i64 o.task, .int .i64 o.num] 34)) (XO X w.heap.size) d r S S := h.alloc _
  have hq := h0.land (S' := (S.endC o.task).2) fun Y hS => m_end hS o.task htw
  have hs := fun (w' : World) (S1 : SS) (hn : NN w' (XO X w.heap.size) d r S1 S) => hn.docs (T' := (S.endC o.task).2) (hW.endC o.task) fun V Z hR hS => r_end hR hS hW (by omega) o.task
  have hus : (S.endC o.task).2.used ≤ S.used + 1 := by rw [endC_used]; exact Nat.le_succ _
  obtain ⟨⟨e1, S1⟩, hp⟩ : ∃ p, (S.endC o.task) = p := ⟨_, rfl⟩
  rw [hp] at hq hus
  simp only [hp] at hs
  simp only at hq hus
  have HU := Lib.hid hus
  clear hp hus
  have HQ := Lib.hid hq
  have HS := Lib.hid hs
  clear h h0 hq hs hW hu ho
  unfold DoesOk
  rcases hk with hk | hk
  · go_enter Try.func11, Try.ntmps11
    go_wp2_with fail
    refine HQ.out.mono ?_
    rintro e w1 ⟨rfl, h1, f1⟩
    have hb1 := copy_cell f1
    have c0 : w1.cell? ⟨w.heap.size, 0, none⟩ = some (.int .i64 o.kind) := hb1.cell 0
    have c1 : w1.cell? ⟨w.heap.size, 1, none⟩ = some (.int .i64 o.task) := hb1.cell 1
    have c2 : w1.cell? ⟨w.heap.size, 2, none⟩ = some (.int .i64 o.num) := hb1.cell 2
    have H1 := Lib.hid h1
    have F1 := Lib.hid f1
    clear h1 f1 hb1 HQ
    go_wp2_with fail
    refine (HS.out _ _ H1.out).mono ?_
    rintro e w2 ⟨rfl, h2, f2⟩
    have HE := Lib.hid (does_end (S := S) h2 HU.out F1.out f2)
    clear h2 f2 HS H1 F1 c0 c1 c2
    go_wp2
    go_ret
    exact ⟨rfl, HE.out⟩
  · go_enter Try.func11, Try.ntmps11
    go_wp2_with fail
    refine HQ.out.mono ?_
    rintro e w1 ⟨rfl, h1, f1⟩
    have hb1 := copy_cell f1
    have c0 : w1.cell? ⟨w.heap.size, 0, none⟩ = some (.int .i64 o.kind) := hb1.cell 0
    have c1 : w1.cell? ⟨w.heap.size, 1, none⟩ = some (.int .i64 o.task) := hb1.cell 1
    have c2 : w1.cell? ⟨w.heap.size, 2, none⟩ = some (.int .i64 o.num) := hb1.cell 2
    have H1 := Lib.hid h1
    have F1 := Lib.hid f1
    clear h1 f1 hb1 HQ
    go_wp2_with fail
    refine (HS.out _ _ H1.out).mono ?_
    rintro e w2 ⟨rfl, h2, f2⟩
    have HE := Lib.hid (does_end (S := S) h2 HU.out F1.out f2)
    clear h2 f2 HS H1 F1 c0 c1 c2
    go_wp2
    go_ret
    exact ⟨rfl, HE.out⟩

set_option maxRecDepth 100000 in
set_option maxHeartbeats 2000000 in
theorem does_pick (w : World) (X : Nat → Prop) (d r : Nat) (S : SS) (o : OpV) (h : NN w X d r S S) (hu : S.used ≤ 1000) (ho : o.Ok) (hk : o.kind.tmod 8 = 2 ∨ o.kind.tmod 8 = -6) : DoesOk w X d r S o := by
  have htw := wf64 ho.task.1 ho.task.2
  have hnw := wf64 ho.num.1 ho.num.2
  have hW := h.wf
  have h0 : NN (w.alloc (.cells #[.int .i64 o.kind, .int .i64 o.task, .int .i64 o.num] 34)) (XO X w.heap.size) d r S S := h.alloc _
  have hq := h0.land (S' := (S.pick o.num).2) fun Y hS => m_pick hS o.num ho.num (by omega)
  have hs := fun (w' : World) (S1 : SS) (hn : NN w' (XO X w.heap.size) d r S1 S) => hn.docs (T' := (S.pick o.num).2) (hW.pick (by omega) o.num) fun V Z hR hS => r_pick hR hS hW o.num ho.num
  have hus : (S.pick o.num).2.used ≤ S.used + 1 := pick_used S o.num
  obtain ⟨⟨⟨a, e1⟩, S1⟩, hp⟩ : ∃ p, (S.pick o.num) = p := ⟨_, rfl⟩
  rw [hp] at hq hus
  simp only [hp] at hs
  simp only at hq hus
  have HU := Lib.hid hus
  clear hp hus
  have HQ := Lib.hid hq
  have HS := Lib.hid hs
  clear h h0 hq hs hW hu ho
  unfold DoesOk
  rcases hk with hk | hk
  · go_enter Try.func11, Try.ntmps11
    go_wp2_with fail
    refine HQ.out.mono ?_
    rintro e w1 ⟨rfl, h1, f1⟩
    have hb1 := copy_cell f1
    have c0 : w1.cell? ⟨w.heap.size, 0, none⟩ = some (.int .i64 o.kind) := hb1.cell 0
    have c1 : w1.cell? ⟨w.heap.size, 1, none⟩ = some (.int .i64 o.task) := hb1.cell 1
    have c2 : w1.cell? ⟨w.heap.size, 2, none⟩ = some (.int .i64 o.num) := hb1.cell 2
    have H1 := Lib.hid h1
    have F1 := Lib.hid f1
    clear h1 f1 hb1 HQ
    go_wp2_with fail
    refine (HS.out _ _ H1.out).mono ?_
    rintro e w2 ⟨rfl, h2, f2⟩
    have HE := Lib.hid (does_end (S := S) h2 HU.out F1.out f2)
    clear h2 f2 HS H1 F1 c0 c1 c2
    go_wp2
    go_ret
    exact ⟨rfl, HE.out⟩
  · go_enter Try.func11, Try.ntmps11
    go_wp2_with fail
    refine HQ.out.mono ?_
    rintro e w1 ⟨rfl, h1, f1⟩
    have hb1 := copy_cell f1
    have c0 : w1.cell? ⟨w.heap.size, 0, none⟩ = some (.int .i64 o.kind) := hb1.cell 0
    have c1 : w1.cell? ⟨w.heap.size, 1, none⟩ = some (.int .i64 o.task) := hb1.cell 1
    have c2 : w1.cell? ⟨w.heap.size, 2, none⟩ = some (.int .i64 o.num) := hb1.cell 2
    have H1 := Lib.hid h1
    have F1 := Lib.hid f1
    clear h1 f1 hb1 HQ
    go_wp2_with fail
    refine (HS.out _ _ H1.out).mono ?_
    rintro e w2 ⟨rfl, h2, f2⟩
    have HE := Lib.hid (does_end (S := S) h2 HU.out F1.out f2)
    clear h2 f2 HS H1 F1 c0 c1 c2
    go_wp2
    go_ret
    exact ⟨rfl, HE.out⟩

set_option maxRecDepth 100000 in
set_option maxHeartbeats 2000000 in
theorem does_lock (w : World) (X : Nat → Prop) (d r : Nat) (S : SS) (o : OpV) (h : NN w X d r S S) (hu : S.used ≤ 1000) (ho : o.Ok) (hk : o.kind.tmod 8 = 3 ∨ o.kind.tmod 8 = -5) : DoesOk w X d r S o := by
  have htw := wf64 ho.task.1 ho.task.2
  have hnw := wf64 ho.num.1 ho.num.2
  have hW := h.wf
  have h0 : NN (w.alloc (.cells #[.int .i64 o.kind, .int .i64 o.task, .int .i64 o.num] 34)) (XO X w.heap.size) d r S S := h.alloc _
  have hq := h0.land (S' := (S.lockC o.task o.num).2) fun Y hS => m_lock hS o.task o.num htw hnw (by omega)
  have hs := fun (w' : World) (S1 : SS) (hn : NN w' (XO X w.heap.size) d r S1 S) => hn.docs (T' := (S.lockC o.task o.num).2) (hW.lockC (by omega) o.task o.num ho.num.2) fun V Z hR hS => r_lock hR hS hW o.task o.num
  have hus : (S.lockC o.task o.num).2.used ≤ S.used + 1 := lockC_used S o.task o.num
  obtain ⟨⟨⟨a, e1⟩, S1⟩, hp⟩ : ∃ p, (S.lockC o.task o.num) = p := ⟨_, rfl⟩
  rw [hp] at hq hus
  simp only [hp] at hs
  simp only at hq hus
  have HU := Lib.hid hus
  clear hp hus
  have HQ := Lib.hid hq
  have HS := Lib.hid hs
  clear h h0 hq hs hW hu ho
  unfold DoesOk
  rcases hk with hk | hk
  · go_enter Try.func11, Try.ntmps11
    go_wp2_with fail
    refine HQ.out.mono ?_
    rintro e w1 ⟨rfl, h1, f1⟩
    have hb1 := copy_cell f1
    have c0 : w1.cell? ⟨w.heap.size, 0, none⟩ = some (.int .i64 o.kind) := hb1.cell 0
    have c1 : w1.cell? ⟨w.heap.size, 1, none⟩ = some (.int .i64 o.task) := hb1.cell 1
    have c2 : w1.cell? ⟨w.heap.size, 2, none⟩ = some (.int .i64 o.num) := hb1.cell 2
    have H1 := Lib.hid h1
    have F1 := Lib.hid f1
    clear h1 f1 hb1 HQ
    go_wp2_with fail
    refine (HS.out _ _ H1.out).mono ?_
    rintro e w2 ⟨rfl, h2, f2⟩
    have HE := Lib.hid (does_end (S := S) h2 HU.out F1.out f2)
    clear h2 f2 HS H1 F1 c0 c1 c2
    go_wp2
    go_ret
    exact ⟨rfl, HE.out⟩
  · go_enter Try.func11, Try.ntmps11
    go_wp2_with fail
    refine HQ.out.mono ?_
    rintro e w1 ⟨rfl, h1, f1⟩
    have hb1 := copy_cell f1
    have c0 : w1.cell? ⟨w.heap.size, 0, none⟩ = some (.int .i64 o.kind) := hb1.cell 0
    have c1 : w1.cell? ⟨w.heap.size, 1, none⟩ = some (.int .i64 o.task) := hb1.cell 1
    have c2 : w1.cell? ⟨w.heap.size, 2, none⟩ = some (.int .i64 o.num) := hb1.cell 2
    have H1 := Lib.hid h1
    have F1 := Lib.hid f1
    clear h1 f1 hb1 HQ
    go_wp2_with fail
    refine (HS.out _ _ H1.out).mono ?_
    rintro e w2 ⟨rfl, h2, f2⟩
    have HE := Lib.hid (does_end (S := S) h2 HU.out F1.out f2)
    clear h2 f2 HS H1 F1 c0 c1 c2
    go_wp2
    go_ret
    exact ⟨rfl, HE.out⟩

set_option maxRecDepth 100000 in
set_option maxHeartbeats 2000000 in
theorem does_lock4 (w : World) (X : Nat → Prop) (d r : Nat) (S : SS) (o : OpV) (h : NN w X d r S S) (hu : S.used ≤ 1000) (ho : o.Ok) (hk : o.kind.tmod 8 = 4 ∨ o.kind.tmod 8 = -4) : DoesOk w X d r S o := by
  have htw := wf64 ho.task.1 ho.task.2
  have hnw := wf64 ho.num.1 ho.num.2
  have hW := h.wf
  have h0 : NN (w.alloc (.cells #[.int .i64 o.kind, .int .i64 o.task, .int .i64 o.num] 34)) (XO X w.heap.size) d r S S := h.alloc _
  have hq := h0.land (S' := (S.lockC o.task o.num).2) fun Y hS => m_lock hS o.task o.num htw hnw (by omega)
  have hs := fun (w' : World) (S1 : SS) (hn : NN w' (XO X w.heap.size) d r S1 S) => hn.docs (T' := (S.lockC o.task o.num).2) (hW.lockC (by omega) o.task o.num ho.num.2) fun V Z hR hS => r_lock hR hS hW o.task o.num
  have hus : (S.lockC o.task o.num).2.used ≤ S.used + 1 := lockC_used S o.task o.num
  obtain ⟨⟨⟨a, e1⟩, S1⟩, hp⟩ : ∃ p, (S.lockC o.task o.num) = p := ⟨_, rfl⟩
  rw [hp] at hq hus
  simp only [hp] at hs
  simp only at hq hus
  have HU := Lib.hid hus
  clear hp hus
  have HQ := Lib.hid hq
  have HS := Lib.hid hs
  clear h h0 hq hs hW hu ho
  unfold DoesOk
  rcases hk with hk | hk
  · go_enter Try.func11, Try.ntmps11
    go_wp2_with fail
    refine HQ.out.mono ?_
    rintro e w1 ⟨rfl, h1, f1⟩
    have hb1 := copy_cell f1
    have c0 : w1.cell? ⟨w.heap.size, 0, none⟩ = some (.int .i64 o.kind) := hb1.cell 0
    have c1 : w1.cell? ⟨w.heap.size, 1, none⟩ = some (.int .i64 o.task) := hb1.cell 1
    have c2 : w1.cell? ⟨w.heap.size, 2, none⟩ = some (.int .i64 o.num) := hb1.cell 2
    have H1 := Lib.hid h1
    have F1 := Lib.hid f1
    clear h1 f1 hb1 HQ
    go_wp2_with fail
    refine (HS.out _ _ H1.out).mono ?_
    rintro e w2 ⟨rfl, h2, f2⟩
    have HE := Lib.hid (does_end (S := S) h2 HU.out F1.out f2)
    clear h2 f2 HS H1 F1 c0 c1 c2
    go_wp2
    go_ret
    exact ⟨rfl, HE.out⟩
  · go_enter Try.func11, Try.ntmps11
    go_wp2_with fail
    refine HQ.out.mono ?_
    rintro e w1 ⟨rfl, h1, f1⟩
    have hb1 := copy_cell f1
    have c0 : w1.cell? ⟨w.heap.size, 0, none⟩ = some (.int .i64 o.kind) := hb1.cell 0
    have c1 : w1.cell? ⟨w.heap.size, 1, none⟩ = some (.int .i64 o.task) := hb1.cell 1
    have c2 : w1.cell? ⟨w.heap.size, 2, none⟩ = some (.int .i64 o.num) := hb1.cell 2
    have H1 := Lib.hid h1
    have F1 := Lib.hid f1
    clear h1 f1 hb1 HQ
    go_wp2_with fail
    refine (HS.out _ _ H1.out).mono ?_
    rintro e w2 ⟨rfl, h2, f2⟩
    have HE := Lib.hid (does_end (S := S) h2 HU.out F1.out f2)
    clear h2 f2 HS H1 F1 c0 c1 c2
    go_wp2
    go_ret
    exact ⟨rfl, HE.out⟩

set_option maxRecDepth 100000 in
set_option maxHeartbeats 2000000 in
theorem does_unlock (w : World) (X : Nat → Prop) (d r : Nat) (S : SS) (o : OpV) (h : NN w X d r S S) (hu : S.used ≤ 1000) (ho : o.Ok) (hk : o.kind.tmod 8 = 5 ∨ o.kind.tmod 8 = -3) : DoesOk w X d r S o := by
  have htw := wf64 ho.task.1 ho.task.2
  have hnw := wf64 ho.num.1 ho.num.2
  have hW := h.wf
  have h0 : NN (w.alloc (.cells #[.int .i64 o.kind, .int .i64 o.task, .int .i64 o.num] 34)) (XO X w.heap.size) d r S S := h.alloc _
  have hq := h0.land (S' := (S.unlockC o.task o.num).2) fun Y hS => m_unlock hS o.task o.num htw hnw
  have hs := fun (w' : World) (S1 : SS) (hn : NN w' (XO X w.heap.size) d r S1 S) => hn.docs (T' := (S.unlockC o.task o.num).2) (hW.unlockC o.task o.num) fun V Z hR hS => r_unlock hR hS hW (by omega) o.task o.num
  have hus : (S.unlockC o.task o.num).2.used ≤ S.used + 1 := unlockC_used S o.task o.num
  obtain ⟨⟨e1, S1⟩, hp⟩ : ∃ p, (S.unlockC o.task o.num) = p := ⟨_, rfl⟩
  rw [hp] at hq hus
  simp only [hp] at hs
  simp only at hq hus
  have HU := Lib.hid hus
  clear hp hus
  have HQ := Lib.hid hq
  have HS := Lib.hid hs
  clear h h0 hq hs hW hu ho
  unfold DoesOk
  rcases hk with hk | hk
  · go_enter Try.func11, Try.ntmps11
    go_wp2_with fail
    refine HQ.out.mono ?_
    rintro e w1 ⟨rfl, h1, f1⟩
    have hb1 := copy_cell f1
    have c0 : w1.cell? ⟨w.heap.size, 0, none⟩ = some (.int .i64 o.kind) := hb1.cell 0
    have c1 : w1.cell? ⟨w.heap.size, 1, none⟩ = some (.int .i64 o.task) := hb1.cell 1
    have c2 : w1.cell? ⟨w.heap.size, 2, none⟩ = some (.int .i64 o.num) := hb1.cell 2
    have H1 := Lib.hid h1
    have F1 := Lib.hid f1
    clear h1 f1 hb1 HQ
    go_wp2_with fail
    refine (HS.out _ _ H1.out).mono ?_
    rintro e w2 ⟨rfl, h2, f2⟩
    have HE := Lib.hid (does_end (S := S) h2 HU.out F1.out f2)
    clear h2 f2 HS H1 F1 c0 c1 c2
    go_wp2
    go_ret
    exact ⟨rfl, HE.out⟩
  · go_enter Try.func11, Try.ntmps11
    go_wp2_with fail
    refine HQ.out.mono ?_
    rintro e w1 ⟨rfl, h1, f1⟩
    have hb1 := copy_cell f1
    have c0 : w1.cell? ⟨w.heap.size, 0, none⟩ = some (.int .i64 o.kind) := hb1.cell 0
    have c1 : w1.cell? ⟨w.heap.size, 1, none⟩ = some (.int .i64 o.task) := hb1.cell 1
    have c2 : w1.cell? ⟨w.heap.size, 2, none⟩ = some (.int .i64 o.num) := hb1.cell 2
    have H1 := Lib.hid h1
    have F1 := Lib.hid f1
    clear h1 f1 hb1 HQ
    go_wp2_with fail
    refine (HS.out _ _ H1.out).mono ?_
    rintro e w2 ⟨rfl, h2, f2⟩
    have HE := Lib.hid (does_end (S := S) h2 HU.out F1.out f2)
    clear h2 f2 HS H1 F1 c0 c1 c2
    go_wp2
    go_ret
    exact ⟨rfl, HE.out⟩

set_option maxRecDepth 100000 in
set_option maxHeartbeats 2000000 in
theorem does_await (w : World) (X : Nat → Prop) (d r : Nat) (S : SS) (o : OpV) (h : NN w X d r S S) (hu : S.used ≤ 1000) (ho : o.Ok) (hk : o.kind.tmod 8 = 6 ∨ o.kind.tmod 8 = -2) : DoesOk w X d r S o := by
  have htw := wf64 ho.task.1 ho.task.2
  have hnw := wf64 ho.num.1 ho.num.2
  have hW := h.wf
  have h0 : NN (w.alloc (.cells #[.int .i64 o.kind, .int .i64 o.task, .int .i64 o.num] 34)) (XO X w.heap.size) d r S S := h.alloc _
  have hq := h0.land (S' := (S.awaitC o.task o.num).2) fun Y hS => m_await hS o.task o.num htw hnw
  have hs := fun (w' : World) (S1 : SS) (hn : NN w' (XO X w.heap.size) d r S1 S) => hn.docs (T' := (S.awaitC o.task o.num).2) (hW.awaitC o.task o.num) fun V Z hR hS => r_await hR hS hW o.task o.num
  have hus : (S.awaitC o.task o.num).2.used ≤ S.used + 1 := awaitC_used S o.task o.num
  obtain ⟨⟨⟨a, e1⟩, S1⟩, hp⟩ : ∃ p, (S.awaitC o.task o.num) = p := ⟨_, rfl⟩
  rw [hp] at hq hus
  simp only [hp] at hs
  simp only at hq hus
  have HU := Lib.hid hus
  clear hp hus
  have HQ := Lib.hid hq
  have HS := Lib.hid hs
  clear h h0 hq hs hW hu ho
  unfold DoesOk
  rcases hk with hk | hk
  · go_enter Try.func11, Try.ntmps11
    go_wp2_with fail
    refine HQ.out.mono ?_
    rintro e w1 ⟨rfl, h1, f1⟩
    have hb1 := copy_cell f1
    have c0 : w1.cell? ⟨w.heap.size, 0, none⟩ = some (.int .i64 o.kind) := hb1.cell 0
    have c1 : w1.cell? ⟨w.heap.size, 1, none⟩ = some (.int .i64 o.task) := hb1.cell 1
    have c2 : w1.cell? ⟨w.heap.size, 2, none⟩ = some (.int .i64 o.num) := hb1.cell 2
    have H1 := Lib.hid h1
    have F1 := Lib.hid f1
    clear h1 f1 hb1 HQ
    go_wp2_with fail
    refine (HS.out _ _ H1.out).mono ?_
    rintro e w2 ⟨rfl, h2, f2⟩
    have HE := Lib.hid (does_end (S := S) h2 HU.out F1.out f2)
    clear h2 f2 HS H1 F1 c0 c1 c2
    go_wp2
    go_ret
    exact ⟨rfl, HE.out⟩
  · go_enter Try.func11, Try.ntmps11
    go_wp2_with fail
    refine HQ.out.mono ?_
    rintro e w1 ⟨rfl, h1, f1⟩
    have hb1 := copy_cell f1
    have c0 : w1.cell? ⟨w.heap.size, 0, none⟩ = some (.int .i64 o.kind) := hb1.cell 0
    have c1 : w1.cell? ⟨w.heap.size, 1, none⟩ = some (.int .i64 o.task) := hb1.cell 1
    have c2 : w1.cell? ⟨w.heap.size, 2, none⟩ = some (.int .i64 o.num) := hb1.cell 2
    have H1 := Lib.hid h1
    have F1 := Lib.hid f1
    clear h1 f1 hb1 HQ
    go_wp2_with fail
    refine (HS.out _ _ H1.out).mono ?_
    rintro e w2 ⟨rfl, h2, f2⟩
    have HE := Lib.hid (does_end (S := S) h2 HU.out F1.out f2)
    clear h2 f2 HS H1 F1 c0 c1 c2
    go_wp2
    go_ret
    exact ⟨rfl, HE.out⟩

end Go.Proofs.Ytnonidoeakhfdaa
