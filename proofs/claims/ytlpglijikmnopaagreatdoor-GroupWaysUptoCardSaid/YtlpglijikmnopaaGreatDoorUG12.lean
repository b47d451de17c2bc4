/- A loop over an iterator that hands out memory: what is handed reads so in the very world of the round. -/
import Derived.Test.YtlpglijikmnopaaGreatDoorUG11
import Derived.RangeFuncNested
import Derived.RangeFuncBound
import Derived.RangeFuncCalls
import Derived.RangeFuncLeaves
import Derived.Shelf.Abstract
import Derived.Shelf.RegionOpen
import Derived.OwnWalkIn
import Derived.TacticsInMore
import Derived.LoopNIn
import Derived.LoopIn
namespace Go.Proofs.YtlpglijikmnopaaGreatDoor
open Go.RowKit Go.Maps Go.Sort Go.Proofs
set_option linter.unusedVariables false

/-- Blocks from B on that hold no cells stay. -/
def Bk (B : Nat) (W W' : World) : Prop := ∀ r o, B ≤ r → W.heap[r]? = some o → o.isCells = false → W'.heap[r]? = some o
/-- How a round's body ends. -/
def bodyQ {α : Type} (B : Nat) (Gm : Nat → Prop) (I : List α → World → Prop) (xs : List α) (W : World) : Exit → Act → World → Prop
  | .normal, _, W' => Bk B W W' ∧ Fr Gm W W' ∧ I xs W'
  | _, _, _ => False
/-- An iterator, for whoever loops over it: it hands out xs of which S speaks, each as Rd says. -/
def SeqM {α : Type} (n : Nat) (gf : Nat) (lb : Array Value) (encs : α → Array Value) (Rd : Nat → α → World → Prop) (Gm : Nat → Prop) (S : List α → Prop) (N : Nat) (w : World) : Prop :=
  ∀ (l : Nat) (J : List α → World → Prop) (W : World), Fr No w W → (∀ pre A B, J pre A → Fr No A B → J pre B) →
    (∀ pre x A W1, J pre A → Fr No A W1 → Rd A.heap.size x W1 → pre.length < N → YieldAt Fence.wide n Tryz.prog l (encs x) W1 fun e W' => e = .returned (.bool true) ∧ J (pre ++ [x]) W' ∧ Fr Gm W1 W') → J [] W →
    CallsIn Fence.wide n Tryz.prog gf (#[.func (.yield l) #[] #[]] ++ lb) W fun e W' => (∃ v, e = .returned v) ∧ ∃ xs, S xs ∧ J xs W'
theorem fr_put {G : Nat → Prop} {W W' : World} {r : Nat} {o : Obj} (f : Fr G W W') (hr : G r) : Fr G W (W'.putObj r o) :=
  ⟨f.os, f.tape, f.output, by show _ ≤ (W'.heap.setIfInBounds r o).size; rw [Array.size_setIfInBounds]; exact f.size, fun k hk hn => (World.putObj_heap_other fun e => hn (by rw [e]; exact hr)).trans (f.block k hk hn)⟩
theorem fr_put' {G : Nat → Prop} {W W' : World} {r : Nat} {o : Obj} (f : Fr G (W.putObj r o) W') (hr : G r) : Fr G W W' :=
  ⟨f.os, f.tape, f.output, by have := f.size; rwa [show (W.putObj r o).heap.size = W.heap.size from Array.size_setIfInBounds] at this, fun k hk hn => (f.block k (by rw [show (W.putObj r o).heap.size = W.heap.size from Array.size_setIfInBounds]; exact hk) hn).trans (World.putObj_heap_other fun e => hn (by rw [e]; exact hr))⟩
theorem size_put' (W : World) (r : Nat) (o : Obj) : (W.putObj r o).heap.size = W.heap.size := Array.size_setIfInBounds
theorem walk_range {α : Type} {n : Nat} {g : Operand} {ps : Array Tmp} {assign body : Code} {Q : Exit → Act → World → Prop} {a : Act} {w : World} {gf : Nat} {lb : Array Value} (hg : a.eval g = .func (.func gf) #[] lb)
    (eg : ∀ args w, (callFunc gf args).run Tryz.prog w = .ok (.enter gf args) w) {encs : α → Array Value} (hps : ∀ x, (encs x).size = ps.size) {Rd : Nat → α → World → Prop} {Gm : Nat → Prop} (hGm : ∀ k, w.heap.size ≤ k → Gm k) {S : List α → Prop} {N : Nat} (hseq : SeqM (n - 1) gf lb encs Rd Gm S N w)
    (I : Nat → List α → World → Prop) (hI : ∀ s pre A B, I s pre A → Fr No A B → I s pre B) (hup : ∀ s s' pre A, I s pre A → s ≤ s' → I s' pre A) (hT : ∀ s pre A r o o', I s pre A → w.heap.size ≤ r → A.heap[r]? = some o → o.isCells = false → I s pre (A.putObj r o')) (hRT : ∀ s x A r o o', Rd s x A → w.heap.size ≤ r → A.heap[r]? = some o → o.isCells = false → Rd s x (A.putObj r o'))
    (h0 : I w.heap.size [] w) (a₁ : α → Act)
    (hassign : ∀ (l : Nat) (x : α) (W : World) (K : Act → World → Prop), K (a₁ x) W → assign.wpIn (Fence.wide.inRound l) (n - 1) Tryz.prog (Exit.then K (fun _ _ _ => False)) { tmps := (ps.zip (encs x)).foldl (fun t (p, v) => t.setIfInBounds p v) a.tmps, defers := [] } W)
    (hbody : ∀ (l s : Nat) (pre : List α) (x : α) (W : World), s ≤ W.heap.size → I s pre W → Rd s x W → pre.length < N → body.wpIn (Fence.wide.inRound l) (n - 1) Tryz.prog (bodyQ w.heap.size Gm (fun pre W => I W.heap.size pre W) (pre ++ [x]) W) (a₁ x) W)
    (hdone : ∀ (D : Nat) (xs : List α) (W : World), w.heap.size ≤ D → S xs → I W.heap.size xs W → W.heap[D]? = some (.deferred (some [])) → Q .normal { a with defers := { target := .collected D, args := #[] } :: a.defers } W) :
    (Code.rangeFunc g ps assign body).wpIn Fence.wide n Tryz.prog Q a w := by
  refine wpIn_rangeFunc fun fn _ => ?_
  obtain ⟨rec, hrec⟩ : ∃ rec : LoopState → Loop, rec = fun st => { state := st, pending := none, fn := fn, tmps := a.tmps, params := ps, assign := assign, body := body, defers := w.heap.size } := ⟨_, rfl⟩
  obtain ⟨D, hD⟩ : ∃ D, w.heap.size = D := ⟨_, rfl⟩
  obtain ⟨W1, hW1⟩ : ∃ W1, (w.alloc (.deferred (some []))).alloc (.loop (rec .ready)) = W1 := ⟨_, rfl⟩
  have hL1 : W1.heap[D + 1]? = some (.loop (rec .ready)) := by
    have := World.alloc_heap_new (w.alloc (.deferred (some []))) (.loop (rec .ready))
    rwa [World.size_alloc, hD, hW1] at this
  have hD1 : W1.heap[D]? = some (.deferred (some [])) := by
    rw [← hW1]
    exact (Below.heap_alloc _ _ _ (by simp; omega)).trans (by rw [← hD]; exact World.alloc_heap_new w _)
  have f1 : Fr No w W1 := by rw [← hW1]; exact ((Fr.refl No w).alloc _).alloc _
  refine ⟨D + 1, [{ target := .collected D, args := #[] }], W1, { target := .fn (.func gf) lb, args := #[.func (.yield (D + 1)) #[] #[]] }, W1, gf, #[.func (.yield (D + 1)) #[] #[]] ++ lb, W1, ?_, ?_, fun _ _ => trivial, ?_, fun h => (by cases h), ?_⟩
  · have := run_enterLoop_outer (P := Tryz.prog) (w := w) fn a.tmps ps assign body
    rw [hD] at this
    rw [← hW1, hrec, ← hD] at *
    exact this
  · simp only [resolve, hg]
    simp [go_sem]
  · simp [invoke, go_sem, eg]
  refine (hseq (D + 1) (fun pre W => I W.heap.size pre W ∧ W.heap[D + 1]? = some (.loop (rec .ready)) ∧ W.heap[D]? = some (.deferred (some []))) W1 f1 ?_ ?_ ⟨hup _ _ _ _ (hI _ _ _ _ h0 f1) f1.size, hL1, hD1⟩).mono ?_
  · rintro pre A B ⟨hi, hl, hd⟩ f
    have lt : ∀ {k : Nat} {o : Obj}, A.heap[k]? = some o → k < A.heap.size := fun h => (Array.getElem?_eq_some_iff.1 h).1
    exact ⟨hup _ _ _ _ (hI _ _ _ _ hi f) f.size, (f.block _ (lt hl) id).trans hl, (f.block _ (lt hd) id).trans hd⟩
  · rintro pre x W0 W ⟨hi, hl, hd⟩ f0 hr hn
    replace hi := hI _ _ _ _ hi f0
    replace hl := (f0.block _ (Array.getElem?_eq_some_iff.1 hl).1 id).trans hl
    replace hd := (f0.block _ (Array.getElem?_eq_some_iff.1 hd).1 id).trans hd
    have hlt : D + 1 < W.heap.size := (Array.getElem?_eq_some_iff.1 hl).1
    have hy := run_yield (P := Tryz.prog) (args := encs x) hl (by rw [hrec]; exact hps x)
    rw [hrec] at hy
    obtain ⟨W2, hW2⟩ : ∃ W2, W.putObj (D + 1) (.loop (rec .busy)) = W2 := ⟨_, rfl⟩
    have hb := run_beginRound (P := Tryz.prog) hl (by rw [hrec])
    have hb2 : (Instr.beginRound (D + 1)).run Tryz.prog W = .ok () W2 := by rw [← hW2]; rw [hrec] at hb ⊢; exact hb
    have hl2 : W2.heap[D + 1]? = some (.loop (rec .busy)) := by rw [← hW2]; exact World.putObj_heap_same hlt
    have hd2 : W2.heap[D]? = some (.deferred (some [])) := by rw [← hW2]; exact (World.putObj_heap_other (by omega)).trans hd
    refine ⟨fn, _, assign, body, hy, roundIn_of_wpIn trivial (hassign _ x W _ ⟨W2, hb2, ?_⟩)⟩
    refine wpIn_mono (hbody _ _ pre x W2 (by rw [← hW2, size_put']; exact f0.size) (by rw [← hW2]; exact hT _ _ _ _ _ _ hi (by omega) hl rfl) (by rw [← hW2]; exact hRT _ _ _ _ _ _ hr (by omega) hl rfl) hn) ?_
    rintro e a3 W3 hq
    cases e with
    | normal =>
      obtain ⟨hk, hf, hi3⟩ := hq
      have hl3 := hk _ _ (by omega) hl2 rfl
      have hd3 := hk _ _ (by omega) hd2 rfl
      have he := run_endRound (P := Tryz.prog) none hl3
      refine ⟨_, _, he, rfl, ⟨by rw [size_put']; exact hT _ _ _ _ _ _ hi3 (by omega) hl3 rfl, ?_, (World.putObj_heap_other (by omega)).trans hd3⟩, ?_⟩
      · rw [World.putObj_heap_same (Array.getElem?_eq_some_iff.1 hl3).1, hrec]
        rfl
      · refine fr_put ?_ (hGm _ (by omega))
        rw [← hW2] at hf
        exact fr_put' hf (hGm _ (by omega))
    | ret => exact hq.elim
    | exit id => exact hq.elim
    | goto t => exact hq.elim
    | panic ch => exact hq.elim
    | outgrown => exact hq.elim
  · rintro e W2 ⟨⟨v, rfl⟩, xs, hS, hi, hl, hd⟩
    refine ⟨none, _, ?_, hdone D xs _ (by omega) hS (by rw [size_put']; exact hT _ _ _ _ _ (.loop (rec .exhausted)) hi (by omega) hl rfl) ((World.putObj_heap_other (by omega)).trans hd)⟩
    have := run_endLoop (P := Tryz.prog) hl (by rw [hrec]; simp)
    rw [hrec] at this ⊢
    exact this
end Go.Proofs.YtlpglijikmnopaaGreatDoor
