/- CodecReads, walked. -/
import Derived.Test.YtjhjcdfhfjeogaaP11
import Derived.Deep.RegionWith
namespace Go.Proofs.Ytjhjcdfhfjeogaa
open Go.RowKit Go.Maps
set_option linter.unusedVariables false

theorem ThingAt.bound_ {K : Nat → Prop} {w : World} {t : ThingP} {lv cv fv mv : Value} (h : ThingAt K w t lv cv fv mv) : ThingAt (fun k => K k ∧ k < w.heap.size) w t lv cv fv mv :=
  ⟨h.kb, h.nb, h.sb, h.l.bound (by omega), h.c.bound (by omega), (h.f.bound (by omega)).of (fun _ _ => rfl) fun x cs hx => by
    obtain ⟨dv, mv, e, h1, h2⟩ := hx
    exact ⟨dv, mv, e, h1.bound (by omega), h2.bound (by omega)⟩, h.m.bound (by omega)⟩
theorem ThingAt.mono_ {K K' : Nat → Prop} {w : World} {t : ThingP} {lv cv fv mv : Value} (h : ThingAt K w t lv cv fv mv) (hk : ∀ k, K k → K' k) : ThingAt K' w t lv cv fv mv :=
  ⟨h.kb, h.nb, h.sb, h.l.mono hk, h.c.mono hk, (h.f.mono hk).of (fun _ _ => rfl) fun x cs hx => by
    obtain ⟨dv, mv, e, h1, h2⟩ := hx
    exact ⟨dv, mv, e, h1.mono hk, h2.mono hk⟩, h.m.mono hk⟩
/-- Both readers, and the law's frame. -/
structure Two (w : World) (r q N : Nat) (S T : RS) (W : World) : Prop where
  ra : RAt W (some r) S
  da : DAt W q T
  bel : Below w.heap.size w W
  le : N ≤ W.heap.size
  ap : w.heap.size ≤ r ∧ r < N ∧ w.heap.size ≤ q ∧ q < N ∧ r ≠ q
/-- A thing that lies in new memory. -/
def NewT (N : Nat) (W : World) (t : ThingP) (lv cv fv mv : Value) : Prop := ThingAt (fun k => N ≤ k ∧ k < W.heap.size) W t lv cv fv mv
theorem NewT.step {N : Nat} {F : Nat → Prop} {W W' : World} {t : ThingP} {lv cv fv mv : Value} (h : NewT N W t lv cv fv mv) (hf : Fr F W W') (hF : ∀ k, F k → k < N) : NewT N W' t lv cv fv mv :=
  (ThingAt.of h fun k hk => hf.block k hk.2 fun hx => by have := hF k hx; have := hk.1; omega).mono_ fun k hk => ⟨hk.1, Nat.lt_of_lt_of_le hk.2 hf.size⟩
theorem Two.keep {w : World} {r q N : Nat} {S T : RS} {W W' : World} (h : Two w r q N S T W) (hf : Fr No W W') : Two w r q N S T W' :=
  ⟨h.ra.keep hf, h.da.keep hf, h.bel.trans (hf.below.mono h.bel.size), Nat.le_trans h.le hf.size, h.ap⟩
theorem Two.land {w : World} {r q N : Nat} {S S' T : RS} {W W' : World} (h : Two w r q N S T W) (hr : RAt W' (some r) S') (hf : Fr (RFt (some r)) W W') : Two w r q N S' T W' :=
  ⟨hr, h.da.of (hf.block q h.da.lt fun e => h.ap.2.2.2.2 (Option.some.inj e)), h.bel.trans (hf.below_of h.bel.size fun k hk => by rw [← Option.some.inj hk]; exact h.ap.1), Nat.le_trans h.le hf.size, h.ap⟩
theorem Two.docs {w : World} {r q N : Nat} {S T T' : RS} {W W' : World} (h : Two w r q N S T W) (hr : DAt W' q T') (hf : Fr (DFt q) W W') : Two w r q N S T' W' :=
  ⟨h.ra.of fun k hk => hf.block k (h.ra.lt k hk) fun e => h.ap.2.2.2.2 ((Option.some.inj hk).trans (by unfold DFt at e; exact e.symm)), hr, h.bel.trans (hf.below_of h.bel.size fun k hk => by unfold DFt at hk; rw [← hk]; exact h.ap.2.2.1), Nat.le_trans h.le hf.size, h.ap⟩

/-- take, with all that it leaves. -/
def TookL (w : World) (r q N : Nat) (T S' : RS) (t : ThingP) (W : World) (e : Ending) (W' : World) : Prop :=
  ∃ A1 n1 k1 A2 n2 k2 A3 n3 k3 A4 n4 k4, e = .returned (.agg #[.int .i64 t.kind, .int .i64 t.n, sv t.s, .slice A1 n1 k1, .slice A2 n2 k2, .slice A3 n3 k3, .slice A4 n4 k4]) ∧ Two w r q N S' T W' ∧ NewT N W' t (.slice A1 n1 k1) (.slice A2 n2 k2) (.slice A3 n3 k3) (.slice A4 n4 k4) ∧
    (∀ t lv cv fv mv, NewT N W t lv cv fv mv → NewT N W' t lv cv fv mv)
theorem took_land {w : World} {r q N : Nat} {S T : RS} {W : World} (h : Two w r q N S T W) (t : ThingP) (lv cv fv mv : Value) (ht : ThingAt (fun k => k < w.heap.size) W t lv cv fv mv) :
    Calls Try.prog 25 #[wpt (some r), .agg (tcells t lv cv fv mv).toArray] W (TookL w r q N T (S.thing t).2 (S.thing t).1 W) := by
  refine (take_any (some r) S (fun k => k < w.heap.size) t lv cv fv mv W h.ra ht).mono ?_
  rintro e W' ⟨lv', cv', fv', mv', rfl, h1, h2, h3⟩
  have hn : NewT N W' (S.thing t).1 lv' cv' fv' mv' := (ThingAt.bound_ h1).mono_ fun k hk => ⟨Nat.le_trans h.le hk.1, hk.2⟩
  obtain ⟨A1, n1, k1, rfl⟩ := h1.l.slice
  obtain ⟨A2, n2, k2, rfl⟩ := h1.c.slice
  obtain ⟨A3, n3, k3, rfl⟩ := h1.f.slice
  obtain ⟨A4, n4, k4, rfl⟩ := h1.m.slice
  exact ⟨_, _, _, _, _, _, _, _, _, _, _, _, rfl, h.land h2 h3, hn, fun t lv cv fv mv hx => hx.step h3 fun k hk => by rw [← Option.some.inj hk]; exact h.ap.2.1⟩
def TookD (w : World) (r q N : Nat) (S T' : RS) (t : ThingP) (W : World) (e : Ending) (W' : World) : Prop :=
  ∃ A1 n1 k1 A2 n2 k2 A3 n3 k3 A4 n4 k4, e = .returned (.agg #[.int .i64 t.kind, .int .i64 t.n, sv t.s, .slice A1 n1 k1, .slice A2 n2 k2, .slice A3 n3 k3, .slice A4 n4 k4]) ∧ Two w r q N S T' W' ∧ NewT N W' t (.slice A1 n1 k1) (.slice A2 n2 k2) (.slice A3 n3 k3) (.slice A4 n4 k4) ∧
    (∀ t lv cv fv mv, NewT N W t lv cv fv mv → NewT N W' t lv cv fv mv)
theorem took_docs {w : World} {r q N : Nat} {S T : RS} {W : World} (h : Two w r q N S T W) (t : ThingP) (lv cv fv mv : Value) (ht : ThingAt (fun k => k < w.heap.size) W t lv cv fv mv) :
    Calls Try.prog 31 #[dpt q, .agg (tcells t lv cv fv mv).toArray] W (TookD w r q N S (T.thing t).2 (T.thing t).1 W) := by
  refine (dtk_any q T (fun k => k < w.heap.size) t lv cv fv mv W h.da ht).mono ?_
  rintro e W' ⟨lv', cv', fv', mv', rfl, h1, h2, h3⟩
  have hn : NewT N W' (T.thing t).1 lv' cv' fv' mv' := (ThingAt.bound_ h1).mono_ fun k hk => ⟨Nat.le_trans h.le hk.1, hk.2⟩
  obtain ⟨A1, n1, k1, rfl⟩ := h1.l.slice
  obtain ⟨A2, n2, k2, rfl⟩ := h1.c.slice
  obtain ⟨A3, n3, k3, rfl⟩ := h1.f.slice
  obtain ⟨A4, n4, k4, rfl⟩ := h1.m.slice
  exact ⟨_, _, _, _, _, _, _, _, _, _, _, _, rfl, h.docs h2 h3, hn, fun t lv cv fv mv hx => hx.step h3 fun k hk => by unfold DFt at hk; rw [← hk]; exact h.ap.2.2.2.1⟩
/-- Same of the two. -/
theorem same_two {w : World} {r q N : Nat} {S T : RS} {W : World} (h : Two w r q N S T W) (t : ThingP) (lv cv fv mv lv' cv' fv' mv' : Value) (h1 : NewT N W t lv cv fv mv) (h2 : NewT N W t lv' cv' fv' mv') (hb : ∀ f ∈ t.facts, (bFact f).length ≤ 1152921504606846976) :
    Calls Try.prog 26 #[.agg (tcells t lv cv fv mv).toArray, .agg (tcells t lv' cv' fv' mv').toArray] W fun e W' => e = .returned (.bool true) ∧ Two w r q N S T W' := by
  refine (dsame_any t lv cv fv mv lv' cv' fv' mv' W (ThingAt.mono_ h1 fun k hk => hk.2) (ThingAt.mono_ h2 fun k hk => hk.2) hb).mono ?_
  rintro e W' ⟨rfl, b⟩
  exact ⟨rfl, h.keep (Fr.of_below b)⟩
end Go.Proofs.Ytjhjcdfhfjeogaa
