/- Both dictionaries, in a call of both: what is kept. -/
import Derived.Test.YtlglfcadoofmpaaC5
namespace Go.Proofs.Ytlglfcadoofmpaa
open Go.RowKit Go.Maps Go.Proofs
set_option linter.unusedVariables false

/-- The blocks that the landed dictionary must leave: what was there, and the document's. -/
def PX (B r : Nat) (lv : Value) : Nat → Prop := fun k => k < B ∨ k = r ∨ lv.ownBlock = some k
def opC (k n : Int) (a b : Tx) : Array Value := #[.int .i64 k, .int .i64 n, .string ⟨a.toArray⟩, .string ⟨b.toArray⟩]

/-- Both, beside a call's box. -/
structure In (w0 : World) (B d r bx : Nat) (L : List Tx) (X : Nat → Prop) (lv : Value) (k n : Int) (a b : Tx) (w : World) : Prop where
  dt : Dt w X d L
  rB : B ≤ r
  bel : Below B w0 w ∧ B ≤ w.heap.size
  ref : Rt B r lv L w
  px : ∀ j, PX B r lv j → X j
  box : Blk w bx 32 (opC k n a b)
  bxX : X bx
section
variable {w0 w w' : World} {B d r bx : Nat} {L L' : List Tx} {X Y : Nat → Prop} {lv : Value} {k n : Int} {a b : Tx}
theorem rt_keepX (h : Rt B r lv L w) (hX : ∀ j, PX B r lv j → X j) (f : Fr (NX X) w w') : Rt B r lv L w' :=
  ⟨h.blk.of (f.block r h.blk.lt fun hn => hn (hX r (.inr (.inl rfl)))), row_keep h.row (fun j hj => hX j (.inr (.inr hj))) f⟩
theorem In.step (h : In w0 B d r bx L X lv k n a b w) (h' : Dt w' Y d L) (f : Fr (NX X) w w') (hXY : ∀ j, X j → Y j) : In w0 B d r bx L Y lv k n a b w' :=
  ⟨h', h.rB, belt2 h.bel (fun j hj => h.px j (.inl hj)) f, rt_keepX h.ref h.px f, fun j hj => hXY j (h.px j hj), h.box.of (f.block bx h.box.lt fun hn => hn h.bxX), hXY _ h.bxX⟩
theorem In.keep (h : In w0 B d r bx L X lv k n a b w) (f : Fr No w w') : In w0 B d r bx L X lv k n a b w' := h.step (h.dt.keep f) f.any fun _ hj => hj
theorem In.cells (h : In w0 B d r bx L X lv k n a b w) : w.cell? ⟨bx, 0, none⟩ = some (.int .i64 k) ∧ w.cell? ⟨bx, 1, none⟩ = some (.int .i64 n) ∧ w.cell? ⟨bx, 2, none⟩ = some (.string ⟨a.toArray⟩) ∧ w.cell? ⟨bx, 3, none⟩ = some (.string ⟨b.toArray⟩) :=
  ⟨h.box.cell 0, h.box.cell 1, h.box.cell 2, h.box.cell 3⟩
/-- A told list's own cell turns. -/
theorem In.set {v : Value} {g c m i : Nat} {xs : List Value} (h : In w0 B d r bx L X lv k n a b w) (hv : v = .slice (some ⟨g, 0, none⟩) m c) (ho : w.ownsRow B 3 1 v m xs) (hX : X g) (u : Value) :
    In w0 B d r bx L X lv k n a b (w.setCell ⟨g, i, none⟩ u) ∧ (∃ xs', (w.setCell ⟨g, i, none⟩ u).ownsRow B 3 1 v m xs') ∧ Fr (One g) w (w.setCell ⟨g, i, none⟩ u) := by
  subst hv
  have hg : (Value.slice (some ⟨g, 0, none⟩) m c).ownBlock = some g := rfl
  have f : Fr (One g) w (w.setCell ⟨g, i, none⟩ u) := Fr.set0 g w i u
  have hgB := (ho.lt g rfl).1
  refine ⟨⟨h.dt.fr (f.mono fun j _ hj => by rw [show j = g from hj]; exact hX), h.rB, belt2 (X := Bel B) h.bel (fun _ hk => hk) (f.mono fun j _ hj hb => by unfold Bel at hb; rw [show j = g from hj] at hb; omega), ⟨h.ref.blk.of (f.block r h.ref.blk.lt fun e => own_blk_ne ho hg h.ref.blk (by decide) (show r = g from e).symm), own_of h.ref.row fun j hj => f.block j (h.ref.row.lt j hj).2 fun e => own_own_ne ho hg h.ref.row hj (by decide) (show j = g from e).symm⟩, h.px, h.box.of (f.block bx h.box.lt fun e => own_blk_ne ho hg h.box (by decide) (show bx = g from e).symm), h.bxX⟩, ⟨_, (ho.stored i u).1⟩, f⟩
end

/-- What a call of both leaves. -/
def Both (w0 : World) (B d r : Nat) (L : List Tx) (w : World) : Prop := ∃ X lv, Dt w X d L ∧ B ≤ r ∧ (Below B w0 w ∧ B ≤ w.heap.size) ∧ Rt B r lv L w ∧ ∀ j, PX B r lv j → X j
def DoesQ (w0 : World) (B d r : Nat) (L : List Tx) (e : Ending) (w' : World) : Prop := e = .returned (.bool true) ∧ ∃ L', L'.length ≤ L.length + 1 ∧ Both w0 B d r L' w'
theorem In.both {w0 w : World} {B d r bx : Nat} {L : List Tx} {X : Nat → Prop} {lv : Value} {k n : Int} {a b : Tx} (h : In w0 B d r bx L X lv k n a b w) : DoesQ w0 B d r L (.returned (.bool true)) w :=
  ⟨rfl, L, Nat.le_succ _, X, lv, h.dt, h.rB, h.bel, h.ref, h.px⟩
/-- The call's box is laid. -/
theorem Both.box {w0 w : World} {B d r : Nat} {L : List Tx} (h : Both w0 B d r L w) (k n : Int) (a b : Tx) : ∃ X lv, In w0 B d r w.heap.size L X lv k n a b (w.alloc (.cells (opC k n a b) 32)) := by
  obtain ⟨X, lv, h1, hr, h2, h3, h4⟩ := h
  have f : Fr No w (w.alloc (.cells (opC k n a b) 32)) := (Fr.refl No w).alloc _
  refine ⟨fun j => X j ∨ j = w.heap.size, lv, ⟨h1.more f fun j hj => ?_, hr, belt3 h2 f, h3.keep f, fun j hj => .inl (h4 j hj), Blk.new w 32 _, .inr rfl⟩⟩
  rcases hj with hj | hj
  · exact .inl hj
  · exact .inr ⟨by omega, by rw [hj]; simp⟩

section
variable {w0 w : World} {B d r bx : Nat} {L : List Tx} {X : Nat → Prop} {lv : Value} {k n : Int} {a b : Tx}
theorem In.len (h : In w0 B d r bx L X lv k n a b w) : L.length ≤ 4096 := h.dt.facts.2.1
theorem In.tx (h : In w0 B d r bx L X lv k n a b w) : ∀ t ∈ L, t.length ≤ 64 := h.dt.facts.2.2
theorem In.find (h : In w0 B d r bx L X lv k n a b w) (t : Tx) : Calls Try.prog 21 #[.pointer (some ⟨r, 0, none⟩), .string ⟨t.toArray⟩] w (TextP (.int .i64 (onI (num L t))) (num L t).isSome w) := r_find h.ref (by have := h.len; omega) t

/-! ### Put -/
theorem r_put (h : Rt B r lv L w) (hB : B ≤ w.heap.size) (hL : L.length < 4096) (t : Tx) (hm : t.length ≤ maxLen) : Calls Try.prog 25 #[.pointer (some ⟨r, 0, none⟩), .string ⟨t.toArray⟩] w (RPutQ B r L t lv w) := by
  by_cases hl : 64 < t.length
  · refine (r_put_long t hl hm).mono ?_
    rintro e w' ⟨he, rfl⟩
    obtain ⟨p1, p2, p3⟩ := put_long_plain (L := L) hl
    unfold RPutQ
    rw [p1, p2, p3]
    exact ⟨he, lv, h, Fr.refl _ _, fun _ hk => .inl hk⟩
  · have hl' : t.length ≤ 64 := by omega
    cases hn : num L t with
    | some n =>
      refine (r_put_old h (by omega) t hl' hn).mono ?_
      rintro e w' ⟨he, rfl⟩
      unfold RPutQ putN putE putL
      rw [if_neg hl, if_neg hl, if_neg hl, hn]
      exact ⟨he, lv, h, Fr.refl _ _, fun _ hk => .inl hk⟩
    | none =>
      refine (r_put_new h hB t hl' hn hL).mono ?_
      rintro e w' ⟨he, hr⟩
      have h2 : ¬ L.length = 4096 := by omega
      unfold RPutQ putN putE putL
      rw [if_neg hl, if_neg hl, if_neg hl, hn]
      simp only [if_neg h2]
      exact ⟨he, hr⟩
theorem putL_len (L : List Tx) (t : Tx) : (putL L t).length ≤ L.length + 1 := by
  unfold putL
  split
  · omega
  · split
    · omega
    · split
      · omega
      · simp

set_option maxRecDepth 100000 in
set_option maxHeartbeats 4000000 in
theorem does_put (W : World) (hW : W.alloc (.cells (opC k n a b) 32) = w) (hb : W.heap.size = bx) (h : In w0 B d r bx L X lv k n a b w) (ha : a.length ≤ maxLen) (t : Int) (ht : k.tmod 6 = t) (h1 : (t == 3) = false) (h2 : (t == -3) = false) (h3 : (t == 4) = false) (h4 : (t == -4) = false) (h5 : (t == 5) = false) (h6 : (t == -5) = false)
    (hL : L.length < 4096) : Calls Try.prog 10 #[.pointer (some ⟨d, 0, none⟩), .pointer (some ⟨r, 0, none⟩), .agg (opC k n a b)] W (DoesQ w0 B d r L) := by
  have HC := Lib.hid h.cells
  have HIN := Lib.hid h
  have HP := Lib.hid (m_put h.dt a ha)
  have HW := Lib.hid hW
  have HB := Lib.hid hb
  have HT := Lib.hid ht
  have HA := Lib.hid ha
  have HLL := Lib.hid hL
  clear h hb hW ht ha hL
  unfold opC
  unfold opC at HW
  go_enter Try.func10, Try.ntmps10
  go_upto_region 1 with fail
  rw [HW.out, HB.out]
  obtain ⟨c0, -, c2, -⟩ := HC.out
  have ht := HT.out
  go_upto_region 33 with fail
  clear ht h1 h2 h3 h4 h5 h6 c0
  go_wp2_with fail
  refine HP.out.mono ?_
  rintro e w3 ⟨rfl, hd3, f3⟩
  have hr3 := rt_keepX HIN.out.ref HIN.out.px f3
  have hbel3 := belt2 HIN.out.bel (fun j hj => HIN.out.px j (.inl hj)) f3
  have hbx3 : Blk w3 bx 32 (opC k n a b) := HIN.out.box.of (f3.block bx HIN.out.box.lt fun hn => hn HIN.out.bxX)
  have c3 : w3.cell? ⟨bx, 2, none⟩ = some (.string ⟨a.toArray⟩) := hbx3.cell 2
  have HQ := Lib.hid (r_put hr3 hbel3.2 HLL.out a HA.out)
  have HD3 := Lib.hid hd3
  have HB3 := Lib.hid hbel3
  have HR3 := Lib.hid hr3
  clear hd3 f3 hr3 hbel3 hbx3 c2 HP
  generalize hpn : putN L a = pn at *
  generalize hpe : putE L a = pe at *
  have HQ' : Hid (Calls Try.prog 25 #[.pointer (some ⟨r, 0, none⟩), .string ⟨a.toArray⟩] w3 fun e w' => e = .returned (.tuple #[.int .i64 pn, .int .i64 pe]) ∧ ∃ lv', Rt B r lv' (putL L a) w' ∧ Fr (fun k => k = r ∨ lv.ownBlock = some k) w3 w' ∧ ∀ k, lv'.ownBlock = some k → lv.ownBlock = some k ∨ w3.heap.size ≤ k) := Lib.hid (by
    have := HQ.out
    unfold RPutQ at this
    rw [hpn, hpe] at this; exact this)
  clear hpn hpe HQ
  go_wp2_with fail
  refine HQ'.out.mono ?_
  rintro e w4 ⟨rfl, lv', hr4, f4, hv4⟩
  have hfin : DoesQ w0 B d r L (.returned (.bool true)) w4 := by
    refine ⟨rfl, putL L a, putL_len L a, fun j => X j ∨ lv'.ownBlock = some j, lv', HD3.out.turn (f4.mono fun j _ hj => ?_) (fun j hj => ?_), HIN.out.rB, belt2 (X := Bel B) HB3.out (fun _ hk => hk) (f4.mono fun j _ hj hb => ?_), hr4, fun j hj => ?_⟩
    · rcases hj with hj | hj
      · exact HIN.out.px j (.inr (.inl hj))
      · exact HIN.out.px j (.inr (.inr hj))
    · rcases hj with hj | hj
      · exact .inl hj
      · rcases hv4 j hj with q | q
        · exact .inl (HIN.out.px j (.inr (.inr q)))
        · exact .inr ⟨q, (hr4.row.lt j hj).2⟩
    · unfold Bel at hb
      rcases hj with hj | hj
      · have := HIN.out.rB; omega
      · have := (HR3.out.row.lt j hj).1; omega
    · rcases hj with hj | hj | hj
      · exact .inl (HIN.out.px j (.inl hj))
      · exact .inl (HIN.out.px j (.inr (.inl hj)))
      · exact .inr hj
  have HF := Lib.hid hfin
  clear hfin hr4 f4 hv4
  go_wp2
  go_ret
  exact HF.out
end
end Go.Proofs.Ytlglfcadoofmpaa
