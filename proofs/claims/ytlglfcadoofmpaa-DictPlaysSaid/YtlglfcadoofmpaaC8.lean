/- A call of both: Find, Between and Sorted. -/
import Derived.Test.YtlglfcadoofmpaaC7
namespace Go.Proofs.Ytlglfcadoofmpaa
open Go.RowKit Go.Maps Go.Proofs
set_option linter.unusedVariables false

/-- Two told lists beside both dictionaries. -/
structure In2 (w0 : World) (B d r bx : Nat) (L : List Tx) (X : Nat → Prop) (lv : Value) (k n : Int) (a b : Tx) (v1 v2 : Value) (n1 n2 : Nat) (w : World) : Prop where
  inn : In w0 B d r bx L X lv k n a b w
  r1 : ∃ xs, w.ownsRow B 3 1 v1 n1 xs
  r2 : ∃ xs, w.ownsRow B 3 1 v2 n2 xs
  x1 : ∀ j, v1.ownBlock = some j → X j
  x2 : ∀ j, v2.ownBlock = some j → X j
  ne : ∀ j, v1.ownBlock = some j → v2.ownBlock ≠ some j
section
variable {w0 w w' : World} {B d r bx n1 n2 : Nat} {L : List Tx} {X : Nat → Prop} {lv v1 v2 : Value} {k n : Int} {a b : Tx}
theorem In2.keep (h : In2 w0 B d r bx L X lv k n a b v1 v2 n1 n2 w) (f : Fr No w w') : In2 w0 B d r bx L X lv k n a b v1 v2 n1 n2 w' := by
  obtain ⟨h0, ⟨xs, h1⟩, ⟨ys, h2⟩, h3, h4, h5⟩ := h
  exact ⟨h0.keep f, ⟨xs, own_of h1 fun j hj => f.block j (h1.lt j hj).2 id⟩, ⟨ys, own_of h2 fun j hj => f.block j (h2.lt j hj).2 id⟩, h3, h4, h5⟩
theorem In2.set1 {g c i : Nat} (h : In2 w0 B d r bx L X lv k n a b (.slice (some ⟨g, 0, none⟩) n1 c) v2 n1 n2 w) (u : Value) : In2 w0 B d r bx L X lv k n a b (.slice (some ⟨g, 0, none⟩) n1 c) v2 n1 n2 (w.setCell ⟨g, i, none⟩ u) := by
  obtain ⟨h0, ⟨xs, h1⟩, ⟨ys, h2⟩, h3, h4, h5⟩ := h
  obtain ⟨a1, a2, f⟩ := h0.set (i := i) rfl h1 (h3 g rfl) u
  exact ⟨a1, a2, ⟨ys, own_of h2 fun j hj => f.block j (h2.lt j hj).2 fun e => h5 g rfl (by rw [← show j = g from e]; exact hj)⟩, h3, h4, h5⟩
theorem In2.set2 {g c i : Nat} (h : In2 w0 B d r bx L X lv k n a b v1 (.slice (some ⟨g, 0, none⟩) n2 c) n1 n2 w) (u : Value) : In2 w0 B d r bx L X lv k n a b v1 (.slice (some ⟨g, 0, none⟩) n2 c) n1 n2 (w.setCell ⟨g, i, none⟩ u) := by
  obtain ⟨h0, ⟨xs, h1⟩, ⟨ys, h2⟩, h3, h4, h5⟩ := h
  obtain ⟨a1, a2, f⟩ := h0.set (i := i) rfl h2 (h4 g rfl) u
  exact ⟨a1, ⟨xs, own_of h1 fun j hj => f.block j (h1.lt j hj).2 fun e => h5 j hj (by rw [show j = g from e]; rfl)⟩, a2, h3, h4, h5⟩
/-- A cell of a row: there is one, and it may turn. -/
theorem row_at {v : Value} {m : Nat} (h : ∃ xs, w.ownsRow B 3 1 v m xs) {i : Nat} (hi : i < m) : ∃ g c u, v = .slice (some ⟨g, 0, none⟩) m c ∧ w.cell? ⟨g, i, none⟩ = some u ∧ w.frozen? ⟨g, i, none⟩ = false := by
  obtain ⟨xs, h⟩ := h
  obtain ⟨g, c, e, _, hc⟩ := own_cells h (by omega)
  have hl : xs.length = m := by have := h.1; omega
  exact ⟨g, c, xs[i]'(by omega), e, (hc i hi).1.trans (List.getElem?_eq_getElem (by omega)), (hc i hi).2⟩

set_option maxRecDepth 100000 in
set_option maxHeartbeats 8000000 in
theorem does_find (W : World) (hW : W.alloc (.cells (opC k n a b) 32) = w) (hb : W.heap.size = bx) (h : In w0 B d r bx L X lv k n a b w) (ha : a.length ≤ maxLen) (hbl : b.length ≤ maxLen) (t : Int) (ht : k.tmod 6 = t) (h1 : t = 3 ∨ t = -3) :
    Calls Try.prog 10 #[.pointer (some ⟨d, 0, none⟩), .pointer (some ⟨r, 0, none⟩), .agg (opC k n a b)] W (DoesQ w0 B d r L) := by
  obtain ⟨T, hT⟩ := ord_exists h.dt.facts.1
  have HC := Lib.hid h.cells
  have HW := Lib.hid hW
  have HB := Lib.hid hb
  have HKT := Lib.hid ht
  have HO := Lib.hid hT
  have HLT : Hid (T.length ≤ 4096) := Lib.hid (by rw [hT.len]; exact h.len)
  have HLB := Lib.hid (btw_len hT h.len a b)
  have HF1 := Lib.hid (m_find h.dt a ha)
  have HF2 := Lib.hid (h.find a)
  have HS1 := Lib.hid (st_between h.dt hT a b)
  have HIN := Lib.hid h
  have HA := Lib.hid ha
  have HBL := Lib.hid hbl
  clear h hb hW ht hT ha hbl
  unfold opC
  unfold opC at HW
  generalize onI (num L a) = fi at *
  generalize (num L a).isSome = fb at *
  go_enter Try.func10, Try.ntmps10
  go_upto_region 1 with fail
  rw [HW.out, HB.out]
  obtain ⟨c0, -, c2, c3⟩ := HC.out
  have ht := HKT.out
  rcases h1 with rfl | rfl
  all_goals (
    go_upto_region 4 with fail
    clear ht c0
    go_wp2_with (first
      | (go_at_call 16; refine HF1.out.mono ?_; rintro e w' ⟨rfl, rfl⟩)
      | (go_at_call 21; refine HF2.out.mono ?_; rintro e w' ⟨rfl, rfl⟩))
    refine HS1.out.mono ?_
    rintro e w1 ⟨v1, rfl, ho1, hd1, f1⟩
    have hI1 := HIN.out.step hd1 f1 fun _ hj => .inl hj
    have HI1 := Lib.hid hI1
    have HR1 := Lib.hid (own_base ho1 HIN.out.bel.2)
    have HS2 := Lib.hid (st_sorted hd1 HO.out)
    have HSZ := Lib.hid (ho1.lt)
    clear ho1 hd1 f1 hI1 HS1 HF1 HF2 c2 c3
    go_wp2_with fail
    refine HS2.out.mono ?_
    rintro e w2 ⟨v2, rfl, ho2, hd2, f2⟩
    have hI2 := HI1.out.step hd2 f2 fun _ hj => .inl hj
    have hr1 := row_keep HR1.out (fun j hj => .inr hj) f2
    have HT2 : Hid (In2 w0 B d r bx L (OwnX (OwnX X v1) v2) lv k n a b v1 v2 (btw L T a b).length T.length w2) := Lib.hid ⟨hI2, ⟨_, hr1⟩, ⟨_, own_base ho2 HI1.out.bel.2⟩, fun j hj => .inl (.inr hj), fun j hj => .inr hj, fun j hj hj2 => by
      have := (HSZ.out j hj).2
      have := (ho2.lt j hj2).1
      omega⟩
    have HR1' := Lib.hid hr1
    have HR2 := Lib.hid ho2
    obtain ⟨-, -, c2, c3⟩ := hI2.cells
    have HRB := Lib.hid (r_between hI2.ref hI2.len hI2.tx HO.out a b HA.out HBL.out)
    clear ho2 hd2 f2 hI2 hr1 HI1 HR1 HS2 HSZ
    go_wp2_with fail
    refine HRB.out.mono ?_
    rintro e w3 ⟨u1, rfl, hu1, f3⟩
    have HT3 := Lib.hid (HT2.out.keep f3)
    have hr1 := own_of HR1'.out (w' := w3) fun j hj => f3.block j (HR1'.out.lt j hj).2 id
    have HR2' := Lib.hid (own_of HR2.out (w' := w3) fun j hj => f3.block j (HR2.out.lt j hj).2 id)
    have HSA := Lib.hid (same_true v1 u1 _ w3 (LAt.own hr1 (by have := HLB.out; omega)) (LAt.own hu1 (by have := HLB.out; omega)))
    clear hu1 f3 hr1 HT2 HR1' HR2 HRB
    go_wp2_with fail
    refine HSA.out.mono ?_
    rintro e w4 ⟨rfl, f4⟩
    have HT4 := Lib.hid (HT3.out.keep f4)
    have HR2 := Lib.hid (own_of HR2'.out (w' := w4) fun j hj => f4.block j (HR2'.out.lt j hj).2 id)
    have HRS := Lib.hid (r_sorted HT4.out.inn.ref HT4.out.inn.len HT4.out.inn.tx HO.out)
    clear f4 HT3 HR2' HSA c2 c3
    go_wp2_with fail
    refine HRS.out.mono ?_
    rintro e w5 ⟨u2, rfl, hu2, f5⟩
    have HT5 := Lib.hid (HT4.out.keep f5)
    have hr2 := own_of HR2.out (w' := w5) fun j hj => f5.block j (HR2.out.lt j hj).2 id
    have HSB := Lib.hid (same_true v2 u2 _ w5 (LAt.own hr2 (by have := HLT.out; omega)) (LAt.own hu2 (by have := HLT.out; omega)))
    clear hu2 f5 hr2 HT4 HR2 HRS
    go_wp2_with fail
    refine HSB.out.mono ?_
    rintro e w6 ⟨rfl, f6⟩
    have HT6 := Lib.hid (HT5.out.keep f6)
    clear f6 HT5 HSB
    obtain ⟨n1, hn1⟩ : ∃ n1, (btw L T a b).length = n1 := ⟨_, rfl⟩
    obtain ⟨n2, hn2⟩ : ∃ n2, T.length = n2 := ⟨_, rfl⟩
    rw [hn1, hn2] at HT6
    have hb1 : n1 ≤ 4096 := by have := HLB.out; omega
    have hb2 : n2 ≤ 4096 := by have := HLT.out; omega
    obtain ⟨A1, q1, e1⟩ : ∃ A c, v1 = .slice A n1 c := by obtain ⟨xs, hx⟩ := HT6.out.r1; exact own_form hx
    obtain ⟨A2, q2, e2⟩ : ∃ A c, v2 = .slice A n2 c := by obtain ⟨xs, hx⟩ := HT6.out.r2; exact own_form hx
    subst e1 e2
    clear hn1 hn2 HLB HLT HO
    go_wp2
    go_loopw [15] (fun iv wr => ∃ i : Nat, iv = .int .i64 i ∧ i ≤ n1 ∧ Hid (In2 w0 B d r bx L (OwnX (OwnX X (.slice A1 n1 q1)) (.slice A2 n2 q2)) lv k n a b (.slice A1 n1 q1) (.slice A2 n2 q2) n1 n2 wr)) (fun iv _ => n1 - (intOf iv).toNat)
    case atStart => exact ⟨0, rfl, Nat.zero_le _, HT6⟩
    case round =>
      obtain ⟨i, rfl, hi, HI⟩ := hrel
      clear HT6
      by_cases hlt : i < n1
      · obtain ⟨g, c', u, e', hc, hz⟩ := row_at HI.out.r1 hlt
        injection e' with e1 _ e2
        subst e1 e2
        have HS := Lib.hid (HI.out.set1 (i := i) (.int .i64 (-1)))
        go_wp2
        go_roundw
        case rel => exact ⟨i + 1, by go_num, by omega, HS⟩
        case measure => simp [intOf]; omega
      · obtain rfl : i = n1 := by omega
        go_wp2
        go_loopw [16] (fun iv wr => ∃ i' : Nat, iv = .int .i64 i' ∧ i' ≤ n2 ∧ Hid (In2 w0 B d r bx L (OwnX (OwnX X (.slice A1 i q1)) (.slice A2 n2 q2)) lv k n a b (.slice A1 i q1) (.slice A2 n2 q2) i n2 wr)) (fun iv _ => n2 - (intOf iv).toNat)
        case atStart => exact ⟨0, rfl, Nat.zero_le _, HI⟩
        case round =>
          obtain ⟨i', rfl, hi', HI'⟩ := hrel
          clear HI
          by_cases hlt' : i' < n2
          · obtain ⟨g, c', u, e', hc, hz⟩ := row_at HI'.out.r2 hlt'
            injection e' with e1 _ e2
            subst e1 e2
            have HS := Lib.hid (HI'.out.set2 (i := i') (.int .i64 (-1)))
            go_wp2
            go_roundw
            case rel => exact ⟨i' + 1, by go_num, by omega, HS⟩
            case measure => simp [intOf]; omega
          · obtain rfl : i' = n2 := by omega
            go_wp2
            go_ret
            exact HI'.out.inn.both)
end
end Go.Proofs.Ytlglfcadoofmpaa
