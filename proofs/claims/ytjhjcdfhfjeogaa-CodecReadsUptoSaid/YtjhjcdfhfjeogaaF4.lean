/- CodecNil, walked. -/
import Derived.Test.YtjhjcdfhfjeogaaF3
import Derived.Test.YtjhjcdfhfjeogaaE1
namespace Go.Proofs.Ytjhjcdfhfjeogaa
open Go.RowKit Go.Maps
set_option linter.unusedVariables false

theorem WS.thing_stop {S : WS} (h : S.fault ≠ 0) (t : ThingP) : S.thing t = S := by
  unfold WS.thing WS.schema
  simp only [WS.byte_stop h, WS.int_stop h, WS.count_stop h, WS.text_stop h, WS.texts_stop h, WS.cell_stop h, WS.cells_stop h, WS.fact_stop h, WS.facts_stop h, ite_self]
/-- of a stopped reader nothing comes -/
structure Nought (t : ThingP) : Prop where
  n : t.n = 0
  s : t.s = []
  l : t.l = []
  m : t.meas = []
theorem take_stop {S : RS} (h : S.fault ≠ 0) (n : Nat) : S.take n = ([], S) := by unfold RS.take; rw [if_neg h]
theorem byte_stop {S : RS} (h : S.fault ≠ 0) : S.byte = (0, S) := by unfold RS.byte; rw [take_stop h]; rfl
theorem int_stop {S : RS} (h : S.fault ≠ 0) : S.int = (0, S) := by unfold RS.int; rw [take_stop h]; rfl
theorem text_stop {S : RS} (h : S.fault ≠ 0) : S.text = ([], S) := by unfold RS.text; rw [many_stop h]; exact take_stop h 0
theorem count_stop {S : RS} (h : S.fault ≠ 0) (n : Int) : S.count n = (0, S) := by
  unfold RS.count; rw [take_stop h]
  simp only [fail_stops h, if_neg h, ite_self]
theorem several_stop {α : Type} {S : RS} (h : S.fault ≠ 0) (f : RS → α × RS) (k : Nat) : S.several f k = ([], S) := by
  unfold RS.several; rw [many_stop h]
  show (if S.fault = 0 then ([] : List α) else [], S) = _
  rw [if_neg h]
theorem cell_stop {S : RS} (h : S.fault ≠ 0) : S.cell = (CellP.zero, S) := by
  have h2 := cell_stops S h
  have h1 : S.cell.1 = CellP.zero := by
    show (if (S.byte.2.cellV S.byte.1).2.fault = 0 then _ else CellP.zero) = _
    have : (S.byte.2.cellV S.byte.1).2 = S := h2
    rw [this, if_neg h]
  exact Prod.ext h1 h2
theorem fact_stop {S : RS} (h : S.fault ≠ 0) : S.fact = (FactP.zero, S) := by
  unfold RS.fact RS.texts
  rw [several_stop h]
  unfold RS.ints
  rw [several_stop h, if_neg h]
theorem schema_stop {S : RS} (h : S.fault ≠ 0) : S.schema = (([], []), S) := by
  unfold RS.schema RS.texts
  rw [several_stop h]
  simp only [several_stop h, if_neg h]
theorem thing_stop {S : RS} (h : S.fault ≠ 0) (t : ThingP) : Nought (S.thing t).1 ∧ (S.thing t).2 = S := by
  unfold RS.thing RS.texts RS.cells RS.facts
  simp only [byte_stop h, int_stop h, count_stop h, text_stop h, several_stop h, cell_stop h, fact_stop h, schema_stop h]
  repeat' split
  all_goals exact ⟨⟨rfl, rfl, rfl, rfl⟩, rfl⟩

/-- One thing of a row of things. -/
theorem thing_row {K : Nat → Prop} {w : World} {A : Option Addr} {c n : Nat} {ts : List ThingP} (hn : ts.length = n) (h : RowE K w 7 (thingE K w) (.slice A n c) ts) (j : Nat) (hj : j < ts.length) :
    ∃ g off lv cv fv mv, A = some ⟨g, off, none⟩ ∧ K g ∧ ∀ w' : World, (∀ k, K k → w'.heap[k]? = w.heap[k]?) → ThingAt K w' ts[j] lv cv fv mv ∧
      w'.cell? ⟨g, off + j * 7, none⟩ = some (.int .i64 ts[j].kind) ∧ w'.cell? ⟨g, off + j * 7 + 1, none⟩ = some (.int .i64 ts[j].n) ∧ w'.cell? ⟨g, off + j * 7 + 2, none⟩ = some (sv ts[j].s) ∧
      w'.cell? ⟨g, off + j * 7 + 3, none⟩ = some lv ∧ w'.cell? ⟨g, off + j * 7 + 4, none⟩ = some cv ∧ w'.cell? ⟨g, off + j * 7 + 5, none⟩ = some fv ∧ w'.cell? ⟨g, off + j * 7 + 6, none⟩ = some mv := by
  obtain ⟨A', c', e, hm, hel⟩ := h
  injection e with e1 e2 e3
  subst e1
  obtain ⟨g, off, rfl, hg, hcell⟩ := hel (by omega)
  obtain ⟨cs, hl, hc, lv, cv, fv, mv, rfl, ht⟩ := hcell j hj
  refine ⟨g, off, lv, cv, fv, mv, rfl, hg, fun w' hw => ⟨ht.of hw, ?_⟩⟩
  have hcw : ∀ i, i < 7 → w'.cell? ⟨g, off + j * 7 + i, none⟩ = (tcells ts[j] lv cv fv mv)[i]? := fun i hi => (cell_of_heap (hw g hg)).trans (hc i hi)
  exact ⟨by simpa [tcells] using hcw 0 (by omega), by simpa [tcells] using hcw 1 (by omega), by simpa [tcells] using hcw 2 (by omega), by simpa [tcells] using hcw 3 (by omega), by simpa [tcells] using hcw 4 (by omega), by simpa [tcells] using hcw 5 (by omega), by simpa [tcells] using hcw 6 (by omega)⟩

theorem Off.nil (w : World) (K : Nat → Prop) (h : ∀ k, K k → k < w.heap.size) : Off none (.slice none 0 0) w K := fun k hk => ⟨h k hk, fun e => by rcases e with e | e <;> cases e⟩
theorem nil_below {w w' : World} {v' : Value} (h : WL none (.slice none 0 0) w v' w') : Below w.heap.size w w' := h.fr.below_of (Nat.le_refl _) fun k hk => by rcases hk with e | e <;> cases e
theorem rnil_below {w w' : World} (h : Fr (RFt none) w w') : Below w.heap.size w w' := h.below_of (Nat.le_refl _) fun k hk => by cases hk

set_option maxRecDepth 100000 in
set_option maxHeartbeats 4000000 in
theorem codecnil_any (A : Option Addr) (n c : Nat) (ts : List ThingP) (w : World) (hn : ts.length = n) (hm : n ≤ maxLen) (h : RowE (fun k => k < w.heap.size) w 7 (thingE (fun k => k < w.heap.size) w) (.slice A n c) ts) :
    Calls Try.prog 10 #[.slice A n c] w fun e w' => e = .returned (.bool true) ∧ Below w.heap.size w w' := by
  unfold maxLen at hm
  have HN := Lib.hid hn
  have HT := Lib.hid h
  clear hn h
  go_enter Try.func10, Try.ntmps10
  go_wp2
  go_loopw [5] (fun i wr => ∃ j : Nat, j ≤ n ∧ i = .int .i64 j ∧ Below w.heap.size w wr) (fun i _ => n - (intOf i).toNat)
  case atStart => exact ⟨0, by omega, rfl, Below.refl _ _⟩
  case round =>
    obtain ⟨j, hj, rfl, hb⟩ := hrel
    have HB := Lib.hid hb
    clear hb
    by_cases hlt : j < n
    · have hjl : j < ts.length := by rw [HN.out]; exact hlt
      obtain ⟨g, off, lv, cv, fv, mv, rfl, hg, hall⟩ := thing_row HN.out HT.out j hjl
      obtain ⟨ht, c0, c1, c2, c3, c4, c5, c6⟩ := hall wr fun k hk => HB.out.block k hk
      have HALL := Lib.hid hall
      have HTA := Lib.hid ht
      clear hall ht
      go_wp2_with fail
      refine (lay_any none (.slice none 0 0) WS.none (fun k => k < w.heap.size) ts[j] lv cv fv mv wr (WAt.nilw wr) HTA.out (Off.nil wr _ fun k hk => Nat.lt_of_lt_of_le hk HB.out.size)).mono ?_
      rintro e w3 ⟨rfl, v3, h3, l3⟩
      have B3 := Lib.hid (HB.out.trans ((nil_below l3).mono HB.out.size))
      obtain ⟨ht3, d0, d1, d2, d3, d4, d5, d6⟩ := HALL.out w3 fun k hk => B3.out.block k hk
      have HT3 := Lib.hid ht3
      clear h3 l3 ht3 c0 c1 c2 c3 c4 c5 c6
      go_wp2_with fail
      refine (take_any none RS.none (fun k => k < w.heap.size) ts[j] lv cv fv mv w3 (RAt.nilr w3) HT3.out).mono ?_
      obtain ⟨hno, hs2⟩ := thing_stop (S := RS.none) (by decide) ts[j]
      obtain ⟨t', ht'⟩ : ∃ t', (RS.none.thing ts[j]).1 = t' := ⟨_, rfl⟩
      rw [ht'] at hno ⊢
      rw [hs2]
      rintro e w4 ⟨lv', cv', fv', mv', rfl, htt, h4, f4⟩
      have B4 := Lib.hid (B3.out.trans ((rnil_below f4).mono B3.out.size))
      obtain ⟨A1, n1, hl1, _⟩ := htt.l
      obtain ⟨A2, n2, k2, rfl⟩ := htt.c.slice
      obtain ⟨A3, n3, k3, rfl⟩ := htt.f.slice
      obtain ⟨A4, n4, hl4, _⟩ := htt.m
      rw [hno.l] at hl1
      rw [hno.m] at hl4
      have hn0 := hno.n
      have hs0 := hno.s
      unfold tcells
      subst hl1 hl4
      rw [hn0, hs0]
      clear htt h4 f4 hno hs2 ht' hn0 hs0 d0 d1 d2 d3 d4 d5 d6
      generalize t'.kind = tk at *
      go_wp2
      go_roundw
      case rel => exact ⟨j + 1, by omega, by go_num, B4.out.alloc B4.out.size _⟩
      case measure => simp [intOf]; omega
    · have hge : ¬ j < n := hlt
      go_wp2_with fail
      refine (rfail_any none RS.none 22 wr (RAt.nilr wr)).mono ?_
      rintro e w3 ⟨rfl, h3, f3⟩
      have B3 := Lib.hid (HB.out.trans ((rnil_below f3).mono HB.out.size))
      clear h3 f3
      go_wp2_with fail
      refine (wdone_any none (.slice none 0 0) WS.none w3 (WAt.nilw w3)).mono ?_
      rintro e w4 ⟨rfl, f4⟩
      have B4 := Lib.hid (B3.out.trans (f4.below.mono B3.out.size))
      have R5 := Lib.hid (RAt.new w4 [] (by simp))
      have B5 : Hid (Below w.heap.size w (w4.alloc (.cells #[sv [], .int .i64 0] 78))) := Lib.hid (B4.out.alloc B4.out.size _)
      obtain ⟨w5, hw5⟩ : ∃ w5, w4.alloc (.cells #[sv [], .int .i64 0] 78) = w5 := ⟨_, rfl⟩
      obtain ⟨z, hz⟩ : ∃ z, w4.heap.size = z := ⟨_, rfl⟩
      have C5 : Hid (w.heap.size ≤ z) := Lib.hid (hz ▸ B4.out.size)
      rw [hw5] at R5 B5
      rw [hz] at R5
      have HW5 := Lib.hid hw5
      have HZ := Lib.hid hz
      clear f4 hw5 hz B4
      go_wp2_with fail
      rw [show w4.alloc (.cells #[.string ⟨#[]⟩, .int .i64 0] 78) = w5 from HW5.out, HZ.out]
      refine (awake_any w5).mono ?_
      rintro e w6 ⟨rfl, hb6⟩
      have R6 := Lib.hid (R5.out.below hb6)
      have B6 := Lib.hid (B5.out.trans (hb6.mono B5.out.size))
      clear hb6
      go_wp2_with fail
      refine (rdone_any none RS.none w6 (RAt.nilr w6)).mono ?_
      rw [show RS.none.done = 1 from rfl]
      rintro e w7 ⟨rfl, rfl⟩
      go_wp2_with fail
      refine (rleft_any none RS.none w6 (RAt.nilr w6)).mono ?_
      rw [show RS.none.rest.length = 0 from rfl]
      rintro e w7 ⟨rfl, rfl⟩
      go_wp2_with fail
      refine (rdone_any (some z) ⟨[], 0⟩ w6 R6.out).mono ?_
      rw [show (RS.mk [] 0).done = 0 from rfl]
      rintro e w7 ⟨rfl, rfl⟩
      go_wp2_with fail
      refine (rbyte_any (some z) ⟨[], 0⟩ w6 R6.out).mono ?_
      rw [show (RS.mk [] 0).byte = (0, ⟨[], 20⟩) from rfl]
      rintro e w8 ⟨rfl, h8, f8⟩
      have R8 := Lib.hid h8
      have B8 : Hid (Below w.heap.size w w8) := Lib.hid (B6.out.trans (f8.below_of B6.out.size fun k hk => by rw [← Option.some.inj hk]; exact C5.out))
      clear h8 f8
      go_wp2_with fail
      refine (rdone_any (some z) ⟨[], 20⟩ w8 R8.out).mono ?_
      rw [show (RS.mk [] 20).done = 20 from rfl]
      rintro e w9 ⟨rfl, rfl⟩
      go_wp2
      go_ret
      exact ⟨rfl, B8.out⟩
end Go.Proofs.Ytjhjcdfhfjeogaa
