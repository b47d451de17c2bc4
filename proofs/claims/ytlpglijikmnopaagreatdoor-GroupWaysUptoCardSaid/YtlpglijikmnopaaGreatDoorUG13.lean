/- Blocks that hold no cells may turn; the iterator's maker; whom a query means. -/
import Derived.Test.YtlpglijikmnopaaGreatDoorUG12
namespace Go.Proofs.YtlpglijikmnopaaGreatDoor
open Go.RowKit Go.Maps Go.Sort Go.Proofs
set_option linter.unusedVariables false

def IsC (w : World) (k : Nat) : Prop := ∃ c t fz, w.heap[k]? = some (.cells c t fz)
theorem isC_of_cell {w : World} {g o : Nat} {v : Value} (h : w.cell? ⟨g, o, none⟩ = some v) : IsC w g := by
  unfold World.cell? at h
  cases hg : w.heap[g]? with
  | none => simp [hg] at h
  | some ob =>
    cases ob with
    | cells c t fz => exact ⟨c, t, fz, hg⟩
    | _ => simp [hg] at h
/-- What holds cells stays. -/
def Frc (w w' : World) : Prop := ∀ k, IsC w k → w'.heap[k]? = w.heap[k]?
theorem frc_put {W : World} {r : Nat} {o o' : Obj} (h : W.heap[r]? = some o) (ho : o.isCells = false) : Frc W (W.putObj r o') := fun k hk => World.putObj_heap_other fun e => by
  obtain ⟨c, t, fz, h1⟩ := hk
  rw [e, h] at h1
  injection h1 with h1
  rw [h1] at ho
  cases ho
structure ElemC {α : Type} (E : EG α) : Prop where
  isC : ∀ K w x cs, E K w x cs → E (fun k => K k ∧ IsC w k) w x cs
theorem RowE.cells {α : Type} {E : EG α} (hE : ElemC E) {K : Nat → Prop} {w : World} {size : Nat} (hs : 0 < size) {v : Value} {l : List α} (h : RowE K w size (E K w) v l) : RowE (fun k => K k ∧ IsC w k) w size (E (fun k => K k ∧ IsC w k) w) v l := by
  obtain ⟨A, c, e, h1, h2, h3⟩ := h
  refine ⟨A, c, e, h1, h2, fun hl => ?_⟩
  obtain ⟨g, off, ea, hg, hgl, hel⟩ := h3 hl
  obtain ⟨cs0, hc0, hat0, _⟩ := hel 0 hl
  have h00 := hat0 0 hs
  rw [List.getElem?_eq_getElem (by omega)] at h00
  exact ⟨g, off, ea, ⟨hg, isC_of_cell h00⟩, hgl, fun j hj => by
    obtain ⟨cs, a1, a2, a3⟩ := hel j hj
    exact ⟨cs, a1, a2, hE.isC _ _ _ _ a3⟩⟩
theorem RowE.turn {α : Type} {E : EG α} (hE : Elem E) (hC : ElemC E) {K : Nat → Prop} {w w' : World} {size : Nat} (hs : 0 < size) {v : Value} {l : List α} (h : RowE K w size (E K w) v l) (f : Frc w w') : RowE K w' size (E K w') v l :=
  (RowE.cells hC hs h).mono (fun k hk _ => ⟨hk.1, f k hk.2⟩) fun x cs hx => hE.mono _ _ _ _ _ _ hx fun k hk _ => ⟨hk.1, f k hk.2⟩
theorem strG_c : ElemC strG := ⟨fun _ _ _ _ h => h⟩
theorem intG_c : ElemC intG := ⟨fun _ _ _ _ h => h⟩
theorem natG_c : ElemC natG := ⟨fun _ _ _ _ h => h⟩
theorem fcG_c : ElemC fcG := ⟨fun K w x cs ⟨dv, mv, e, h1, h2⟩ => ⟨dv, mv, e, RowE.cells strG_c (by decide) h1, RowE.cells intG_c (by decide) h2⟩⟩
theorem PR.cells {K : Nat → Prop} {w : World} {v : Value} {l : List Pt} (h : PR K w v l) : PR (fun k => K k ∧ IsC w k) w v l := by
  rcases h with h | ⟨a, c, h1, h2, h3, h4⟩
  · exact .inl h
  · refine .inr ⟨a, c, h1, h2, h3, fun hl => ?_⟩
    obtain ⟨g, off, e, hg, hgl, h5⟩ := h4 hl
    exact ⟨g, off, e, ⟨hg, isC_of_cell (h5 0 hl).1⟩, hgl, h5⟩
theorem PR.turn {K : Nat → Prop} {w w' : World} {v : Value} {l : List Pt} (h : PR K w v l) (f : Frc w w') : PR K w' v l := h.cells.mono' fun k hk _ => ⟨hk.1, f k hk.2⟩
theorem rwG_c : ElemC rwG := ⟨fun K w x cs ⟨dv, mv, e, h1, h2⟩ => ⟨dv, mv, e, RowE.cells strG_c (by decide) h1, h2.cells⟩⟩
theorem KRz.cells {K : Nat → Prop} {w : World} {v : Value} {l : List Tx} (h : KRz K w v l) : KRz (fun k => K k ∧ IsC w k) w v l := ⟨RowE.cells strG_c (by decide) h.1, h.2⟩
theorem PRz.cells {K : Nat → Prop} {w : World} {v : Value} {l : List Pt} (h : PRz K w v l) : PRz (fun k => K k ∧ IsC w k) w v l := ⟨h.1.cells, h.2⟩
theorem KRz.turn {K : Nat → Prop} {w w' : World} {v : Value} {l : List Tx} (h : KRz K w v l) (f : Frc w w') : KRz K w' v l := h.cells.mono (fun k hk _ => ⟨hk.1, f k hk.2⟩) fun _ _ h => h
theorem PRz.turn {K : Nat → Prop} {w w' : World} {v : Value} {l : List Pt} (h : PRz K w v l) (f : Frc w w') : PRz K w' v l := h.cells.mono' fun k hk _ => ⟨hk.1, f k hk.2⟩
theorem rwU_c : ElemC rwU := ⟨fun K w x cs ⟨dv, mv, e, h1, h2⟩ => ⟨dv, mv, e, h1.cells, h2.cells⟩⟩
theorem Blk.isC {w : World} {g : Nat} {t : TypeId} {cs : Array Value} (h : Blk w g t cs) : IsC w g := ⟨_, _, _, h⟩
theorem GrX.turn {α : Type} {E : EG α} (hE : Elem E) (hC : ElemC E) {X : Nat → Prop} {b e size : Nat} {w w' : World} {v : Value} {l : List α} (h : GrX X b e size E w v l) (f : Frc w w') (hsz : w.heap.size ≤ w'.heap.size) : GrX X b e size E w' v l := by
  obtain ⟨K, xs, ho, hel, hK⟩ := h
  refine ⟨fun k => K k ∧ IsC w k, xs, own_of ho fun k hk => ?_, fun j hj => ?_, fun k hk => ?_⟩
  · obtain ⟨cur, hc⟩ := own_row ho hk
    exact f k ⟨_, _, _, hc⟩
  · obtain ⟨cs, h1, h2, h3⟩ := hel j hj
    exact ⟨cs, h1, h2, hE.mono _ _ _ _ _ _ (hC.isC _ _ _ _ h3) fun k hk _ => ⟨hk, f k hk.2⟩⟩
  · obtain ⟨h1, h2, h3⟩ := hK k hk.1
    exact ⟨h1, by omega, h3⟩
theorem size_put (W : World) (r : Nat) (o : Obj) : (W.putObj r o).heap.size = W.heap.size := Array.size_setIfInBounds
theorem Gs.turn {b g m n0 : Nat} {z : Ac} {rv : Value} {l : List Rw} {w : World} (h : Gs b g m n0 z rv l w) {r : Nat} {o o' : Obj} (hr : w.heap[r]? = some o) (ho : o.isCells = false) (hm : m ≠ r) : Gs b g m n0 z rv l (w.putObj r o') := by
  have f := frc_put (o' := o') hr ho
  obtain ⟨zv, h1, h2⟩ := h.blk
  refine ⟨⟨zv, h1.of (f g h1.isC), h2.turn f⟩, h.rows.turn rwU_elem rwU_c f (by rw [size_put]; exact Nat.le_refl _), h.map.of (World.putObj_heap_other hm), h.own, ?_⟩
  have := h.ap
  rw [size_put]
  exact this

/-! ### whom a query means -/
/-- meant, by a plain test, wherever the old blocks stay. -/
def MeantC (wv : Value) (M : Fc → Bool) (b : Nat) (w0 : World) : Prop := ∀ (K : Nat → Prop) (w' : World) (dv mv : Value) (f : Fc), Below b w0 w' → KR K w' dv f.dims → IR K w' mv f.meas → Calls Tryz.prog 54 #[wv, .agg #[dv, mv]] w' (TellsB (M f) w')
theorem meant_nil (b : Nat) (w0 : World) : MeantC (.pointer none) (fun _ => true) b w0 := by
  intro K w dv mv f _ hd hm
  obtain ⟨w1, hw1⟩ : ∃ w1, w.alloc (.cells #[dv, mv] 63) = w1 := ⟨_, rfl⟩
  have HF : Hid (Fr No w w1) := Lib.hid (by rw [← hw1]; exact (Fr.refl No w).alloc _)
  have HW1 := Lib.hid hw1
  clear hw1 hd hm
  go_enter Tryz.func54, Tryz.ntmps54
  go_upto_region 1 with fail
  rw [HW1.out]
  go_wp2_with fail
  go_ret
  exact ⟨rfl, HF.out⟩

/-! ### the iterator's maker -/
def keyedL (M : Fc → Bool) (d : List Nat) (fs : List Fc) : List (Ky × List Int) := (fs.filter fun f => lastOk d f.dims.length && M f).map fun f => (namesL f.dims d, f.meas)
theorem keyedL_step {M : Fc → Bool} {d : List Nat} {fs : List Fc} {j : Nat} (h : j < fs.length) : keyedL M d (fs.take (j + 1)) = keyedL M d (fs.take j) ++ (if (lastOk d fs[j].dims.length && M fs[j]) = true then [(namesL fs[j].dims d, fs[j].meas)] else []) := by
  unfold keyedL
  rw [take_succ h, List.filter_append, List.map_append]
  congr 1
  cases hc : (lastOk d fs[j].dims.length && M fs[j]) with
  | true => simp [hc]
  | false => simp [hc]
def KeyedP (fv wv : Value) (d : List Nat) (w : World) (e : Ending) (w' : World) : Prop := ∃ x y z dv, e = .returned (.func (.func 70) #[] #[.pointer (some ⟨x, 0, none⟩), .pointer (some ⟨y, 0, none⟩), .pointer (some ⟨z, 0, none⟩)]) ∧
  Blk w' x 22 #[fv] ∧ Blk w' y 53 #[dv] ∧ Blk w' z 23 #[wv] ∧ RowE (fun k => w.heap.size ≤ k) w' 1 (natG (fun k => w.heap.size ≤ k) w') dv d ∧ w.heap.size ≤ x ∧ w.heap.size ≤ y ∧ w.heap.size ≤ z ∧ Fr No w w'
theorem keyed_any (A : Option Addr) (n c : Nat) (p : Option Addr) (s : Int) (w : World) : Calls Tryz.prog 38 #[.slice A n c, .pointer p, .int .i64 s] w (KeyedP (.slice A n c) (.pointer p) (listB s) w) := by
  obtain ⟨B, hB⟩ : ∃ B, w.heap.size = B := ⟨_, rfl⟩
  obtain ⟨w2, hw2⟩ : ∃ w2, (w.alloc (.cells #[.slice A n c] 22)).alloc (.cells #[.pointer p] 23) = w2 := ⟨_, rfl⟩
  have f2 : Fr No w w2 := by rw [← hw2]; exact ((Fr.refl No w).alloc _).alloc _
  have hx : Blk w2 B 22 #[.slice A n c] := by rw [← hw2, ← hB]; exact (Blk.new w 22 _).no ((Fr.refl No _).alloc _)
  have hz : Blk w2 (B + 1) 23 #[.pointer p] := by rw [← hw2, ← hB]; exact blk_at1 w _ 23 _
  have HC := Lib.hid (list_any s w2)
  have HF2 := Lib.hid f2
  have HX := Lib.hid hx
  have HZ := Lib.hid hz
  have HW2 := Lib.hid hw2
  have HB := Lib.hid hB
  clear hw2 f2 hx hz hB
  go_enter Tryz.func38, Tryz.ntmps38
  go_upto_region 1 with fail
  rw [HB.out, HW2.out]
  go_wp2_with (go_at_call 46; refine HC.out.mono ?_; rintro e w3 ⟨dv, rfl, hr3, f3⟩; obtain ⟨D, dn, dc, rfl, hdn⟩ := row_form hr3; have HR3 := Lib.hid hr3; have HF3 := Lib.hid f3; clear hr3 f3 hdn)
  obtain ⟨y, hy⟩ : ∃ y, w3.heap.size = y := ⟨_, rfl⟩
  obtain ⟨w4, hw4⟩ : ∃ w4, w3.alloc (.cells #[.slice D dn dc] 53) = w4 := ⟨_, rfl⟩
  rw [hy, hw4]
  have f4 : Fr No w3 w4 := by rw [← hw4]; exact (Fr.refl No w3).alloc _
  have hyb : Blk w4 y 53 #[.slice D dn dc] := by rw [← hw4, ← hy]; exact Blk.new w3 53 _
  have HEND : Hid (KeyedP (.slice A n c) (.pointer p) (listB s) w (.returned (.func (.func 70) #[] #[.pointer (some ⟨B, 0, none⟩), .pointer (some ⟨y, 0, none⟩), .pointer (some ⟨B + 1, 0, none⟩)])) w4) := Lib.hid (by
    have f24 : Fr No w2 w4 := HF3.out.trans f4 fun _ _ h => h
    have hBs := HB.out
    have h23 := HF3.out.size
    have h02 := HF2.out.size
    exact ⟨B, y, B + 1, .slice D dn dc, rfl, HX.out.no f24, hyb, HZ.out.no f24, (RowE.at_ natG_elem HR3.out f4).mono (fun k hk _ => ⟨by omega, rfl⟩) (fun _ _ h => h), by omega, by omega, by omega, HF2.out.trans f24 fun _ _ h => h⟩)
  clear hy hw4 f4 hyb
  go_ret
  exact HEND.out
end Go.Proofs.YtlpglijikmnopaaGreatDoor
