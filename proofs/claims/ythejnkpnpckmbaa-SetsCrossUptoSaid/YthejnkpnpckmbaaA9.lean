/- Which elements may not be. -/
import Derived.Test.YthejnkpnpckmbaaA8
import Derived.Laws.EntriesVeiled
namespace Go.Proofs.Ythejnkpnpckmbaa
open Go.RowKit Go.Maps
set_option linter.unusedVariables false

theorem any_take {α : Type} {p : α → Bool} {l : List α} {j : Nat} (h : j < l.length) (h1 : (l.take j).any p = false) (h2 : p l[j] = false) : (l.take (j + 1)).any p = false := by
  rw [take_succ h, List.any_append, h1, List.any_cons, h2]; rfl
/-- A call that tells a place, or none. -/
def TellsX (b : Bool) (w : World) (e : Ending) (w' : World) : Prop := ∃ i : Int, e = .returned (.int .i64 i) ∧ decide (0 ≤ i) = b ∧ Fr No w w'

set_option maxRecDepth 100000 in
theorem ixs {K : Nat → Prop} {l : List Tx} {v : Value} {K2 : Nat → Prop} {dims : List Tx} {b : Nat} (w : World) (h : RowE K w 1 (strG K w) v l) (hp : BoxAt K2 w b dims) : Calls Try.prog 36 #[v, .func (.func 26) #[] #[.pointer (some ⟨b, 0, none⟩)]] w (TellsX (l.any (unkB dims)) w) := by
  obtain ⟨A, c, rfl, hlc, hcm, hrow⟩ := h
  obtain ⟨n, hn⟩ : ∃ n, l.length = n := ⟨_, rfl⟩
  rw [hn] at hlc ⊢
  have HROW := Lib.hid hrow
  have HN := Lib.hid hn
  have HP := Lib.hid hp
  unfold maxLen at hcm
  clear hrow hn hp
  go_enter Try.func36, Try.ntmps36
  go_wp2_with fail
  go_loopg [5, 8] n (fun k r5 r8 wr => Hid (∃ j : Nat, r8 = .int .i64 (j : Nat) ∧ j + k = n ∧ (l.take j).any (unkB dims) = false ∧ Fr No w wr))
  case atStart => exact Lib.hid ⟨0, rfl, by omega, rfl, Fr.refl _ _⟩
  case round =>
  obtain ⟨j, rfl, hjn, hnot, hf⟩ := hrel.out
  clear hrel
  have HNOT := Lib.hid hnot
  have HF := Lib.hid hf
  clear hnot
  by_cases hj : j < n
  · have hji : (j : Int) < (n : Int) := by omega
    have hjl : j < l.length := by rw [HN.out]; exact hj
    obtain ⟨g, off, rfl, hK, hg, hel⟩ := HROW.out (by omega)
    obtain ⟨cs, hcl, hcs, hE⟩ := hel j hjl
    obtain ⟨x, hx⟩ : ∃ x, l[j] = x := ⟨_, rfl⟩
    have HX := Lib.hid hx
    rw [hx] at hE
    obtain ⟨hE, hi⟩ := hE
    have e0 : wr.cell? ⟨g, off + j, none⟩ = some (sv x) := (cell_of_heap (hf.block g hg id)).trans (by have := hcs 0 (by decide); rw [hE] at this; simpa using this)
    have HC := Lib.hid (unk_any x wr (HP.out.at_ HF.out))
    clear hcs hcl hel hK hf hE hx hi
    go_wp2_with fail
    refine HC.out.mono ?_
    rintro e w5 ⟨rfl, f5⟩
    have HF5 := Lib.hid (HF.out.trans f5 fun _ _ h => h)
    clear f5
    obtain ⟨b, hb⟩ : ∃ b, (unkB dims) x = b := ⟨_, rfl⟩
    have HBX := Lib.hid hb
    rw [hb]
    clear hb
    cases b with
    | true =>
      have HV : Hid (l.any (unkB dims) = true) := Lib.hid (List.any_eq_true.2 ⟨_, List.getElem_mem hjl, by rw [HX.out]; exact HBX.out⟩)
      go_wp2_with fail
      go_ret
      exact ⟨j, rfl, by rw [HV.out]; exact decide_eq_true (by omega), HF5.out⟩
    | false =>
      have HT : Hid ((l.take (j + 1)).any (unkB dims) = false) := Lib.hid (any_take hjl HNOT.out (by rw [HX.out]; exact HBX.out))
      go_wp2_with fail
      obtain ⟨g1, rfl⟩ : ∃ g1, gk = g1 + 1 := ⟨gk - 1, by omega⟩
      go_roundg g1
      case rel => exact Lib.hid ⟨j + 1, by go_num, by omega, HT.out, HF5.out⟩
      all_goals omega
  · have hji : (n : Int) ≤ (j : Int) := by omega
    have HV : Hid (l.any (unkB dims) = false) := Lib.hid (by have := HNOT.out; rwa [List.take_of_length_le (by rw [HN.out]; omega)] at this)
    clear hf
    go_wp2_with fail
    go_ret
    exact ⟨-1, rfl, by rw [HV.out]; decide, HF.out⟩
theorem cxs {K : Nat → Prop} {l : List Tx} {v : Value} {K2 : Nat → Prop} {dims : List Tx} {b : Nat} (w : World) (h : RowE K w 1 (strG K w) v l) (hp : BoxAt K2 w b dims) : Calls Try.prog 28 #[v, .func (.func 26) #[] #[.pointer (some ⟨b, 0, none⟩)]] w (TellsB (l.any (unkB dims)) w) := by
  have HC := Lib.hid (ixs w h hp)
  obtain ⟨A, c, rfl, _⟩ := h
  obtain ⟨b, hb⟩ : ∃ b, l.any (unkB dims) = b := ⟨_, rfl⟩
  rw [hb] at HC ⊢
  clear hb hp
  go_enter Try.func28, Try.ntmps28
  go_wp2_with fail
  refine HC.out.mono ?_
  rintro e w1 ⟨i, rfl, hi, f1⟩
  have HF := Lib.hid f1
  have HI := Lib.hid hi
  clear f1 hi
  go_wp2_with fail
  go_ret
  exact ⟨by rw [← HI.out]; rfl, HF.out⟩

/-- strange's second closure. -/
theorem any_unk {K K2 : Nat → Prop} {dims : List Tx} {b y : Nat} {l : List Tx} {v : Value} (w : World) (h : RowE K w 1 (strG K w) v l) (hp : BoxAt K2 w b dims) (hy : Blk w y 52 #[.func (.func 26) #[] #[.pointer (some ⟨b, 0, none⟩)]]) :
    Calls Try.prog 30 #[v, .pointer (some ⟨y, 0, none⟩)] w (TellsB (l.any (unkB dims)) w) := by
  have HC := Lib.hid (cxs w h hp)
  have c0 : w.cell? ⟨y, 0, none⟩ = some (.func (.func 26) #[] #[.pointer (some ⟨b, 0, none⟩)]) := hy.cell 0
  obtain ⟨A, c, rfl, _⟩ := h
  obtain ⟨x, hx⟩ : ∃ x, l.any (unkB dims) = x := ⟨_, rfl⟩
  rw [hx] at HC ⊢
  clear hx hp hy
  go_enter Try.func30, Try.ntmps30
  go_wp2_with fail
  refine HC.out.mono ?_
  rintro e w1 ⟨rfl, f1⟩
  have HF := Lib.hid f1
  clear f1
  go_wp2_with fail
  go_ret
  exact ⟨rfl, HF.out⟩

set_option maxRecDepth 100000 in
theorem ixl {K : Nat → Prop} {l : List (List Tx)} {v : Value} {K2 : Nat → Prop} {dims : List Tx} {b y : Nat} (w : World) (h : RowE K w 1 (lsG K w) v l) (hp : BoxAt K2 w b dims) (hy : Blk w y 52 #[.func (.func 26) #[] #[.pointer (some ⟨b, 0, none⟩)]]) : Calls Try.prog 37 #[v, .func (.func 30) #[] #[.pointer (some ⟨y, 0, none⟩)]] w (TellsX (l.any (fun s => s.any (unkB dims))) w) := by
  obtain ⟨A, c, rfl, hlc, hcm, hrow⟩ := h
  obtain ⟨n, hn⟩ : ∃ n, l.length = n := ⟨_, rfl⟩
  rw [hn] at hlc ⊢
  have HROW := Lib.hid hrow
  have HN := Lib.hid hn
  have HP := Lib.hid hp
  have HY := Lib.hid hy
  unfold maxLen at hcm
  clear hrow hn hp hy
  go_enter Try.func37, Try.ntmps37
  go_wp2_with fail
  go_loopg [5, 8] n (fun k r5 r8 wr => Hid (∃ j : Nat, r8 = .int .i64 (j : Nat) ∧ j + k = n ∧ (l.take j).any (fun s => s.any (unkB dims)) = false ∧ Fr No w wr))
  case atStart => exact Lib.hid ⟨0, rfl, by omega, rfl, Fr.refl _ _⟩
  case round =>
  obtain ⟨j, rfl, hjn, hnot, hf⟩ := hrel.out
  clear hrel
  have HNOT := Lib.hid hnot
  have HF := Lib.hid hf
  clear hnot
  by_cases hj : j < n
  · have hji : (j : Int) < (n : Int) := by omega
    have hjl : j < l.length := by rw [HN.out]; exact hj
    obtain ⟨g, off, rfl, hK, hg, hel⟩ := HROW.out (by omega)
    obtain ⟨cs, hcl, hcs, hE⟩ := hel j hjl
    obtain ⟨x, hx⟩ : ∃ x, l[j] = x := ⟨_, rfl⟩
    have HX := Lib.hid hx
    rw [hx] at hE
    obtain ⟨v0, hE, _, hR⟩ := hE
    obtain ⟨A1, n1, c1, rfl⟩ : ∃ A1 n1 c1, v0 = .slice A1 n1 c1 := by obtain ⟨A1, c1, e, _⟩ := hR; exact ⟨_, _, _, e⟩
    have e0 : wr.cell? ⟨g, off + j, none⟩ = some (.slice A1 n1 c1) := (cell_of_heap (hf.block g hg id)).trans (by have := hcs 0 (by decide); rw [hE] at this; simpa using this)
    have HC := Lib.hid (any_unk (b := b) wr (hR.at_ strG_elem HF.out) (HP.out.at_ HF.out) (HY.out.of (HF.out.block _ HY.out.lt id)))
    clear hcs hcl hel hK hf hE hx hR
    go_wp2_with fail
    refine HC.out.mono ?_
    rintro e w5 ⟨rfl, f5⟩
    have HF5 := Lib.hid (HF.out.trans f5 fun _ _ h => h)
    clear f5
    obtain ⟨b, hb⟩ : ∃ b, (fun s => s.any (unkB dims)) x = b := ⟨_, rfl⟩
    have HBX := Lib.hid hb
    have hb2 : x.any (unkB dims) = b := hb
    rw [hb2]
    clear hb2
    clear hb
    cases b with
    | true =>
      have HV : Hid (l.any (fun s => s.any (unkB dims)) = true) := Lib.hid (List.any_eq_true.2 ⟨_, List.getElem_mem hjl, by rw [HX.out]; exact HBX.out⟩)
      go_wp2_with fail
      go_ret
      exact ⟨j, rfl, by rw [HV.out]; exact decide_eq_true (by omega), HF5.out⟩
    | false =>
      have HT : Hid ((l.take (j + 1)).any (fun s => s.any (unkB dims)) = false) := Lib.hid (any_take hjl HNOT.out (by rw [HX.out]; exact HBX.out))
      go_wp2_with fail
      obtain ⟨g1, rfl⟩ : ∃ g1, gk = g1 + 1 := ⟨gk - 1, by omega⟩
      go_roundg g1
      case rel => exact Lib.hid ⟨j + 1, by go_num, by omega, HT.out, HF5.out⟩
      all_goals omega
  · have hji : (n : Int) ≤ (j : Int) := by omega
    have HV : Hid (l.any (fun s => s.any (unkB dims)) = false) := Lib.hid (by have := HNOT.out; rwa [List.take_of_length_le (by rw [HN.out]; omega)] at this)
    clear hf
    go_wp2_with fail
    go_ret
    exact ⟨-1, rfl, by rw [HV.out]; decide, HF.out⟩
theorem cxl {K : Nat → Prop} {l : List (List Tx)} {v : Value} {K2 : Nat → Prop} {dims : List Tx} {b y : Nat} (w : World) (h : RowE K w 1 (lsG K w) v l) (hp : BoxAt K2 w b dims) (hy : Blk w y 52 #[.func (.func 26) #[] #[.pointer (some ⟨b, 0, none⟩)]]) : Calls Try.prog 29 #[v, .func (.func 30) #[] #[.pointer (some ⟨y, 0, none⟩)]] w (TellsB (l.any (fun s => s.any (unkB dims))) w) := by
  have HC := Lib.hid (ixl w h hp hy)
  obtain ⟨A, c, rfl, _⟩ := h
  obtain ⟨b, hb⟩ : ∃ b, l.any (fun s => s.any (unkB dims)) = b := ⟨_, rfl⟩
  rw [hb] at HC ⊢
  clear hb hp hy
  go_enter Try.func29, Try.ntmps29
  go_wp2_with fail
  refine HC.out.mono ?_
  rintro e w1 ⟨i, rfl, hi, f1⟩
  have HF := Lib.hid f1
  have HI := Lib.hid hi
  clear f1 hi
  go_wp2_with fail
  go_ret
  exact ⟨by rw [← HI.out]; rfl, HF.out⟩

set_option maxRecDepth 100000 in
theorem wrong_any {K : Nat → Prop} (x : Gp) {a b : Value} (w : World) (hA : RowE K w 1 (strG K w) a x.cols) (hB : RowE K w 1 (lsG K w) b x.sets) : Calls Try.prog 20 #[.agg #[.int .i64 x.kind, a, b]] w (TellsB (wrongB x) w) := by
  obtain ⟨kind, cols, sets⟩ := x
  simp only at hA hB ⊢
  obtain ⟨A1, c1, rfl⟩ : ∃ A1 c1, a = .slice A1 cols.length c1 := by obtain ⟨A1, c1, e, _⟩ := hA; exact ⟨_, _, e⟩
  obtain ⟨A2, c2, rfl⟩ : ∃ A2 c2, b = .slice A2 sets.length c2 := by obtain ⟨A2, c2, e, _⟩ := hB; exact ⟨_, _, e⟩
  obtain ⟨w1, hw1⟩ : ∃ w1, w.alloc (.cells #[.int .i64 kind, .slice A1 cols.length c1, .slice A2 sets.length c2] 38) = w1 := ⟨_, rfl⟩
  obtain ⟨y, hy⟩ : ∃ y, w.heap.size = y := ⟨_, rfl⟩
  have f1 : Fr No w w1 := by rw [← hw1]; exact (Fr.refl No w).alloc _
  have hb : Blk w1 y 38 #[.int .i64 kind, .slice A1 cols.length c1, .slice A2 sets.length c2] := by rw [← hw1, ← hy]; exact Blk.new w 38 _
  have d0 : w1.cell? ⟨y, 0, none⟩ = some (.int .i64 kind) := hb.cell 0
  have d1 : w1.cell? ⟨y, 1, none⟩ = some (.slice A1 cols.length c1) := hb.cell 1
  have d2 : w1.cell? ⟨y, 2, none⟩ = some (.slice A2 sets.length c2) := hb.cell 2
  have F1 := Lib.hid f1
  have HW1 := Lib.hid hw1
  have HY := Lib.hid hy
  have HV : Hid (wrongB ⟨kind, cols, sets⟩ = (if kind = 1 then cols.length != 1 else if kind = 2 ∨ kind = 3 then cols.length == 0 else kind != 4)) := Lib.hid rfl
  generalize cols.length = n at *
  clear f1 hb hw1 hy hA hB
  go_enter Try.func20, Try.ntmps20
  go_upto_region 1 with fail
  rw [HW1.out, HY.out]
  by_cases h1 : kind = 1
  · subst h1
    rw [if_pos rfl] at HV
    go_wp2_with fail
    go_ret
    exact ⟨by rw [HV.out]; exact ret_bool (by rw [Bool.eq_iff_iff]; first | (simp; done) | (simp; omega)), F1.out⟩
  · have b1 : (kind == 1) = false := by simpa using h1
    rw [if_neg h1] at HV
    by_cases h2 : kind = 2
    · subst h2
      rw [if_pos (.inl rfl)] at HV
      go_wp2_with fail
      go_ret
      exact ⟨by first | (rw [HV.out]; rfl) | (rw [HV.out]; exact ret_bool (by first | rfl | (rw [Bool.eq_iff_iff]; simp; done) | (rw [Bool.eq_iff_iff]; done))), F1.out⟩
    · have b2 : (kind == 2) = false := by simpa using h2
      by_cases h3 : kind = 3
      · subst h3
        rw [if_pos (.inr rfl)] at HV
        go_wp2_with fail
        go_ret
        exact ⟨by first | (rw [HV.out]; rfl) | (rw [HV.out]; exact ret_bool (by first | rfl | (rw [Bool.eq_iff_iff]; simp; done) | (rw [Bool.eq_iff_iff]; done))), F1.out⟩
      · have b3 : (kind == 3) = false := by simpa using h3
        rw [if_neg (by omega)] at HV
        clear h1 h2 h3
        go_wp2_with fail
        go_ret
        exact ⟨by first | (rw [HV.out]; rfl) | (rw [HV.out]; exact ret_bool (by first | rfl | (rw [Bool.eq_iff_iff]; simp; done) | (rw [Bool.eq_iff_iff]; done))), F1.out⟩
set_option maxRecDepth 100000 in
theorem strange_any {K K2 : Nat → Prop} {dims : List Tx} {dv : Value} (x : Gp) {a b : Value} (w : World) (hD : RowE K2 w 1 (strG K2 w) dv dims) (hA : RowE K w 1 (strG K w) a x.cols) (hB : RowE K w 1 (lsG K w) b x.sets) : Calls Try.prog 22 #[dv, .agg #[.int .i64 x.kind, a, b]] w (TellsB (strangeB dims x) w) := by
  obtain ⟨kind, cols, sets⟩ := x
  simp only at hA hB ⊢
  obtain ⟨A0, c0, hd0⟩ : ∃ A0 c0, dv = .slice A0 dims.length c0 := by obtain ⟨A1, c1, e, _⟩ := hD; exact ⟨_, _, e⟩
  obtain ⟨A1, c1, ha0⟩ : ∃ A1 c1, a = .slice A1 cols.length c1 := by obtain ⟨A1, c1, e, _⟩ := hA; exact ⟨_, _, e⟩
  obtain ⟨A2, c2, hb0⟩ : ∃ A2 c2, b = .slice A2 sets.length c2 := by obtain ⟨A2, c2, e, _⟩ := hB; exact ⟨_, _, e⟩
  subst hd0 ha0 hb0
  obtain ⟨wa, hwa⟩ : ∃ wa, w.alloc (.cells #[.slice A0 dims.length c0] 23) = wa := ⟨_, rfl⟩
  obtain ⟨wb, hwb⟩ : ∃ wb, wa.alloc (.cells #[.int .i64 kind, .slice A1 cols.length c1, .slice A2 sets.length c2] 38) = wb := ⟨_, rfl⟩
  obtain ⟨y, hy⟩ : ∃ y, w.heap.size = y := ⟨_, rfl⟩
  have hya : wa.heap.size = y + 1 := by rw [← hwa, ← hy]; simp
  obtain ⟨wc, hwc⟩ : ∃ wc, wb.alloc (.cells #[.func (.func 26) #[] #[.pointer (some ⟨y, 0, none⟩)]] 52) = wc := ⟨_, rfl⟩
  have hyb : wb.heap.size = y + 1 + 1 := by rw [← hwb]; simp [hya]
  have fa : Fr No w wa := by rw [← hwa]; exact (Fr.refl No w).alloc _
  have fb : Fr No wa wb := by rw [← hwb]; exact (Fr.refl No wa).alloc _
  have fc : Fr No wb wc := by rw [← hwc]; exact (Fr.refl No wb).alloc _
  have ba : Blk wa y 23 #[.slice A0 dims.length c0] := by rw [← hwa, ← hy]; exact Blk.new w 23 _
  have bb : Blk wb (y + 1) 38 #[.int .i64 kind, .slice A1 cols.length c1, .slice A2 sets.length c2] := by rw [← hwb, ← hya]; exact Blk.new wa 38 _
  have bc : Blk wc (y + 1 + 1) 52 #[.func (.func 26) #[] #[.pointer (some ⟨y, 0, none⟩)]] := by rw [← hwc, ← hyb]; exact Blk.new wb 52 _
  have bb' := bb.of (fc.block _ bb.lt id)
  have d0 : wc.cell? ⟨y + 1, 0, none⟩ = some (.int .i64 kind) := bb'.cell 0
  have d1 : wc.cell? ⟨y + 1, 1, none⟩ = some (.slice A1 cols.length c1) := bb'.cell 1
  have d2 : wc.cell? ⟨y + 1, 2, none⟩ = some (.slice A2 sets.length c2) := bb'.cell 2
  have d3 : wc.cell? ⟨y + 1 + 1, 0, none⟩ = some (.func (.func 26) #[] #[.pointer (some ⟨y, 0, none⟩)]) := bc.cell 0
  have fac : Fr No wa wc := fb.trans fc fun _ _ h => h
  have f0 : Fr No w wc := fa.trans fac fun _ _ h => h
  have hbox : BoxAt K2 wc y dims := ⟨A0, c0, ba.of (fac.block _ ba.lt id), hD.at_ strG_elem f0⟩
  have HC1 := Lib.hid (cxs wc (hA.at_ strG_elem f0) hbox)
  have HC2 := Lib.hid (cxl wc (hB.at_ lsG_elem f0) hbox bc)
  have F0 := Lib.hid f0
  have HWA := Lib.hid hwa
  have HWB := Lib.hid hwb
  have HWC := Lib.hid hwc
  have HY := Lib.hid hy
  have HYA := Lib.hid hya
  have HYB := Lib.hid hyb
  have HV : Hid (strangeB dims ⟨kind, cols, sets⟩ = (if kind = 4 then sets.any fun s => s.any (unkB dims) else cols.any (unkB dims))) := Lib.hid rfl
  obtain ⟨x1, hx1⟩ : ∃ x1, cols.any (unkB dims) = x1 := ⟨_, rfl⟩
  obtain ⟨x2, hx2⟩ : ∃ x2, (sets.any fun s => s.any (unkB dims)) = x2 := ⟨_, rfl⟩
  rw [hx1] at HC1 HV
  rw [hx2] at HC2 HV
  have hmf : ∀ (fn : Fn) (first cap : Array Value) (w : World), (Instr.makeFunc fn first cap).run Try.prog w = .ok (.func fn first cap) w := fun _ _ _ _ => rfl
  clear hD hA hB hwa hwb hwc hy hya hyb fa fb fc ba bb bc bb' fac f0 hbox hx1 hx2
  go_enter Try.func22, Try.ntmps22
  go_upto_region 1 with fail
  rw [HY.out, HWA.out]
  first | rw [HYA.out] | skip
  rw [HWB.out]
  go_upto_region 2 with fail
  rw [HYB.out]
  first | rw [HWC.out] | skip
  by_cases h4 : kind = 4
  · subst h4
    rw [if_pos rfl] at HV
    go_wp2_with fail
    refine HC2.out.mono ?_
    rintro e w1 ⟨rfl, f1⟩
    have HF := Lib.hid (F0.out.trans f1 fun _ _ h => h)
    clear f1
    go_wp2_with fail
    go_ret
    exact ⟨by rw [HV.out]; rfl, HF.out⟩
  · have b4 : (kind == 4) = false := by simpa using h4
    rw [if_neg h4] at HV
    go_wp2_with fail
    refine HC1.out.mono ?_
    rintro e w1 ⟨rfl, f1⟩
    have HF := Lib.hid (F0.out.trans f1 fun _ _ h => h)
    clear f1
    go_wp2_with fail
    go_ret
    exact ⟨by rw [HV.out]; rfl, HF.out⟩
/-- Expand's closure. -/
theorem ex1_any {K K2 : Nat → Prop} {dims : List Tx} {d : Nat} (x : Gp) {a b : Value} (w : World) (hA : RowE K w 1 (strG K w) a x.cols) (hB : RowE K w 1 (lsG K w) b x.sets) (hp : BoxAt K2 w d dims) : Calls Try.prog 21 #[.agg #[.int .i64 x.kind, a, b], .pointer (some ⟨d, 0, none⟩)] w (TellsB (strangeB dims x) w) := by
  obtain ⟨A1, c1, ha0⟩ : ∃ A1 c1, a = .slice A1 x.cols.length c1 := by obtain ⟨A1, c1, e, _⟩ := hA; exact ⟨_, _, e⟩
  obtain ⟨A2, c2, hb0⟩ : ∃ A2 c2, b = .slice A2 x.sets.length c2 := by obtain ⟨A2, c2, e, _⟩ := hB; exact ⟨_, _, e⟩
  subst ha0 hb0
  obtain ⟨A0, c0, hbk, hD⟩ := hp
  obtain ⟨w1, hw1⟩ : ∃ w1, w.alloc (.cells #[.int .i64 x.kind, .slice A1 x.cols.length c1, .slice A2 x.sets.length c2] 38) = w1 := ⟨_, rfl⟩
  obtain ⟨y, hy⟩ : ∃ y, w.heap.size = y := ⟨_, rfl⟩
  have f1 : Fr No w w1 := by rw [← hw1]; exact (Fr.refl No w).alloc _
  have hb : Blk w1 y 38 #[.int .i64 x.kind, .slice A1 x.cols.length c1, .slice A2 x.sets.length c2] := by rw [← hw1, ← hy]; exact Blk.new w 38 _
  have d0 : w1.cell? ⟨y, 0, none⟩ = some (.int .i64 x.kind) := hb.cell 0
  have d1 : w1.cell? ⟨y, 1, none⟩ = some (.slice A1 x.cols.length c1) := hb.cell 1
  have d2 : w1.cell? ⟨y, 2, none⟩ = some (.slice A2 x.sets.length c2) := hb.cell 2
  have d3 : w1.cell? ⟨d, 0, none⟩ = some (.slice A0 dims.length c0) := (hbk.of (f1.block _ hbk.lt id)).cell 0
  have HC := Lib.hid (strange_any x w1 (hD.at_ strG_elem f1) (hA.at_ strG_elem f1) (hB.at_ lsG_elem f1))
  have F1 := Lib.hid f1
  have HW1 := Lib.hid hw1
  have HY := Lib.hid hy
  clear f1 hb hw1 hy hA hB hbk hD
  go_enter Try.func21, Try.ntmps21
  go_upto_region 1 with fail
  rw [HW1.out, HY.out]
  go_wp2_with fail
  refine HC.out.mono ?_
  rintro e w2 ⟨rfl, f2⟩
  have HF := Lib.hid (F1.out.trans f2 fun _ _ h => h)
  clear f2
  go_wp2_with fail
  go_ret
  exact ⟨rfl, HF.out⟩

set_option maxRecDepth 100000 in
theorem ixw {K : Nat → Prop} {l : List Gp} {v : Value} (w : World) (h : RowE K w 3 (gpG K w) v l) : Calls Try.prog 25 #[v, .func (.func 20) #[] #[]] w (TellsX (l.any (wrongB)) w) := by
  obtain ⟨A, c, rfl, hlc, hcm, hrow⟩ := h
  obtain ⟨n, hn⟩ : ∃ n, l.length = n := ⟨_, rfl⟩
  rw [hn] at hlc ⊢
  have HROW := Lib.hid hrow
  have HN := Lib.hid hn

  unfold maxLen at hcm
  clear hrow hn
  go_enter Try.func25, Try.ntmps25
  go_wp2_with fail
  go_loopg [5, 8] n (fun k r5 r8 wr => Hid (∃ j : Nat, r8 = .int .i64 (j : Nat) ∧ j + k = n ∧ (l.take j).any (wrongB) = false ∧ Fr No w wr))
  case atStart => exact Lib.hid ⟨0, rfl, by omega, rfl, Fr.refl _ _⟩
  case round =>
  obtain ⟨j, rfl, hjn, hnot, hf⟩ := hrel.out
  clear hrel
  have HNOT := Lib.hid hnot
  have HF := Lib.hid hf
  clear hnot
  by_cases hj : j < n
  · have hji : (j : Int) < (n : Int) := by omega
    have hjl : j < l.length := by rw [HN.out]; exact hj
    obtain ⟨g, off, rfl, hK, hg, hel⟩ := HROW.out (by omega)
    obtain ⟨cs, hcl, hcs, hE⟩ := hel j hjl
    obtain ⟨x, hx⟩ : ∃ x, l[j] = x := ⟨_, rfl⟩
    have HX := Lib.hid hx
    rw [hx] at hE
    obtain ⟨a0, b0, hE, h64, hRA, hRB⟩ := hE
    obtain ⟨A1, c1, rfl⟩ : ∃ A1 c1, a0 = .slice A1 x.cols.length c1 := by obtain ⟨A1, c1, e, _⟩ := hRA; exact ⟨_, _, e⟩
    obtain ⟨A2, c2, rfl⟩ : ∃ A2 c2, b0 = .slice A2 x.sets.length c2 := by obtain ⟨A2, c2, e, _⟩ := hRB; exact ⟨_, _, e⟩
    have e0 : wr.cell? ⟨g, off + j * 3, none⟩ = some (.int .i64 x.kind) := (cell_of_heap (hf.block g hg id)).trans (by have := hcs 0 (by decide); rw [hE] at this; simpa using this)
    have e1 : wr.cell? ⟨g, off + j * 3 + 1, none⟩ = some (.slice A1 x.cols.length c1) := (cell_of_heap (hf.block g hg id)).trans (by have := hcs 1 (by decide); rw [hE] at this; simpa using this)
    have e2 : wr.cell? ⟨g, off + j * 3 + 2, none⟩ = some (.slice A2 x.sets.length c2) := (cell_of_heap (hf.block g hg id)).trans (by have := hcs 2 (by decide); rw [hE] at this; simpa using this)
    have HC := Lib.hid (wrong_any x wr (hRA.at_ strG_elem HF.out) (hRB.at_ lsG_elem HF.out))
    clear hcs hcl hel hK hf hE hx hRA hRB h64
    go_wp2_with fail
    refine HC.out.mono ?_
    rintro e w5 ⟨rfl, f5⟩
    have HF5 := Lib.hid (HF.out.trans f5 fun _ _ h => h)
    clear f5
    obtain ⟨b, hb⟩ : ∃ b, (wrongB) x = b := ⟨_, rfl⟩
    have HBX := Lib.hid hb
    rw [hb]
    clear hb
    cases b with
    | true =>
      have HV : Hid (l.any (wrongB) = true) := Lib.hid (List.any_eq_true.2 ⟨_, List.getElem_mem hjl, by rw [HX.out]; exact HBX.out⟩)
      go_wp2_with fail
      go_ret
      exact ⟨j, rfl, by rw [HV.out]; exact decide_eq_true (by omega), HF5.out⟩
    | false =>
      have HT : Hid ((l.take (j + 1)).any (wrongB) = false) := Lib.hid (any_take hjl HNOT.out (by rw [HX.out]; exact HBX.out))
      go_wp2_with fail
      obtain ⟨g1, rfl⟩ : ∃ g1, gk = g1 + 1 := ⟨gk - 1, by omega⟩
      go_roundg g1
      case rel => exact Lib.hid ⟨j + 1, by go_num, by omega, HT.out, HF5.out⟩
      all_goals omega
  · have hji : (n : Int) ≤ (j : Int) := by omega
    have HV : Hid (l.any (wrongB) = false) := Lib.hid (by have := HNOT.out; rwa [List.take_of_length_le (by rw [HN.out]; omega)] at this)
    clear hf
    go_wp2_with fail
    go_ret
    exact ⟨-1, rfl, by rw [HV.out]; decide, HF.out⟩
theorem cxw {K : Nat → Prop} {l : List Gp} {v : Value} (w : World) (h : RowE K w 3 (gpG K w) v l) : Calls Try.prog 19 #[v, .func (.func 20) #[] #[]] w (TellsB (l.any (wrongB)) w) := by
  have HC := Lib.hid (ixw w h)
  obtain ⟨A, c, rfl, _⟩ := h
  obtain ⟨b, hb⟩ : ∃ b, l.any (wrongB) = b := ⟨_, rfl⟩
  rw [hb] at HC ⊢
  clear hb
  go_enter Try.func19, Try.ntmps19
  go_wp2_with fail
  refine HC.out.mono ?_
  rintro e w1 ⟨i, rfl, hi, f1⟩
  have HF := Lib.hid f1
  have HI := Lib.hid hi
  clear f1 hi
  go_wp2_with fail
  go_ret
  exact ⟨by rw [← HI.out]; rfl, HF.out⟩

set_option maxRecDepth 100000 in
theorem ixg {K : Nat → Prop} {l : List Gp} {v : Value} {K2 : Nat → Prop} {dims : List Tx} {b : Nat} (w : World) (h : RowE K w 3 (gpG K w) v l) (hp : BoxAt K2 w b dims) : Calls Try.prog 25 #[v, .func (.func 21) #[] #[.pointer (some ⟨b, 0, none⟩)]] w (TellsX (l.any (strangeB dims)) w) := by
  obtain ⟨A, c, rfl, hlc, hcm, hrow⟩ := h
  obtain ⟨n, hn⟩ : ∃ n, l.length = n := ⟨_, rfl⟩
  rw [hn] at hlc ⊢
  have HROW := Lib.hid hrow
  have HN := Lib.hid hn
  have HP := Lib.hid hp
  unfold maxLen at hcm
  clear hrow hn hp
  go_enter Try.func25, Try.ntmps25
  go_wp2_with fail
  go_loopg [5, 8] n (fun k r5 r8 wr => Hid (∃ j : Nat, r8 = .int .i64 (j : Nat) ∧ j + k = n ∧ (l.take j).any (strangeB dims) = false ∧ Fr No w wr))
  case atStart => exact Lib.hid ⟨0, rfl, by omega, rfl, Fr.refl _ _⟩
  case round =>
  obtain ⟨j, rfl, hjn, hnot, hf⟩ := hrel.out
  clear hrel
  have HNOT := Lib.hid hnot
  have HF := Lib.hid hf
  clear hnot
  by_cases hj : j < n
  · have hji : (j : Int) < (n : Int) := by omega
    have hjl : j < l.length := by rw [HN.out]; exact hj
    obtain ⟨g, off, rfl, hK, hg, hel⟩ := HROW.out (by omega)
    obtain ⟨cs, hcl, hcs, hE⟩ := hel j hjl
    obtain ⟨x, hx⟩ : ∃ x, l[j] = x := ⟨_, rfl⟩
    have HX := Lib.hid hx
    rw [hx] at hE
    obtain ⟨a0, b0, hE, h64, hRA, hRB⟩ := hE
    obtain ⟨A1, c1, rfl⟩ : ∃ A1 c1, a0 = .slice A1 x.cols.length c1 := by obtain ⟨A1, c1, e, _⟩ := hRA; exact ⟨_, _, e⟩
    obtain ⟨A2, c2, rfl⟩ : ∃ A2 c2, b0 = .slice A2 x.sets.length c2 := by obtain ⟨A2, c2, e, _⟩ := hRB; exact ⟨_, _, e⟩
    have e0 : wr.cell? ⟨g, off + j * 3, none⟩ = some (.int .i64 x.kind) := (cell_of_heap (hf.block g hg id)).trans (by have := hcs 0 (by decide); rw [hE] at this; simpa using this)
    have e1 : wr.cell? ⟨g, off + j * 3 + 1, none⟩ = some (.slice A1 x.cols.length c1) := (cell_of_heap (hf.block g hg id)).trans (by have := hcs 1 (by decide); rw [hE] at this; simpa using this)
    have e2 : wr.cell? ⟨g, off + j * 3 + 2, none⟩ = some (.slice A2 x.sets.length c2) := (cell_of_heap (hf.block g hg id)).trans (by have := hcs 2 (by decide); rw [hE] at this; simpa using this)
    have HC := Lib.hid (ex1_any x wr (hRA.at_ strG_elem HF.out) (hRB.at_ lsG_elem HF.out) (HP.out.at_ HF.out))
    clear hcs hcl hel hK hf hE hx hRA hRB h64
    go_wp2_with fail
    refine HC.out.mono ?_
    rintro e w5 ⟨rfl, f5⟩
    have HF5 := Lib.hid (HF.out.trans f5 fun _ _ h => h)
    clear f5
    obtain ⟨b, hb⟩ : ∃ b, (strangeB dims) x = b := ⟨_, rfl⟩
    have HBX := Lib.hid hb
    rw [hb]
    clear hb
    cases b with
    | true =>
      have HV : Hid (l.any (strangeB dims) = true) := Lib.hid (List.any_eq_true.2 ⟨_, List.getElem_mem hjl, by rw [HX.out]; exact HBX.out⟩)
      go_wp2_with fail
      go_ret
      exact ⟨j, rfl, by rw [HV.out]; exact decide_eq_true (by omega), HF5.out⟩
    | false =>
      have HT : Hid ((l.take (j + 1)).any (strangeB dims) = false) := Lib.hid (any_take hjl HNOT.out (by rw [HX.out]; exact HBX.out))
      go_wp2_with fail
      obtain ⟨g1, rfl⟩ : ∃ g1, gk = g1 + 1 := ⟨gk - 1, by omega⟩
      go_roundg g1
      case rel => exact Lib.hid ⟨j + 1, by go_num, by omega, HT.out, HF5.out⟩
      all_goals omega
  · have hji : (n : Int) ≤ (j : Int) := by omega
    have HV : Hid (l.any (strangeB dims) = false) := Lib.hid (by have := HNOT.out; rwa [List.take_of_length_le (by rw [HN.out]; omega)] at this)
    clear hf
    go_wp2_with fail
    go_ret
    exact ⟨-1, rfl, by rw [HV.out]; decide, HF.out⟩
theorem cxg {K : Nat → Prop} {l : List Gp} {v : Value} {K2 : Nat → Prop} {dims : List Tx} {b : Nat} (w : World) (h : RowE K w 3 (gpG K w) v l) (hp : BoxAt K2 w b dims) : Calls Try.prog 19 #[v, .func (.func 21) #[] #[.pointer (some ⟨b, 0, none⟩)]] w (TellsB (l.any (strangeB dims)) w) := by
  have HC := Lib.hid (ixg w h hp)
  obtain ⟨A, c, rfl, _⟩ := h
  obtain ⟨b, hb⟩ : ∃ b, l.any (strangeB dims) = b := ⟨_, rfl⟩
  rw [hb] at HC ⊢
  clear hb hp
  go_enter Try.func19, Try.ntmps19
  go_wp2_with fail
  refine HC.out.mono ?_
  rintro e w1 ⟨i, rfl, hi, f1⟩
  have HF := Lib.hid f1
  have HI := Lib.hid hi
  clear f1 hi
  go_wp2_with fail
  go_ret
  exact ⟨by rw [← HI.out]; rfl, HF.out⟩
end Go.Proofs.Ythejnkpnpckmbaa
