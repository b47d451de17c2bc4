/- Whether a query may be: lists. -/
import Derived.Test.YtpdfenpmnpoehaaGreatDoorR1
import Derived.Deep.LoopGhost
namespace Go.Proofs.YtpdfenpmnpoehaaGreatDoor
open Go.RowKit Go.Maps
set_option linter.unusedVariables false

theorem take_all {α : Type} {l : List α} {p : α → Bool} {j : Nat} (h : j < l.length) (ha : (l.take j).all p = true) : (l.take (j + 1)).all p = p l[j] := by
  rw [List.take_succ_eq_append_getElem h, List.all_append, ha]
  simp
theorem take_bad {α : Type} {l : List α} {p : α → Bool} {j : Nat} (h : j < l.length) (hx : p l[j] = false) : l.all p = false := by
  rw [Bool.eq_false_iff]
  intro ha
  have := List.all_eq_true.1 ha l[j] (List.getElem_mem h)
  rw [hx] at this
  cases this

set_option maxRecDepth 100000 in
theorem rl90_any {K : Nat → Prop} {l : List It} {v : Value} (least most : Nat) {la ma : Int} (hla : la = (least : Nat)) (hma : ma = (most : Nat)) (w : World) (hp : Lr w) (h : RowE K w 2 (itG K w) v l) :
    Calls Tryz.prog 90 #[v, .int .i64 la, .int .i64 ma, .func (.func 91) #[] #[]] w (TellsB (rightL l least most rightI) w) := by
  obtain ⟨A, c, rfl, hlc, hcm, hrow⟩ := h
  obtain ⟨n, hn⟩ : ∃ n, l.length = n := ⟨_, rfl⟩
  unfold rightL
  rw [hn] at hlc ⊢
  have HROW := Lib.hid hrow
  have HN := Lib.hid hn
  have HP := Lib.hid hp
  unfold maxLen at hcm
  clear hrow hp hn
  subst hla hma
  go_enter Tryz.func90, Tryz.ntmps90
  by_cases h1 : least ≤ n
  · by_cases h2 : n ≤ most
    · have k1 : (n < least) = False := eq_false (by omega)
      have k2 : (most < n) = False := eq_false (by omega)
      have HV : Hid ((decide (least ≤ n) && decide (n ≤ most) && l.all rightI) = l.all rightI) := Lib.hid (by rw [decide_eq_true h1, decide_eq_true h2]; rfl)
      rw [HV.out]
      go_wp2_with fail
      go_loopg [10, 23] n (fun k r10 r23 wr => Hid (∃ j : Nat, r23 = .int .i64 (j : Nat) ∧ j + k = n ∧ Fr No w wr ∧ (l.take j).all rightI = true))
      case atStart => exact Lib.hid ⟨0, rfl, by omega, Fr.refl _ _, rfl⟩
      case round =>
      obtain ⟨j, rfl, hjn, hf, hall⟩ := hrel.out
      have HALL := Lib.hid hall
      clear hrel hall
      by_cases hj : j < n
      · have hji : (j : Int) < (n : Int) := by omega
        have hjl : j < l.length := by rw [HN.out]; exact hj
        obtain ⟨g, off, rfl, hK, hg, hel⟩ := HROW.out (by omega)
        obtain ⟨cs, hcl, hcs, hE⟩ := hel j hjl
        obtain ⟨x, hx⟩ : ∃ x, l[j] = x := ⟨_, rfl⟩
        have HX := Lib.hid hx
        rw [hx] at hE
        obtain ⟨hE, hxl, _⟩ := hE
        have e0 : wr.cell? ⟨g, off + j * 2, none⟩ = some (.int .i64 x.kind) := (cell_of_heap (hf.block g hg id)).trans (by have := hcs 0 (by decide); rw [hE] at this; simpa using this)
        have e1 : wr.cell? ⟨g, off + j * 2 + 1, none⟩ = some (sv x.col) := (cell_of_heap (hf.block g hg id)).trans (by have := hcs 1 (by decide); rw [hE] at this; simpa using this)
        obtain ⟨wn, hwn⟩ : ∃ wn, wr.alloc (.cells #[.int .i64 x.kind, sv x.col] 45) = wn := ⟨_, rfl⟩
        obtain ⟨y, hy⟩ : ∃ y, wr.heap.size = y := ⟨_, rfl⟩
        have f1 : Fr No wr wn := by rw [← hwn]; exact (Fr.refl No wr).alloc _
        have hb : Blk wn y 45 #[.int .i64 x.kind, sv x.col] := by rw [← hwn, ← hy]; exact Blk.new wr 45 _
        have c0 : wn.cell? ⟨y, 0, none⟩ = some (.int .i64 x.kind) := hb.cell 0
        have c1 : wn.cell? ⟨y, 1, none⟩ = some (sv x.col) := hb.cell 1
        have HWN := Lib.hid hwn
        have HY := Lib.hid hy
        have HFN := Lib.hid (hf.trans f1 fun _ _ h => h)
        clear hb hwn hy f1
        have HC := Lib.hid (ritem_any x wn (HP.out.no HFN.out) hxl)
        clear hcs hcl hel hK hf hE
        go_upto_region 6 with fail
        rw [HY.out, HWN.out]
        go_wp2_with fail
        refine HC.out.mono ?_
        rintro e w5 ⟨rfl, f5⟩
        have HF5 := Lib.hid (HFN.out.trans f5 fun _ _ h => h)
        clear f5
        cases hb : rightI x with
        | true =>
          have HT : Hid ((l.take (j + 1)).all rightI = true) := Lib.hid (by rw [take_all hjl HALL.out, HX.out, hb])
          clear hb
          go_wp2_with fail
          obtain ⟨g1, rfl⟩ : ∃ g1, gk = g1 + 1 := ⟨gk - 1, by omega⟩
          go_roundg g1
          case rel => exact Lib.hid ⟨j + 1, by go_num, by omega, HF5.out, HT.out⟩
          all_goals omega
        | false =>
          have HT : Hid (l.all rightI = false) := Lib.hid (take_bad hjl (by rw [HX.out]; exact hb))
          clear hb
          go_wp2_with fail
          go_ret
          exact ⟨by rw [HT.out]; rfl, HF5.out⟩
      · have hji : (n : Int) ≤ (j : Int) := by omega
        have HT : Hid (l.all rightI = true) := Lib.hid (by have := HALL.out; rwa [List.take_of_length_le (by rw [HN.out]; omega)] at this)
        have HFE := Lib.hid hf
        clear hf
        go_wp2_with fail
        go_ret
        exact ⟨by rw [HT.out]; rfl, HFE.out⟩
    · have k1 : (n < least) = False := eq_false (by omega)
      have k2 : (most < n) = True := eq_true (by omega)
      rw [decide_eq_false h2, Bool.and_false, Bool.false_and]
      go_wp2_with fail
      go_ret
      exact ⟨rfl, Fr.refl _ _⟩
  · have k1 : (n < least) = True := eq_true (by omega)
    rw [decide_eq_false h1, Bool.false_and, Bool.false_and]
    go_wp2_with fail
    go_ret
    exact ⟨rfl, Fr.refl _ _⟩

set_option maxRecDepth 100000 in
theorem rl138_any {K : Nat → Prop} {l : List Vl} {v : Value} (least most : Nat) {la ma : Int} (hla : la = (least : Nat)) (hma : ma = (most : Nat)) (w : World) (hp : Lr w) (h : RowE K w 3 (vlG K w) v l) :
    Calls Tryz.prog 138 #[v, .int .i64 la, .int .i64 ma, .func (.func 139) #[] #[]] w (TellsB (rightL l least most rightV) w) := by
  obtain ⟨A, c, rfl, hlc, hcm, hrow⟩ := h
  obtain ⟨n, hn⟩ : ∃ n, l.length = n := ⟨_, rfl⟩
  unfold rightL
  rw [hn] at hlc ⊢
  have HROW := Lib.hid hrow
  have HN := Lib.hid hn
  have HP := Lib.hid hp
  unfold maxLen at hcm
  clear hrow hp hn
  subst hla hma
  go_enter Tryz.func138, Tryz.ntmps138
  by_cases h1 : least ≤ n
  · by_cases h2 : n ≤ most
    · have k1 : (n < least) = False := eq_false (by omega)
      have k2 : (most < n) = False := eq_false (by omega)
      have HV : Hid ((decide (least ≤ n) && decide (n ≤ most) && l.all rightV) = l.all rightV) := Lib.hid (by rw [decide_eq_true h1, decide_eq_true h2]; rfl)
      rw [HV.out]
      go_wp2_with fail
      go_loopg [10, 23] n (fun k r10 r23 wr => Hid (∃ j : Nat, r23 = .int .i64 (j : Nat) ∧ j + k = n ∧ Fr No w wr ∧ (l.take j).all rightV = true))
      case atStart => exact Lib.hid ⟨0, rfl, by omega, Fr.refl _ _, rfl⟩
      case round =>
      obtain ⟨j, rfl, hjn, hf, hall⟩ := hrel.out
      have HALL := Lib.hid hall
      clear hrel hall
      by_cases hj : j < n
      · have hji : (j : Int) < (n : Int) := by omega
        have hjl : j < l.length := by rw [HN.out]; exact hj
        obtain ⟨g, off, rfl, hK, hg, hel⟩ := HROW.out (by omega)
        obtain ⟨cs, hcl, hcs, hE⟩ := hel j hjl
        obtain ⟨x, hx⟩ : ∃ x, l[j] = x := ⟨_, rfl⟩
        have HX := Lib.hid hx
        rw [hx] at hE
        obtain ⟨hE, hxl, _⟩ := hE
        have e0 : wr.cell? ⟨g, off + j * 3, none⟩ = some (.bool x.isText) := (cell_of_heap (hf.block g hg id)).trans (by have := hcs 0 (by decide); rw [hE] at this; simpa using this)
        have e1 : wr.cell? ⟨g, off + j * 3 + 1, none⟩ = some (sv x.text) := (cell_of_heap (hf.block g hg id)).trans (by have := hcs 1 (by decide); rw [hE] at this; simpa using this)
        have e2 : wr.cell? ⟨g, off + j * 3 + 2, none⟩ = some (.int .i64 x.int) := (cell_of_heap (hf.block g hg id)).trans (by have := hcs 2 (by decide); rw [hE] at this; simpa using this)
        obtain ⟨wn, hwn⟩ : ∃ wn, wr.alloc (.cells #[.bool x.isText, sv x.text, .int .i64 x.int] 47) = wn := ⟨_, rfl⟩
        obtain ⟨y, hy⟩ : ∃ y, wr.heap.size = y := ⟨_, rfl⟩
        have f1 : Fr No wr wn := by rw [← hwn]; exact (Fr.refl No wr).alloc _
        have hb : Blk wn y 47 #[.bool x.isText, sv x.text, .int .i64 x.int] := by rw [← hwn, ← hy]; exact Blk.new wr 47 _
        have c0 : wn.cell? ⟨y, 0, none⟩ = some (.bool x.isText) := hb.cell 0
        have c1 : wn.cell? ⟨y, 1, none⟩ = some (sv x.text) := hb.cell 1
        have c2 : wn.cell? ⟨y, 2, none⟩ = some (.int .i64 x.int) := hb.cell 2
        have HWN := Lib.hid hwn
        have HY := Lib.hid hy
        have HFN := Lib.hid (hf.trans f1 fun _ _ h => h)
        clear hb hwn hy f1
        have HC := Lib.hid (rvalue_any x wn)
        clear hcs hcl hel hK hf hE
        go_upto_region 6 with fail
        rw [HY.out, HWN.out]
        go_wp2_with fail
        refine HC.out.mono ?_
        rintro e w5 ⟨rfl, f5⟩
        have HF5 := Lib.hid (HFN.out.trans f5 fun _ _ h => h)
        clear f5
        cases hb : rightV x with
        | true =>
          have HT : Hid ((l.take (j + 1)).all rightV = true) := Lib.hid (by rw [take_all hjl HALL.out, HX.out, hb])
          clear hb
          go_wp2_with fail
          obtain ⟨g1, rfl⟩ : ∃ g1, gk = g1 + 1 := ⟨gk - 1, by omega⟩
          go_roundg g1
          case rel => exact Lib.hid ⟨j + 1, by go_num, by omega, HF5.out, HT.out⟩
          all_goals omega
        | false =>
          have HT : Hid (l.all rightV = false) := Lib.hid (take_bad hjl (by rw [HX.out]; exact hb))
          clear hb
          go_wp2_with fail
          go_ret
          exact ⟨by rw [HT.out]; rfl, HF5.out⟩
      · have hji : (n : Int) ≤ (j : Int) := by omega
        have HT : Hid (l.all rightV = true) := Lib.hid (by have := HALL.out; rwa [List.take_of_length_le (by rw [HN.out]; omega)] at this)
        have HFE := Lib.hid hf
        clear hf
        go_wp2_with fail
        go_ret
        exact ⟨by rw [HT.out]; rfl, HFE.out⟩
    · have k1 : (n < least) = False := eq_false (by omega)
      have k2 : (most < n) = True := eq_true (by omega)
      rw [decide_eq_false h2, Bool.and_false, Bool.false_and]
      go_wp2_with fail
      go_ret
      exact ⟨rfl, Fr.refl _ _⟩
  · have k1 : (n < least) = True := eq_true (by omega)
    rw [decide_eq_false h1, Bool.false_and, Bool.false_and]
    go_wp2_with fail
    go_ret
    exact ⟨rfl, Fr.refl _ _⟩

set_option maxRecDepth 100000 in
theorem rl140_any {K : Nat → Prop} {l : List Tx} {v : Value} (least most : Nat) {la ma : Int} (hla : la = (least : Nat)) (hma : ma = (most : Nat)) (w : World) (hp : Lr w) (h : RowE K w 1 (strG K w) v l) :
    Calls Tryz.prog 140 #[v, .int .i64 la, .int .i64 ma, .func (.func 40) #[] #[]] w (TellsB (rightL l least most isNameB) w) := by
  obtain ⟨A, c, rfl, hlc, hcm, hrow⟩ := h
  obtain ⟨n, hn⟩ : ∃ n, l.length = n := ⟨_, rfl⟩
  unfold rightL
  rw [hn] at hlc ⊢
  have HROW := Lib.hid hrow
  have HN := Lib.hid hn
  have HP := Lib.hid hp
  unfold maxLen at hcm
  clear hrow hp hn
  subst hla hma
  go_enter Tryz.func140, Tryz.ntmps140
  by_cases h1 : least ≤ n
  · by_cases h2 : n ≤ most
    · have k1 : (n < least) = False := eq_false (by omega)
      have k2 : (most < n) = False := eq_false (by omega)
      have HV : Hid ((decide (least ≤ n) && decide (n ≤ most) && l.all isNameB) = l.all isNameB) := Lib.hid (by rw [decide_eq_true h1, decide_eq_true h2]; rfl)
      rw [HV.out]
      go_wp2_with fail
      go_loopg [10, 23] n (fun k r10 r23 wr => Hid (∃ j : Nat, r23 = .int .i64 (j : Nat) ∧ j + k = n ∧ Fr No w wr ∧ (l.take j).all isNameB = true))
      case atStart => exact Lib.hid ⟨0, rfl, by omega, Fr.refl _ _, rfl⟩
      case round =>
      obtain ⟨j, rfl, hjn, hf, hall⟩ := hrel.out
      have HALL := Lib.hid hall
      clear hrel hall
      by_cases hj : j < n
      · have hji : (j : Int) < (n : Int) := by omega
        have hjl : j < l.length := by rw [HN.out]; exact hj
        obtain ⟨g, off, rfl, hK, hg, hel⟩ := HROW.out (by omega)
        obtain ⟨cs, hcl, hcs, hE⟩ := hel j hjl
        obtain ⟨x, hx⟩ : ∃ x, l[j] = x := ⟨_, rfl⟩
        have HX := Lib.hid hx
        rw [hx] at hE
        obtain ⟨hE, hxl⟩ := hE
        have e0 : wr.cell? ⟨g, off + j, none⟩ = some (sv x) := (cell_of_heap (hf.block g hg id)).trans (by have := hcs 0 (by decide); rw [hE] at this; simpa using this)
        have HFN : Hid (Fr No w wr) := Lib.hid hf
        have HC := Lib.hid (iname_any x wr (HP.out.no HFN.out) hxl)
        clear hcs hcl hel hK hf hE
        go_wp2_with fail
        refine HC.out.mono ?_
        rintro e w5 ⟨rfl, f5⟩
        have HF5 := Lib.hid (HFN.out.trans f5 fun _ _ h => h)
        clear f5
        cases hb : isNameB x with
        | true =>
          have HT : Hid ((l.take (j + 1)).all isNameB = true) := Lib.hid (by rw [take_all hjl HALL.out, HX.out, hb])
          clear hb
          go_wp2_with fail
          obtain ⟨g1, rfl⟩ : ∃ g1, gk = g1 + 1 := ⟨gk - 1, by omega⟩
          go_roundg g1
          case rel => exact Lib.hid ⟨j + 1, by go_num, by omega, HF5.out, HT.out⟩
          all_goals omega
        | false =>
          have HT : Hid (l.all isNameB = false) := Lib.hid (take_bad hjl (by rw [HX.out]; exact hb))
          clear hb
          go_wp2_with fail
          go_ret
          exact ⟨by rw [HT.out]; rfl, HF5.out⟩
      · have hji : (n : Int) ≤ (j : Int) := by omega
        have HT : Hid (l.all isNameB = true) := Lib.hid (by have := HALL.out; rwa [List.take_of_length_le (by rw [HN.out]; omega)] at this)
        have HFE := Lib.hid hf
        clear hf
        go_wp2_with fail
        go_ret
        exact ⟨by rw [HT.out]; rfl, HFE.out⟩
    · have k1 : (n < least) = False := eq_false (by omega)
      have k2 : (most < n) = True := eq_true (by omega)
      rw [decide_eq_false h2, Bool.and_false, Bool.false_and]
      go_wp2_with fail
      go_ret
      exact ⟨rfl, Fr.refl _ _⟩
  · have k1 : (n < least) = True := eq_true (by omega)
    rw [decide_eq_false h1, Bool.false_and, Bool.false_and]
    go_wp2_with fail
    go_ret
    exact ⟨rfl, Fr.refl _ _⟩
end Go.Proofs.YtpdfenpmnpoehaaGreatDoor
