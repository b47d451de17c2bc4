/- Whether a query may be: elements, lists of them. -/
import Derived.Test.YtpdfenpmnpoehaaGreatDoorR3
namespace Go.Proofs.YtpdfenpmnpoehaaGreatDoor
open Go.RowKit Go.Maps
set_option linter.unusedVariables false

set_option maxRecDepth 100000 in
theorem rgroup_any {K : Nat → Prop} (v : Gp) {a b : Value} (w : World) (hp : Lr w) (hA : RowE K w 1 (strG K w) a v.cols) (hB : RowE K w 1 (lsG K w) b v.sets) : Calls Tryz.prog 98 #[.agg #[.int .i64 v.kind, a, b]] w (TellsB (rightG v) w) := by
  obtain ⟨kind, cols, sets⟩ := v
  simp only at hA hB ⊢
  obtain ⟨A1, c1, rfl⟩ : ∃ A1 c1, a = .slice A1 cols.length c1 := by obtain ⟨A1, c1, e, _⟩ := hA; exact ⟨_, _, e⟩
  obtain ⟨A2, c2, rfl⟩ : ∃ A2 c2, b = .slice A2 sets.length c2 := by obtain ⟨A2, c2, e, _⟩ := hB; exact ⟨_, _, e⟩
  obtain ⟨w1, hw1⟩ : ∃ w1, w.alloc (.cells #[.int .i64 kind, .slice A1 cols.length c1, .slice A2 sets.length c2] 66) = w1 := ⟨_, rfl⟩
  obtain ⟨y, hy⟩ : ∃ y, w.heap.size = y := ⟨_, rfl⟩
  have f1 : Fr No w w1 := by rw [← hw1]; exact (Fr.refl No w).alloc _
  have hb : Blk w1 y 66 #[.int .i64 kind, .slice A1 cols.length c1, .slice A2 sets.length c2] := by rw [← hw1, ← hy]; exact Blk.new w 66 _
  have d0 : w1.cell? ⟨y, 0, none⟩ = some (.int .i64 kind) := hb.cell 0
  have d1 : w1.cell? ⟨y, 1, none⟩ = some (.slice A1 cols.length c1) := hb.cell 1
  have d2 : w1.cell? ⟨y, 2, none⟩ = some (.slice A2 sets.length c2) := hb.cell 2
  have F1 := Lib.hid f1
  have HW1 := Lib.hid hw1
  have HY := Lib.hid hy
  have HC1 := Lib.hid (rl140_any 1 1 (la := 1) (ma := 1) rfl rfl w1 (hp.no f1) (hA.at_ strG_elem f1))
  have HC2 := Lib.hid (rl140_any 1 16 (la := 1) (ma := 16) rfl rfl w1 (hp.no f1) (hA.at_ strG_elem f1))
  have HC3 := Lib.hid (rl141_any 1 64 (la := 1) (ma := 64) rfl rfl w1 (hp.no f1) (hB.at_ lsG_elem f1))
  have HEND : Hid (∀ (bb : Bool) e w2, rightG ⟨kind, cols, sets⟩ = bb → e = .returned (.bool bb) → Fr No w1 w2 → TellsB (rightG ⟨kind, cols, sets⟩) w e w2) := Lib.hid fun bb e w2 h1 h2 h3 => ⟨by rw [h2, h1], f1.trans h3 fun _ _ h => h⟩
  clear f1 hb hw1 hy hp hA hB
  go_enter Tryz.func98, Tryz.ntmps98
  go_upto_region 1 with fail
  rw [HW1.out, HY.out]
  by_cases k1 : kind = 1
  · subst k1
    cases sets with
    | nil =>
      have HV : Hid (rightG ⟨1, cols, []⟩ = rightL cols 1 1 isNameB) := Lib.hid (by unfold rightG; simp)
      go_wp2_with fail
      refine HC1.out.mono ?_
      rintro e w5 ⟨rfl, f5⟩
      have HF5 := Lib.hid f5
      clear f5
      go_wp2_with fail
      go_ret
      exact HEND.out _ _ _ HV.out rfl HF5.out
    | cons s sets =>
      have HV : Hid (rightG ⟨1, cols, s :: sets⟩ = false) := Lib.hid (by unfold rightG; simp)
      have z0 : ((((s :: sets).length : Nat) : Int) == 0) = false := by simp; omega
      go_wp2_with fail
      go_ret
      exact HEND.out _ _ _ HV.out rfl (Fr.refl _ _)
  · have k1' : (kind == 1) = false := by simpa using k1
    by_cases k2 : kind = 2
    · subst k2
      cases sets with
      | nil =>
        have HV : Hid (rightG ⟨2, cols, []⟩ = rightL cols 1 16 isNameB) := Lib.hid (by unfold rightG; simp)
        go_wp2_with fail
        refine HC2.out.mono ?_
        rintro e w5 ⟨rfl, f5⟩
        have HF5 := Lib.hid f5
        clear f5
        go_wp2_with fail
        go_ret
        exact HEND.out _ _ _ HV.out rfl HF5.out
      | cons s sets =>
        have HV : Hid (rightG ⟨2, cols, s :: sets⟩ = false) := Lib.hid (by unfold rightG; simp)
        have z0 : ((((s :: sets).length : Nat) : Int) == 0) = false := by simp; omega
        go_wp2_with fail
        go_ret
        exact HEND.out _ _ _ HV.out rfl (Fr.refl _ _)
    · have k2' : (kind == 2) = false := by simpa using k2
      by_cases k3 : kind = 3
      · subst k3
        cases sets with
        | nil =>
          have HV : Hid (rightG ⟨3, cols, []⟩ = rightL cols 1 16 isNameB) := Lib.hid (by unfold rightG; simp)
          go_wp2_with fail
          refine HC2.out.mono ?_
          rintro e w5 ⟨rfl, f5⟩
          have HF5 := Lib.hid f5
          clear f5
          go_wp2_with fail
          go_ret
          exact HEND.out _ _ _ HV.out rfl HF5.out
        | cons s sets =>
          have HV : Hid (rightG ⟨3, cols, s :: sets⟩ = false) := Lib.hid (by unfold rightG; simp)
          have z0 : ((((s :: sets).length : Nat) : Int) == 0) = false := by simp; omega
          go_wp2_with fail
          go_ret
          exact HEND.out _ _ _ HV.out rfl (Fr.refl _ _)
      · have k3' : (kind == 3) = false := by simpa using k3
        by_cases k4 : kind = 4
        · subst k4
          cases cols with
          | nil =>
            have HV : Hid (rightG ⟨4, [], sets⟩ = rightL sets 1 64 setB) := Lib.hid (by unfold rightG; simp; rfl)
            go_wp2_with fail
            refine HC3.out.mono ?_
            rintro e w5 ⟨rfl, f5⟩
            have HF5 := Lib.hid f5
            clear f5
            go_wp2_with fail
            go_ret
            exact HEND.out _ _ _ HV.out rfl HF5.out
          | cons s cols =>
            have HV : Hid (rightG ⟨4, s :: cols, sets⟩ = false) := Lib.hid (by unfold rightG; simp)
            have z0 : ((((s :: cols).length : Nat) : Int) == 0) = false := by simp; omega
            go_wp2_with fail
            go_ret
            exact HEND.out _ _ _ HV.out rfl (Fr.refl _ _)
        · have k4' : (kind == 4) = false := by simpa using k4
          have HV : Hid (rightG ⟨kind, cols, sets⟩ = false) := Lib.hid (by unfold rightG; simp [k1, k2, k3, k4])
          go_wp2_with fail
          go_ret
          exact HEND.out _ _ _ HV.out rfl (Fr.refl _ _)

set_option maxRecDepth 100000 in
theorem rl97_any {K : Nat → Prop} {l : List Gp} {v : Value} (least most : Nat) {la ma : Int} (hla : la = (least : Nat)) (hma : ma = (most : Nat)) (w : World) (hp : Lr w) (h : RowE K w 3 (gpG K w) v l) :
    Calls Tryz.prog 97 #[v, .int .i64 la, .int .i64 ma, .func (.func 98) #[] #[]] w (TellsB (rightL l least most rightG) w) := by
  obtain ⟨A, c, rfl, hlc, hcm, hrow⟩ := h
  obtain ⟨n, hn⟩ : ∃ n, l.length = n := ⟨_, rfl⟩
  unfold rightL
  rw [hn] at hlc ⊢
  have HROW := Lib.hid hrow
  have HN := Lib.hid hn
  have HP := Lib.hid hp
  unfold maxLen at hcm
  clear hrow hp hn
  subst hla hma
  go_enter Tryz.func97, Tryz.ntmps97
  by_cases h1 : least ≤ n
  · by_cases h2 : n ≤ most
    · have k1 : (n < least) = False := eq_false (by omega)
      have k2 : (most < n) = False := eq_false (by omega)
      have HV : Hid ((decide (least ≤ n) && decide (n ≤ most) && l.all rightG) = l.all rightG) := Lib.hid (by rw [decide_eq_true h1, decide_eq_true h2]; rfl)
      rw [HV.out]
      go_wp2_with fail
      go_loopg [10, 23] n (fun k r10 r23 wr => Hid (∃ j : Nat, r23 = .int .i64 (j : Nat) ∧ j + k = n ∧ Fr No w wr ∧ (l.take j).all rightG = true))
      case atStart => exact Lib.hid ⟨0, rfl, by omega, Fr.refl _ _, rfl⟩
      case round =>
      obtain ⟨j, rfl, hjn, hf, hall⟩ := hrel.out
      have HALL := Lib.hid hall
      clear hrel hall
      by_cases hj : j < n
      · have hji : (j : Int) < (n : Int) := by omega
        have hjl : j < l.length := by rw [HN.out]; exact hj
        obtain ⟨g, off, rfl, hK, hg, hel⟩ := HROW.out (by omega)
        obtain ⟨cs, hcl, hcs, hE⟩ := hel j hjl
        obtain ⟨x, hx⟩ : ∃ x, l[j] = x := ⟨_, rfl⟩
        have HX := Lib.hid hx
        rw [hx] at hE
        obtain ⟨a0, b0, hE, _, hRA, hRB⟩ := hE
        obtain ⟨A1, c1, rfl⟩ : ∃ A1 c1, a0 = .slice A1 x.cols.length c1 := by obtain ⟨A1, c1, e, _⟩ := hRA; exact ⟨_, _, e⟩
        obtain ⟨A2, c2, rfl⟩ : ∃ A2 c2, b0 = .slice A2 x.sets.length c2 := by obtain ⟨A2, c2, e, _⟩ := hRB; exact ⟨_, _, e⟩
        have e0 : wr.cell? ⟨g, off + j * 3, none⟩ = some (.int .i64 x.kind) := (cell_of_heap (hf.block g hg id)).trans (by have := hcs 0 (by decide); rw [hE] at this; simpa using this)
        have e1 : wr.cell? ⟨g, off + j * 3 + 1, none⟩ = some (.slice A1 x.cols.length c1) := (cell_of_heap (hf.block g hg id)).trans (by have := hcs 1 (by decide); rw [hE] at this; simpa using this)
        have e2 : wr.cell? ⟨g, off + j * 3 + 2, none⟩ = some (.slice A2 x.sets.length c2) := (cell_of_heap (hf.block g hg id)).trans (by have := hcs 2 (by decide); rw [hE] at this; simpa using this)
        obtain ⟨wn, hwn⟩ : ∃ wn, wr.alloc (.cells #[.int .i64 x.kind, .slice A1 x.cols.length c1, .slice A2 x.sets.length c2] 66) = wn := ⟨_, rfl⟩
        obtain ⟨y, hy⟩ : ∃ y, wr.heap.size = y := ⟨_, rfl⟩
        have f1 : Fr No wr wn := by rw [← hwn]; exact (Fr.refl No wr).alloc _
        have hb : Blk wn y 66 #[.int .i64 x.kind, .slice A1 x.cols.length c1, .slice A2 x.sets.length c2] := by rw [← hwn, ← hy]; exact Blk.new wr 66 _
        have m0 : wn.cell? ⟨y, 0, none⟩ = some (.int .i64 x.kind) := hb.cell 0
        have m1 : wn.cell? ⟨y, 1, none⟩ = some (.slice A1 x.cols.length c1) := hb.cell 1
        have m2 : wn.cell? ⟨y, 2, none⟩ = some (.slice A2 x.sets.length c2) := hb.cell 2
        have HWN := Lib.hid hwn
        have HY := Lib.hid hy
        have HFN := Lib.hid (hf.trans f1 fun _ _ h => h)
        clear hb hwn hy f1
        have HC := Lib.hid (rgroup_any x wn (HP.out.no HFN.out) (hRA.at_ strG_elem HFN.out) (hRB.at_ lsG_elem HFN.out))
        clear hcs hcl hel hK hf hE hRA hRB
        go_upto_region 6 with fail
        rw [HY.out, HWN.out]
        go_wp2_with fail
        refine HC.out.mono ?_
        rintro e w5 ⟨rfl, f5⟩
        have HF5 := Lib.hid (HFN.out.trans f5 fun _ _ h => h)
        clear f5
        cases hb : rightG x with
        | true =>
          have HT : Hid ((l.take (j + 1)).all rightG = true) := Lib.hid (by rw [take_all hjl HALL.out, HX.out, hb])
          clear hb
          go_wp2_with fail
          obtain ⟨g1, rfl⟩ : ∃ g1, gk = g1 + 1 := ⟨gk - 1, by omega⟩
          go_roundg g1
          case rel => exact Lib.hid ⟨j + 1, by go_num, by omega, HF5.out, HT.out⟩
          all_goals omega
        | false =>
          have HT : Hid (l.all rightG = false) := Lib.hid (take_bad hjl (by rw [HX.out]; exact hb))
          clear hb
          go_wp2_with fail
          go_ret
          exact ⟨by rw [HT.out]; rfl, HF5.out⟩
      · have hji : (n : Int) ≤ (j : Int) := by omega
        have HT : Hid (l.all rightG = true) := Lib.hid (by have := HALL.out; rwa [List.take_of_length_le (by rw [HN.out]; omega)] at this)
        have HFE := Lib.hid hf
        clear hf
        go_wp2_with fail
        go_ret
        exact ⟨by rw [HT.out]; rfl, HFE.out⟩
    · have k1 : (n < least) = False := eq_false (by omega)
      have k2 : (most < n) = True := eq_true (by omega)
      rw [decide_eq_false h2, Bool.and_false, Bool.false_and]
      go_wp2_with fail
      go_ret
      exact ⟨rfl, Fr.refl _ _⟩
  · have k1 : (n < least) = True := eq_true (by omega)
    rw [decide_eq_false h1, Bool.false_and, Bool.false_and]
    go_wp2_with fail
    go_ret
    exact ⟨rfl, Fr.refl _ _⟩

theorem ritems_any {K : Nat → Prop} {l : List It} {v : Value} (w : World) (hp : Lr w) (h : RowE K w 2 (itG K w) v l) : Calls Tryz.prog 39 #[v] w (TellsB (rightL l 1 16 rightI) w) := by
  have HC := Lib.hid (rl90_any 1 16 (la := 1) (ma := 16) rfl rfl w hp h)
  obtain ⟨A, c, rfl, _⟩ := h
  go_enter Tryz.func39, Tryz.ntmps39
  go_wp2_with fail
  refine HC.out.mono ?_
  rintro e w5 ⟨rfl, f5⟩
  have HF5 := Lib.hid f5
  clear f5
  go_wp2_with fail
  go_ret
  exact ⟨rfl, HF5.out⟩
theorem rgroups_any {K : Nat → Prop} {A1 px : Option Addr} {n1 c1 : Nat} {t : Tx} {g : Bool} {gs : List Gp} {G : Value} (w : World) (hp : Lr w) (hgr : RowE K w 3 (gpG K w) G gs) : Calls Tryz.prog 42 #[.agg #[.slice A1 n1 c1, sv t, .pointer px, .bool g, G]] w (TellsB (if g then rightL gs 1 16 rightG else gs.isEmpty) w) := by
  obtain ⟨A2, c2, rfl⟩ : ∃ A2 c2, G = .slice A2 gs.length c2 := by obtain ⟨A2, c2, e, _⟩ := hgr; exact ⟨_, _, e⟩
  obtain ⟨w1, hw1⟩ : ∃ w1, w.alloc (.cells #[.slice A1 n1 c1, sv t, .pointer px, .bool g, .slice A2 gs.length c2] 27) = w1 := ⟨_, rfl⟩
  obtain ⟨y, hy⟩ : ∃ y, w.heap.size = y := ⟨_, rfl⟩
  have f1 : Fr No w w1 := by rw [← hw1]; exact (Fr.refl No w).alloc _
  have hb : Blk w1 y 27 #[.slice A1 n1 c1, sv t, .pointer px, .bool g, .slice A2 gs.length c2] := by rw [← hw1, ← hy]; exact Blk.new w 27 _
  have d0 : w1.cell? ⟨y, 0, none⟩ = some (.slice A1 n1 c1) := hb.cell 0
  have d1 : w1.cell? ⟨y, 1, none⟩ = some (sv t) := hb.cell 1
  have d2 : w1.cell? ⟨y, 2, none⟩ = some (.pointer px) := hb.cell 2
  have d3 : w1.cell? ⟨y, 3, none⟩ = some (.bool g) := hb.cell 3
  have d4 : w1.cell? ⟨y, 4, none⟩ = some (.slice A2 gs.length c2) := hb.cell 4
  have F1 := Lib.hid f1
  have HW1 := Lib.hid hw1
  have HY := Lib.hid hy
  have HC := Lib.hid (rl97_any 1 16 (la := 1) (ma := 16) rfl rfl w1 (hp.no f1) (hgr.at_ gpG_elem f1))
  have HF1 := Lib.hid f1
  clear f1 hb hw1 hy hp hgr
  go_enter Tryz.func42, Tryz.ntmps42
  go_upto_region 1 with fail
  rw [HW1.out, HY.out]
  cases g with
  | true =>
    go_wp2_with fail
    refine HC.out.mono ?_
    rintro e w5 ⟨rfl, f5⟩
    have HF5 := Lib.hid (HF1.out.trans f5 fun _ _ h => h)
    clear f5
    go_wp2_with fail
    go_ret
    exact ⟨rfl, HF5.out⟩
  | false =>
    go_wp2_with fail
    go_ret
    exact ⟨by cases gs with | nil => simp | cons a l => simp; omega, HF1.out⟩
end Go.Proofs.YtpdfenpmnpoehaaGreatDoor
