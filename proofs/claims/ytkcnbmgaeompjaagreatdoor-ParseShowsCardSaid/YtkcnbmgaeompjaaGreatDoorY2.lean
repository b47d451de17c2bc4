/- The document's Right: names, values, lists of names, elements. -/
import Derived.Test.YtkcnbmgaeompjaaGreatDoorY1
import Derived.Test.YtkcnbmgaeompjaaGreatDoorGU
namespace Go.Proofs.YtkcnbmgaeompjaaGreatDoor
open Go.RowKit Go.Maps
set_option linter.unusedVariables false

theorem dname_any (t : Tx) (w : World) (ht : t.length ≤ maxLen) : Calls Tryz.prog 43 #[sv t] w (TellsB (isNameB t) w) := by
  by_cases h : t.length ≤ 5000
  · refine (refName_any ⟨t.toArray⟩ w (by rw [sz]; exact h)).mono ?_
    rintro e w' ⟨h1, h2⟩
    refine ⟨?_, h2⟩
    rw [h1, ← nameB_eq]
  · have hv : isNameB t = false := by
      unfold isNameB
      rw [decide_eq_false (by omega), Bool.and_false]
    rw [hv]
    have hsz : (⟨t.toArray⟩ : ByteArray).size = t.length := sz t
    have hgt : (32 : Int) < (t.length : Int) := by omega
    have hne : ((⟨t.toArray⟩ : ByteArray) == ⟨#[]⟩) = false := by
      cases t with
      | nil => simp at h
      | cons a l => rfl
    have hie : t.isEmpty = false := by
      cases t with
      | nil => simp at h
      | cons a l => rfl
    unfold maxLen at ht
    clear hv h
    go_enter Tryz.func43, Tryz.ntmps43
    go_wp2_with fail
    go_ret
    exact ⟨rfl, Fr.refl _ _⟩
theorem dvalue_any (v : Vl) (w : World) : Calls Tryz.prog 103 #[.agg #[.bool v.isText, sv v.text, .int .i64 v.int]] w (TellsB (rightV v) w) := by
  obtain ⟨it, t, n⟩ := v
  unfold rightV
  simp only
  obtain ⟨w1, hw1⟩ : ∃ w1, w.alloc (.cells #[.bool it, sv t, .int .i64 n] 47) = w1 := ⟨_, rfl⟩
  obtain ⟨y, hy⟩ : ∃ y, w.heap.size = y := ⟨_, rfl⟩
  have f1 : Fr No w w1 := by rw [← hw1]; exact (Fr.refl No w).alloc _
  have hb : Blk w1 y 47 #[.bool it, sv t, .int .i64 n] := by rw [← hw1, ← hy]; exact Blk.new w 47 _
  have c0 : w1.cell? ⟨y, 0, none⟩ = some (.bool it) := hb.cell 0
  have c1 : w1.cell? ⟨y, 1, none⟩ = some (sv t) := hb.cell 1
  have c2 : w1.cell? ⟨y, 2, none⟩ = some (.int .i64 n) := hb.cell 2
  have F1 := Lib.hid f1
  have HW1 := Lib.hid hw1
  have HY := Lib.hid hy
  clear f1 hb hw1 hy
  have HSZ := Lib.hid (sz t)
  go_enter Tryz.func103, Tryz.ntmps103
  go_upto_region 1 with fail
  rw [HW1.out, HY.out]
  go_wp2_with fail
  all_goals
    go_ret
    exact ⟨(by first | rfl | (simp; done) | (simp_all; done) | (simp_all; omega) | (simp; omega)), F1.out⟩
set_option maxRecDepth 100000 in
theorem dnamed_any {K : Nat → Prop} {l : List Tx} {v : Value} (least most : Nat) {la ma : Int} (hla : la = (least : Nat)) (hma : ma = (most : Nat)) (w : World) (h : RowE K w 1 (strG K w) v l) :
    Calls Tryz.prog 102 #[v, .int .i64 la, .int .i64 ma] w (TellsB (rightL l least most isNameB) w) := by
  obtain ⟨A, c, rfl, hlc, hcm, hrow⟩ := h
  obtain ⟨n, hn⟩ : ∃ n, l.length = n := ⟨_, rfl⟩
  unfold rightL
  rw [hn] at hlc ⊢
  have HROW := Lib.hid hrow
  have HN := Lib.hid hn
  unfold maxLen at hcm
  clear hrow hn
  subst hla hma
  go_enter Tryz.func102, Tryz.ntmps102
  by_cases h1 : least ≤ n
  · by_cases h2 : n ≤ most
    · have k1 : (n < least) = False := eq_false (by omega)
      have k2 : (most < n) = False := eq_false (by omega)
      have HV : Hid ((decide (least ≤ n) && decide (n ≤ most) && l.all isNameB) = l.all isNameB) := Lib.hid (by rw [decide_eq_true h1, decide_eq_true h2]; rfl)
      rw [HV.out]
      go_wp2_with fail
      go_loopg [7, 8] n (fun k r23 r8 wr => Hid (∃ j : Nat, r23 = .int .i64 (j : Nat) ∧ j + k = n ∧ Fr No w wr ∧ (l.take j).all isNameB = true))
      case atStart => exact Lib.hid ⟨0, rfl, by omega, Fr.refl _ _, rfl⟩
      case round =>
      obtain ⟨j, rfl, hjn, hf, hall⟩ := hrel.out
      have HALL := Lib.hid hall
      clear hrel hall
      by_cases hj : j < n
      · have hji : (j : Int) < (n : Int) := by omega
        have hjl : j < l.length := by rw [HN.out]; exact hj
        obtain ⟨g, off, rfl, hK, hg, hel⟩ := HROW.out (by omega)
        obtain ⟨cs, hcl, hcs, hE⟩ := hel j hjl
        obtain ⟨x, hx⟩ : ∃ x, l[j] = x := ⟨_, rfl⟩
        have HX := Lib.hid hx
        rw [hx] at hE
        obtain ⟨hE, hxl⟩ := hE
        have e0 : wr.cell? ⟨g, off + j, none⟩ = some (sv x) := (cell_of_heap (hf.block g hg id)).trans (by have := hcs 0 (by decide); rw [hE] at this; simpa using this)
        have HFN : Hid (Fr No w wr) := Lib.hid hf
        have HC := Lib.hid (dname_any x wr hxl)
        clear hcs hcl hel hK hf hE
        go_wp2_with fail
        refine HC.out.mono ?_
        rintro e w5 ⟨rfl, f5⟩
        have HF5 := Lib.hid (HFN.out.trans f5 fun _ _ h => h)
        clear f5
        cases hb : isNameB x with
        | true =>
          have HT : Hid ((l.take (j + 1)).all isNameB = true) := Lib.hid (by rw [take_all hjl HALL.out, HX.out, hb])
          clear hb
          go_wp2_with fail
          obtain ⟨g1, rfl⟩ : ∃ g1, gk = g1 + 1 := ⟨gk - 1, by omega⟩
          go_roundg g1
          case rel => exact Lib.hid ⟨j + 1, by go_num, by omega, HF5.out, HT.out⟩
          all_goals omega
        | false =>
          have HT : Hid (l.all isNameB = false) := Lib.hid (take_bad hjl (by rw [HX.out]; exact hb))
          clear hb
          go_wp2_with fail
          go_ret
          exact ⟨by rw [HT.out]; rfl, HF5.out⟩
      · have hji : (n : Int) ≤ (j : Int) := by omega
        have HT : Hid (l.all isNameB = true) := Lib.hid (by have := HALL.out; rwa [List.take_of_length_le (by rw [HN.out]; omega)] at this)
        have HFE := Lib.hid hf
        clear hf
        go_wp2_with fail
        go_ret
        exact ⟨by rw [HT.out]; rfl, HFE.out⟩
    · have k1 : (n < least) = False := eq_false (by omega)
      have k2 : (most < n) = True := eq_true (by omega)
      rw [decide_eq_false h2, Bool.and_false, Bool.false_and]
      go_wp2_with fail
      go_ret
      exact ⟨rfl, Fr.refl _ _⟩
  · have k1 : (n < least) = True := eq_true (by omega)
    rw [decide_eq_false h1, Bool.false_and, Bool.false_and]
    go_wp2_with fail
    go_ret
    exact ⟨rfl, Fr.refl _ _⟩
set_option maxRecDepth 100000 in
theorem dgroup_any {K : Nat → Prop} (v : Gp) {a b : Value} (w : World) (hA : RowE K w 1 (strG K w) a v.cols) (hB : RowE K w 1 (lsG K w) b v.sets) : Calls Tryz.prog 44 #[.agg #[.int .i64 v.kind, a, b]] w (TellsB (rightG v) w) := by
  obtain ⟨kind, cols, sets⟩ := v
  simp only at hA hB ⊢
  obtain ⟨A1, c1, rfl⟩ : ∃ A1 c1, a = .slice A1 cols.length c1 := by obtain ⟨A1, c1, e, _⟩ := hA; exact ⟨_, _, e⟩
  have hB0 := hB
  obtain ⟨A2, c2, rfl, hlc, hcm, hrow⟩ := hB0
  obtain ⟨w1, hw1⟩ : ∃ w1, w.alloc (.cells #[.int .i64 kind, .slice A1 cols.length c1, .slice A2 sets.length c2] 66) = w1 := ⟨_, rfl⟩
  obtain ⟨y, hy⟩ : ∃ y, w.heap.size = y := ⟨_, rfl⟩
  have f1 : Fr No w w1 := by rw [← hw1]; exact (Fr.refl No w).alloc _
  have hb : Blk w1 y 66 #[.int .i64 kind, .slice A1 cols.length c1, .slice A2 sets.length c2] := by rw [← hw1, ← hy]; exact Blk.new w 66 _
  have d0 : w1.cell? ⟨y, 0, none⟩ = some (.int .i64 kind) := hb.cell 0
  have d1 : w1.cell? ⟨y, 1, none⟩ = some (.slice A1 cols.length c1) := hb.cell 1
  have d2 : w1.cell? ⟨y, 2, none⟩ = some (.slice A2 sets.length c2) := hb.cell 2
  have F1 := Lib.hid f1
  have HW1 := Lib.hid hw1
  have HY := Lib.hid hy
  have HC1 := Lib.hid (dnamed_any 1 1 (la := 1) (ma := 1) rfl rfl w1 (hA.at_ strG_elem f1))
  have HC2 := Lib.hid (dnamed_any 1 16 (la := 1) (ma := 16) rfl rfl w1 (hA.at_ strG_elem f1))
  have HROW := Lib.hid ((hB.at_ lsG_elem f1))
  have HBLK := Lib.hid hb
  have HEND : Hid (∀ (bb : Bool) e w2, rightG ⟨kind, cols, sets⟩ = bb → e = .returned (.bool bb) → Fr No w1 w2 → TellsB (rightG ⟨kind, cols, sets⟩) w e w2) := Lib.hid fun bb e w2 h1 h2 h3 => ⟨by rw [h2, h1], f1.trans h3 fun _ _ h => h⟩
  unfold maxLen at hcm
  clear f1 hb hw1 hy hA hB hrow
  go_enter Tryz.func44, Tryz.ntmps44
  go_upto_region 1 with fail
  rw [HW1.out, HY.out]
  by_cases k1 : kind = 1
  · subst k1
    cases sets with
    | nil =>
      have HV : Hid (rightG ⟨1, cols, []⟩ = rightL cols 1 1 isNameB) := Lib.hid (by unfold rightG; simp)
      go_wp2_with fail
      refine HC1.out.mono ?_
      rintro e w5 ⟨rfl, f5⟩
      have HF5 := Lib.hid f5
      clear f5
      go_wp2_with fail
      go_ret
      exact HEND.out _ _ _ HV.out rfl HF5.out
    | cons s sets =>
      have HV : Hid (rightG ⟨1, cols, s :: sets⟩ = false) := Lib.hid (by unfold rightG; simp)
      have z0 : ((((s :: sets).length : Nat) : Int) == 0) = false := by simp; omega
      go_wp2_with fail
      go_ret
      exact HEND.out _ _ _ HV.out rfl (Fr.refl _ _)
  · have k1' : (kind == 1) = false := by simpa using k1
    by_cases k2 : kind = 2
    · subst k2
      cases sets with
      | nil =>
        have HV : Hid (rightG ⟨2, cols, []⟩ = rightL cols 1 16 isNameB) := Lib.hid (by unfold rightG; simp)
        go_wp2_with fail
        refine HC2.out.mono ?_
        rintro e w5 ⟨rfl, f5⟩
        have HF5 := Lib.hid f5
        clear f5
        go_wp2_with fail
        go_ret
        exact HEND.out _ _ _ HV.out rfl HF5.out
      | cons s sets =>
        have HV : Hid (rightG ⟨2, cols, s :: sets⟩ = false) := Lib.hid (by unfold rightG; simp)
        have z0 : ((((s :: sets).length : Nat) : Int) == 0) = false := by simp; omega
        go_wp2_with fail
        go_ret
        exact HEND.out _ _ _ HV.out rfl (Fr.refl _ _)
    · have k2' : (kind == 2) = false := by simpa using k2
      by_cases k3 : kind = 3
      · subst k3
        cases sets with
        | nil =>
          have HV : Hid (rightG ⟨3, cols, []⟩ = rightL cols 1 16 isNameB) := Lib.hid (by unfold rightG; simp)
          go_wp2_with fail
          refine HC2.out.mono ?_
          rintro e w5 ⟨rfl, f5⟩
          have HF5 := Lib.hid f5
          clear f5
          go_wp2_with fail
          go_ret
          exact HEND.out _ _ _ HV.out rfl HF5.out
        | cons s sets =>
          have HV : Hid (rightG ⟨3, cols, s :: sets⟩ = false) := Lib.hid (by unfold rightG; simp)
          have z0 : ((((s :: sets).length : Nat) : Int) == 0) = false := by simp; omega
          go_wp2_with fail
          go_ret
          exact HEND.out _ _ _ HV.out rfl (Fr.refl _ _)
      · have k3' : (kind == 3) = false := by simpa using k3
        by_cases k4 : kind = 4
        · subst k4
          cases cols with
          | cons s cols =>
            have HV : Hid (rightG ⟨4, s :: cols, sets⟩ = false) := Lib.hid (by unfold rightG; simp)
            have z0 : ((((s :: cols).length : Nat) : Int) == 0) = false := by simp; omega
            go_wp2_with fail
            go_ret
            exact HEND.out _ _ _ HV.out rfl (Fr.refl _ _)
          | nil =>
            have HV : Hid (rightG ⟨4, [], sets⟩ = rightL sets 1 64 setB) := Lib.hid (by unfold rightG; simp; rfl)
            obtain ⟨n, hn⟩ : ∃ n, sets.length = n := ⟨_, rfl⟩
            have HN := Lib.hid hn
            rw [hn] at hlc d2
            have HLC : Hid (rightL sets 1 64 setB = (decide (1 ≤ n) && decide (n ≤ 64) && sets.all setB)) := Lib.hid (by unfold rightL; rw [hn])
            clear hn
            by_cases h1 : 1 ≤ n
            · by_cases h2 : n ≤ 64
              · have k1 : ((n : Int) < 1) = False := eq_false (by omega)
                have k2 : ((64 : Int) < n) = False := eq_false (by omega)
                have HV2 : Hid (rightG ⟨4, [], sets⟩ = sets.all setB) := Lib.hid (by rw [HV.out, HLC.out, decide_eq_true h1, decide_eq_true h2]; rfl)
                go_wp2_with fail
                go_loopg [3, 4] n (fun k r23 r8 wr => Hid (∃ j : Nat, r23 = .int .i64 (j : Nat) ∧ j + k = n ∧ Fr No w1 wr ∧ (sets.take j).all setB = true))
                case atStart => exact Lib.hid ⟨0, rfl, by omega, Fr.refl _ _, rfl⟩
                case round =>
                obtain ⟨j, rfl, hjn, hf, hall⟩ := hrel.out
                have HALL := Lib.hid hall
                clear hrel hall
                have q2 : wr.cell? ⟨y, 2, none⟩ = some (.slice A2 n c2) := (cell_of_heap (hf.block y HBLK.out.lt id)).trans d2
                by_cases hj : j < n
                · have hji : (j : Int) < (n : Int) := by omega
                  have hjl : j < sets.length := by rw [HN.out]; exact hj
                  obtain ⟨A, c, e, _, _, hrow⟩ := HROW.out
                  obtain ⟨rfl, -, rfl⟩ : A2 = A ∧ True ∧ c2 = c := by injection e with e1 e2 e3; exact ⟨e1, trivial, e3⟩
                  obtain ⟨g, off, rfl, hK, hg, hel⟩ := hrow (by omega)
                  obtain ⟨cs, hcl, hcs, hE⟩ := hel j hjl
                  obtain ⟨x, hx⟩ : ∃ x, sets[j] = x := ⟨_, rfl⟩
                  have HX := Lib.hid hx
                  rw [hx] at hE
                  obtain ⟨v0, hE, _, hR⟩ := hE
                  obtain ⟨A1', n1, c1', rfl⟩ : ∃ A1 n1 c1, v0 = .slice A1 n1 c1 := by obtain ⟨A1, c1, e, _⟩ := hR; exact ⟨_, _, _, e⟩
                  have e0 : wr.cell? ⟨g, off + j, none⟩ = some (.slice A1' n1 c1') := (cell_of_heap (hf.block g hg id)).trans (by have := hcs 0 (by decide); rw [hE] at this; simpa using this)
                  have HFN : Hid (Fr No w1 wr) := Lib.hid hf
                  have HC := Lib.hid (dnamed_any 0 16 (la := 0) (ma := 16) rfl rfl wr (hR.at_ strG_elem HFN.out))
                  clear hcs hcl hel hK hf hE hR hrow e
                  go_wp2_with fail
                  refine HC.out.mono ?_
                  rintro e w5 ⟨rfl, f5⟩
                  have HF5 := Lib.hid (HFN.out.trans f5 fun _ _ h => h)
                  clear f5
                  cases hb : rightL x 0 16 isNameB with
                  | true =>
                    have HT : Hid ((sets.take (j + 1)).all setB = true) := Lib.hid (by rw [take_all hjl HALL.out, HX.out]; exact hb)
                    clear hb
                    go_wp2_with fail
                    obtain ⟨g1, rfl⟩ : ∃ g1, gk = g1 + 1 := ⟨gk - 1, by omega⟩
                    go_roundg g1
                    case rel => exact Lib.hid ⟨j + 1, by go_num, by omega, HF5.out, HT.out⟩
                    all_goals omega
                  | false =>
                    have HT : Hid (sets.all setB = false) := Lib.hid (take_bad hjl (by rw [HX.out]; exact hb))
                    clear hb
                    go_wp2_with fail
                    go_ret
                    exact HEND.out _ _ _ HV2.out (by rw [HT.out]; rfl) HF5.out
                · have hji : (n : Int) ≤ (j : Int) := by omega
                  have HT : Hid (sets.all setB = true) := Lib.hid (by have := HALL.out; rwa [List.take_of_length_le (by rw [HN.out]; omega)] at this)
                  have HFE := Lib.hid hf
                  clear hf
                  go_wp2_with fail
                  go_ret
                  exact HEND.out _ _ _ HV2.out (by rw [HT.out]; rfl) HFE.out
              · have HV2 : Hid (rightG ⟨4, [], sets⟩ = false) := Lib.hid (by rw [HV.out, HLC.out, decide_eq_false h2, Bool.and_false, Bool.false_and])
                have h1i : (1 : Int) ≤ (n : Int) := by omega
                have h2i : (64 : Int) < (n : Int) := by omega
                go_wp2_with fail
                go_ret
                exact HEND.out _ _ _ HV2.out rfl (Fr.refl _ _)
            · have HV2 : Hid (rightG ⟨4, [], sets⟩ = false) := Lib.hid (by rw [HV.out, HLC.out, decide_eq_false h1, Bool.false_and, Bool.false_and])
              have h1i : (n : Int) < 1 := by omega
              go_wp2_with fail
              go_ret
              exact HEND.out _ _ _ HV2.out rfl (Fr.refl _ _)
        · have k4' : (kind == 4) = false := by simpa using k4
          have HV : Hid (rightG ⟨kind, cols, sets⟩ = false) := Lib.hid (by unfold rightG; simp [k1, k2, k3, k4])
          go_wp2_with fail
          go_ret
          exact HEND.out _ _ _ HV.out rfl (Fr.refl _ _)
end Go.Proofs.YtkcnbmgaeompjaaGreatDoor
