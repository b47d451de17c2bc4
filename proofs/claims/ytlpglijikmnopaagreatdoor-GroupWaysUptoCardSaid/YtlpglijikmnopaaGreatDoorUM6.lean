/- How two texts lie to one another, as the document counts. -/
import Derived.Test.YtlpglijikmnopaaGreatDoorUM5
import Derived.Deep.QuietTactic
import Derived.BigQuiet
namespace Go.Proofs.YtlpglijikmnopaaGreatDoor.Bd
open Go.RowKit Go.Maps Go.Sort
set_option linter.unusedVariables false

theorem cmp_cons (c : UInt8) (x y : Tx) : cmpS (c :: x) (c :: y) = cmpS x y := by
  unfold cmpS
  simp [Op.bytesLess]
theorem cmp_ne {c d : UInt8} (x y : Tx) (h : c ≠ d) : cmpS (c :: x) (d :: y) = if c < d then -1 else 1 := by
  unfold cmpS
  simp [Op.bytesLess, h]
theorem cmp_nil_l (y : Tx) : cmpS [] y = if y = [] then 0 else -1 := by
  cases y <;> simp [cmpS, Op.bytesLess]
theorem cmp_nil_r (x : Tx) : cmpS x [] = if x = [] then 0 else 1 := by
  cases x <;> simp [cmpS, Op.bytesLess]
theorem u8_lt_iff (c d : UInt8) : c < d ↔ (c.toNat : Int) < d.toNat := by rw [UInt8.lt_iff_toNat_lt]; omega
theorem u8_ne (c d : UInt8) : c = d ↔ c.toNat = d.toNat := ⟨fun h => by rw [h], fun h => UInt8.toNat_inj.1 h⟩
set_option maxRecDepth 100000 in
theorem texts_any (s t : ByteArray) (w : World) (hs : s.size ≤ maxLen) : Calls Tryz.prog 109 #[.string s, .string t] w (TellsI (cmpS s.data.toList t.data.toList) w) := by
  unfold maxLen at hs
  have HN := Lib.hid (fun x y w => numbers_any x y w)
  have HDS : Hid (∀ j (h : j < s.size), s.data.toList.drop j = s[j] :: s.data.toList.drop (j + 1)) := Lib.hid fun j h => by
    rw [List.drop_eq_getElem_cons (by simpa using h)]; rfl
  have HDT : Hid (∀ j (h : j < t.size), t.data.toList.drop j = t[j] :: t.data.toList.drop (j + 1)) := Lib.hid fun j h => by
    rw [List.drop_eq_getElem_cons (by simpa using h)]; rfl
  have HES : Hid (∀ j, s.size ≤ j → s.data.toList.drop j = []) := Lib.hid fun j h => List.drop_eq_nil_of_le (by simpa using h)
  have HET : Hid (∀ j, t.size ≤ j → t.data.toList.drop j = []) := Lib.hid fun j h => List.drop_eq_nil_of_le (by simpa using h)
  obtain ⟨X, hX⟩ : ∃ X, cmpS s.data.toList t.data.toList = X := ⟨_, rfl⟩
  have H0 : Hid (cmpS (s.data.toList.drop 0) (t.data.toList.drop 0) = X) := Lib.hid (by rw [List.drop_zero, List.drop_zero, hX])
  rw [hX]
  clear hX
  go_enter Tryz.func109, Tryz.ntmps109
  go_wp2_with fail
  go_loopg [5] s.size (fun k r5 wr => Hid (∃ j : Nat, r5 = .int .i64 (j : Nat) ∧ j + k = s.size ∧ j ≤ t.size ∧ Hid (Fr No w wr) ∧ cmpS (s.data.toList.drop j) (t.data.toList.drop j) = X))
  case atStart => exact Lib.hid ⟨0, rfl, by omega, by omega, Lib.hid (Fr.refl _ _), H0.out⟩
  case round =>
    obtain ⟨j, rfl, hjn, hjt, HFR, hall⟩ := hrel.out
    have HALL := Lib.hid hall
    clear hrel hall
    have hj0 : (0 : Int) ≤ (j : Int) := by omega
    by_cases hj : j < s.size
    · have hji : (j : Int) < (s.size : Int) := by omega
      by_cases hk : j < t.size
      · have hki : (j : Int) < (t.size : Int) := by omega
        have h1 := HDS.out j hj
        have h2 := HDT.out j hk
        by_cases he : s[j] = t[j]
        · have hb : ((s[j].toNat : Int) == (t[j].toNat : Int)) = true := by rw [he]; simp
          have HS : Hid (cmpS (s.data.toList.drop (j + 1)) (t.data.toList.drop (j + 1)) = X) := Lib.hid (by have := HALL.out; rw [h1, h2, he, cmp_cons] at this; exact this)
          clear h1 h2 he
          go_wp2_with fail
          go_quiet (fail)
          go_wp2_with fail
          obtain ⟨g1, rfl⟩ : ∃ g1, gk = g1 + 1 := ⟨gk - 1, by omega⟩
          go_roundg g1
          case rel => exact Lib.hid ⟨j + 1, by go_num, by omega, by omega, Lib.hid (HFR.out.drewN nq), HS.out⟩
          all_goals omega
        · have hb : ((s[j].toNat : Int) == (t[j].toNat : Int)) = false := by have : ¬ s[j].toNat = t[j].toNat := fun h => he ((u8_ne _ _).2 h); simp; omega
          have HS : Hid (X = if s[j] < t[j] then -1 else 1) := Lib.hid (by have := HALL.out; rw [h1, h2, cmp_ne _ _ he] at this; exact this.symm)
          clear h1 h2 he
          by_cases hl : s[j] < t[j]
          · have hl2 : ((s[j].toNat : Int) < (t[j].toNat : Int)) = True := eq_true ((u8_lt_iff _ _).1 hl)
            have HS2 : Hid (X = -1) := Lib.hid (by rw [HS.out, if_pos hl])
            clear hl
            go_wp2_with fail
            go_quiet (fail)
            have HFR2 := Lib.hid (HFR.out.drewN nq)
            clear HFR
            obtain ⟨wz, hwz⟩ : ∃ x, wr.drewN nq = x := ⟨_, rfl⟩
            rw [hwz] at HFR2 ⊢
            clear hwz
            go_wp2_with fail
            go_quiet (fail)
            go_wp2_with fail
            go_ret
            exact ⟨by rw [HS2.out]; rfl, HFR2.out.drewN _⟩
          · have hl2 : ((s[j].toNat : Int) < (t[j].toNat : Int)) = False := eq_false (fun h => hl ((u8_lt_iff _ _).2 h))
            have HS2 : Hid (X = 1) := Lib.hid (by rw [HS.out, if_neg hl])
            clear hl
            go_wp2_with fail
            go_quiet (fail)
            have HFR2 := Lib.hid (HFR.out.drewN nq)
            clear HFR
            obtain ⟨wz, hwz⟩ : ∃ x, wr.drewN nq = x := ⟨_, rfl⟩
            rw [hwz] at HFR2 ⊢
            clear hwz
            go_wp2_with fail
            go_quiet (fail)
            go_wp2_with fail
            go_ret
            exact ⟨by rw [HS2.out]; rfl, HFR2.out.drewN _⟩
      · have hki : ((j : Int) < (t.size : Int)) = False := eq_false (by omega)
        have HS : Hid (X = numI s.size t.size) := Lib.hid (by
          have := HALL.out
          rw [HDS.out j hj, HET.out j (by omega), cmp_nil_r, if_neg (by simp)] at this
          unfold numI; rw [if_neg (by omega), if_pos (by omega)]; exact this.symm)
        have HC := Lib.hid (HN.out s.size t.size wr)
        go_wp2_with fail
        refine HC.out.mono ?_
        rintro e w2 ⟨rfl, f2⟩
        have HF2 := Lib.hid (HFR.out.trans f2 fun _ _ h => h)
        clear f2
        go_wp2_with fail
        go_ret
        exact ⟨by rw [HS.out]; rfl, HF2.out⟩
    · have hji : ((j : Int) < (s.size : Int)) = False := eq_false (by omega)
      have HS : Hid (X = numI s.size t.size) := Lib.hid (by
        have h := HALL.out
        rw [HES.out j (by omega), cmp_nil_l] at h
        unfold numI
        by_cases he : t.size ≤ j
        · rw [HET.out j he, if_pos rfl] at h; rw [if_neg (by omega), if_neg (by omega)]; exact h.symm
        · rw [HDT.out j (by omega), if_neg (by simp)] at h; rw [if_pos (by omega)]; exact h.symm)
      have HC := Lib.hid (HN.out s.size t.size wr)
      go_wp2_with fail
      refine HC.out.mono ?_
      rintro e w2 ⟨rfl, f2⟩
      have HF2 := Lib.hid (HFR.out.trans f2 fun _ _ h => h)
      clear f2
      go_wp2_with fail
      go_ret
      exact ⟨by rw [HS.out]; rfl, HF2.out⟩
theorem textsS_any (a b : Tx) (w : World) (h : a.length ≤ maxLen) : Calls Tryz.prog 109 #[sv a, sv b] w (TellsI (cmpS a b) w) := texts_any ⟨a.toArray⟩ ⟨b.toArray⟩ w (by show a.toArray.size ≤ maxLen; simpa using h)
theorem rsays_any (op c : Int) (w : World) : Calls Tryz.prog 110 #[.int .i64 op, .int .i64 c] w (TellsB (isAsB op c) w) := by
  by_cases h1 : op = 1
  · subst h1
    go_enter Tryz.func110, Tryz.ntmps110
    go_wp2_with fail
    go_ret
    exact ⟨rfl, Fr.refl _ _⟩
  have k1 : (op == 1) = false := by simpa using h1
  by_cases h2 : op = 2
  · subst h2
    go_enter Tryz.func110, Tryz.ntmps110
    go_wp2_with fail
    go_ret
    exact ⟨rfl, Fr.refl _ _⟩
  have k2 : (op == 2) = false := by simpa using h2
  by_cases h3 : op = 3
  · subst h3
    go_enter Tryz.func110, Tryz.ntmps110
    go_wp2_with fail
    go_ret
    exact ⟨rfl, Fr.refl _ _⟩
  have k3 : (op == 3) = false := by simpa using h3
  by_cases h4 : op = 4
  · subst h4
    go_enter Tryz.func110, Tryz.ntmps110
    go_wp2_with fail
    go_ret
    exact ⟨rfl, Fr.refl _ _⟩
  have k4 : (op == 4) = false := by simpa using h4
  by_cases h5 : op = 5
  · subst h5
    go_enter Tryz.func110, Tryz.ntmps110
    go_wp2_with fail
    go_ret
    exact ⟨rfl, Fr.refl _ _⟩
  have k5 : (op == 5) = false := by simpa using h5
  by_cases h6 : op = 6
  · subst h6
    go_enter Tryz.func110, Tryz.ntmps110
    go_wp2_with fail
    go_ret
    exact ⟨rfl, Fr.refl _ _⟩
  have k6 : (op == 6) = false := by simpa using h6
  have HV : Hid (isAsB op c = false) := Lib.hid (by unfold isAsB; rw [if_neg h1, if_neg h2, if_neg h3, if_neg h4, if_neg h5, if_neg h6])
  go_enter Tryz.func110, Tryz.ntmps110
  go_wp2_with fail
  go_ret
  exact ⟨by rw [HV.out]; rfl, Fr.refl _ _⟩
end Go.Proofs.YtlpglijikmnopaaGreatDoor.Bd
namespace Go.Proofs.YtlpglijikmnopaaGreatDoor.Bd
open Go.RowKit Go.Maps Go.Sort
set_option linter.unusedVariables false

theorem numI_cmp (x y : Int) : numI x y = cmpI x y := rfl
theorem cmpI_zero (x y : Int) : (cmpI x y == 0) = decide (y = x) := by
  unfold cmpI
  split
  · rw [decide_eq_false (by omega)]; rfl
  · split
    · rw [decide_eq_false (by omega)]; rfl
    · rw [decide_eq_true (by omega)]; rfl
theorem less_self : ∀ x : Tx, Op.bytesLess x x = false
  | [] => rfl
  | a :: x => by simp [Op.bytesLess, less_self x]
theorem cmpS_zero (x y : Tx) : (cmpS x y == 0) = decide (y = x) := by
  by_cases h : x = y
  · subst h
    rw [decide_eq_true rfl]
    unfold cmpS
    rw [less_self]; simp
  · rw [decide_eq_false (fun e => h e.symm)]
    unfold cmpS
    split
    · rfl
    · rw [if_neg (by simpa using h)]; rfl
set_option maxRecDepth 100000 in
set_option maxHeartbeats 16000000 in
theorem leafI_ref {K K2 : Nat → Prop} {g f : Nat} {kind idx op : Int} {M ns : List Int} {D ts : List Tx} {A B dv mv : Value} (w : World) (hg : g < w.heap.size) (c0 : w.cell? ⟨g, f, none⟩ = some (.int .i64 kind)) (c3 : w.cell? ⟨g, f + 3, none⟩ = some (.bool true)) (c4 : w.cell? ⟨g, f + 4, none⟩ = some (.int .i64 idx)) (c5 : w.cell? ⟨g, f + 5, none⟩ = some (.int .i64 op))
    (c6 : w.cell? ⟨g, f + 6, none⟩ = some A) (c7 : w.cell? ⟨g, f + 7, none⟩ = some B) (hA : RowE K w 1 (strG K w) A ts) (hB : RowE K w 1 (intG K w) B ns) (hF : FactAt K2 w D M dv mv) (hk : kind = 4 ∨ kind = 5) : Calls Tryz.prog 88 #[.pointer (some ⟨g, f, none⟩), .agg #[dv, mv]] w (TellsB (leafI kind idx op M ns) w) := by
  obtain ⟨w1, hw1⟩ : ∃ w1, w.alloc (.cells #[dv, mv] 63) = w1 := ⟨_, rfl⟩
  obtain ⟨y, hy⟩ : ∃ y, w.heap.size = y := ⟨_, rfl⟩
  have f1 : Fr No w w1 := by rw [← hw1]; exact (Fr.refl No w).alloc _
  have hb : Blk w1 y 63 #[dv, mv] := by rw [← hw1, ← hy]; exact Blk.new w 63 _
  have HM : Hid (∀ w', Fr No w1 w' → RowE K2 w' 1 (intG K2 w') mv M) := Lib.hid fun w' f' => (hF.no (f1.trans f' fun _ _ h => h)).2
  have HB : Hid (∀ w', Fr No w1 w' → RowE K w' 1 (intG K w') B ns) := Lib.hid fun w' f' => hB.at_ intG_elem (f1.trans f' fun _ _ h => h)
  have HOLD : Hid (∀ w', Fr No w1 w' → w'.cell? ⟨g, f, none⟩ = some (.int .i64 kind) ∧ w'.cell? ⟨g, f + 3, none⟩ = some (.bool true) ∧ w'.cell? ⟨g, f + 4, none⟩ = some (.int .i64 idx) ∧ w'.cell? ⟨g, f + 5, none⟩ = some (.int .i64 op) ∧ w'.cell? ⟨g, f + 6, none⟩ = some A ∧ w'.cell? ⟨g, f + 7, none⟩ = some B ∧ w'.cell? ⟨y, 0, none⟩ = some dv ∧ w'.cell? ⟨y, 1, none⟩ = some mv) := Lib.hid fun w' f' => by
    have hh := (f1.trans f' fun _ _ h => h).block g hg id
    have hy2 := f'.block y hb.lt id
    exact ⟨(cell_of_heap hh).trans c0, (cell_of_heap hh).trans c3, (cell_of_heap hh).trans c4, (cell_of_heap hh).trans c5, (cell_of_heap hh).trans c6, (cell_of_heap hh).trans c7, (cell_of_heap hy2).trans (hb.cell 0), (cell_of_heap hy2).trans (hb.cell 1)⟩
  have HEND : Hid (∀ b e w', leafI kind idx op M ns = b → e = .returned (.bool b) → Fr No w1 w' → TellsB (leafI kind idx op M ns) w e w') := Lib.hid fun b e w' h1 h2 h3 => ⟨by rw [h2, h1], f1.trans h3 fun _ _ h => h⟩
  have HW1 := Lib.hid hw1
  have HY := Lib.hid hy
  obtain ⟨a0, a3, a4, a5, a6, a7, b0, b1⟩ := HOLD.out w1 (Fr.refl _ _)
  obtain ⟨AA, kA, rfl, hlA, hmA, -⟩ := hA
  obtain ⟨AB, kB, rfl, hlB, hmB, -⟩ := hB
  obtain ⟨AD, kD, rfl, hlD, hmD, -⟩ := hF.1
  obtain ⟨AM, kM, rfl, hlM, hmM, -⟩ := hF.2
  unfold maxLen at hmA hmB hmD hmM
  clear hF f1 hb hw1 hy c0 c3 c4 c5 c6 c7 hg
  by_cases h1 : idx < 0
  · have HV : Hid (leafI kind idx op M ns = false) := Lib.hid (by unfold leafI; rw [if_pos (.inl h1)])
    have i1 : (idx < 0) = True := eq_true h1
    go_enter Tryz.func88, Tryz.ntmps88
    go_upto_region 1 with fail
    rw [HW1.out, HY.out]
    go_wp2_with fail
    go_quiet (fail)
    go_wp2_with fail
    go_ret
    exact HEND.out _ _ _ HV.out rfl ((Fr.refl _ _).drewN _)
  have i1 : (idx < 0) = False := eq_false h1
  obtain ⟨j, rfl⟩ : ∃ j : Nat, idx = (j : Int) := ⟨idx.toNat, by omega⟩
  by_cases h2 : M.length ≤ j
  · have HV : Hid (leafI kind j op M ns = false) := Lib.hid (by unfold leafI; rw [if_pos (.inr (.inl (by omega)))])
    have i2 : ((M.length : Int) ≤ (j : Int)) = True := eq_true (by omega)
    go_enter Tryz.func88, Tryz.ntmps88
    go_upto_region 1 with fail
    rw [HW1.out, HY.out]
    go_wp2_with fail
    go_quiet (fail)
    go_wp2_with fail
    go_ret
    exact HEND.out _ _ _ HV.out rfl ((Fr.refl _ _).drewN _)
  have i2 : ((M.length : Int) ≤ (j : Int)) = False := eq_false (by omega)
  cases hns : ns with
  | nil =>
    subst hns
    have HV : Hid (leafI kind j op M [] = false) := Lib.hid (by unfold leafI; rw [if_pos (.inr (.inr rfl))])
    go_enter Tryz.func88, Tryz.ntmps88
    go_upto_region 1 with fail
    rw [HW1.out, HY.out]
    go_wp2_with fail
    go_quiet (fail)
    go_wp2_with fail
    go_ret
    exact HEND.out _ _ _ HV.out rfl ((Fr.refl _ _).drewN _)
  | cons z0 zs =>
  rw [← hns]
  have hno : ¬ ((j : Int) < 0 ∨ (M.length : Int) ≤ (j : Int) ∨ ns = []) := by
    rintro (h | h | h)
    · omega
    · omega
    · rw [hns] at h; cases h
  have hjl : j < M.length := by omega
  have hget : M.getD (j : Int).toNat 0 = M[j] := by simp [List.getD, hjl]
  have HV4 : Hid (kind = 4 → leafI kind j op M ns = isAsB op (numI M[j] (ns.headD 0))) := Lib.hid (fun h => by unfold leafI; rw [if_neg hno, if_pos h, hget]; rfl)
  have HV5 : Hid (kind = 5 → leafI kind j op M ns = ns.any (fun q => decide (q = M[j]))) := Lib.hid (fun h => by unfold leafI; rw [if_neg hno, if_neg (by omega), if_pos h, hget])
  have hpos : 0 < ns.length := by rw [hns]; simp
  have HHD : Hid (∀ h : 0 < ns.length, ns[0] = ns.headD 0) := Lib.hid fun h => by cases ns with | nil => cases hns | cons a b => rfl
  obtain ⟨n, hn⟩ : ∃ n, ns.length = n := ⟨_, rfl⟩
  have HN := Lib.hid hn
  obtain ⟨x, hx⟩ : ∃ x, M[j] = x := ⟨_, rfl⟩
  rw [hx] at HV4 HV5
  have HX : Hid (∀ h : j < M.length, M[j] = x) := Lib.hid fun _ => hx
  obtain ⟨nM, hnM⟩ : ∃ n, M.length = n := ⟨_, rfl⟩
  have HNM := Lib.hid hnM
  rw [hn] at hlB hpos HB a7
  rw [hnM] at hlM i2 HM b1 HW1
  have hn0 : ((n : Int) == 0) = false := by simp; omega
  have hjM : (j : Int) < (nM : Int) := by omega
  have hj0 : (0 : Int) ≤ (j : Int) := by omega
  rw [hnM]
  clear hx hns hget hno hjl h2 h1
  go_enter Tryz.func88, Tryz.ntmps88
  go_upto_region 1 with fail
  rw [HW1.out, HY.out]
  go_wp2_with fail
  go_quiet (fail)
  have HFQ : Hid (Fr No w1 (w1.drewN nq)) := Lib.hid ((Fr.refl _ _).drewN nq)
  obtain ⟨w2, hw2⟩ : ∃ x, w1.drewN nq = x := ⟨_, rfl⟩
  rw [hw2] at HFQ ⊢
  clear hw2 a0 a3 a4 a5 a6 a7 b0 b1
  go_wp2_with fail
  go_loopg [6, 7] n (fun k r6 r7 wr => Hid (∃ i : Nat, r6 = .int .i64 (i : Nat) ∧ i + k = n ∧ Hid (Fr No w1 wr) ∧ (kind = 4 → i = 0) ∧ (ns.take i).any (fun q => decide (q = x)) = false))
  case atStart => exact Lib.hid ⟨0, rfl, by omega, HFQ, fun _ => rfl, rfl⟩
  case round =>
    obtain ⟨i, rfl, hin, HFR, hi4, hall⟩ := hrel.out
    have HALL := Lib.hid hall
    clear hrel hall HFQ
    obtain ⟨a0, a3, a4, a5, a6, a7, b0, b1⟩ := HOLD.out wr HFR.out
    have hi0 : (0 : Int) ≤ (i : Int) := by omega
    by_cases hi : i < n
    · have hii : (i : Int) < (n : Int) := by omega
      have hil : i < ns.length := by rw [HN.out]; exact hi
      obtain ⟨ga, oa, rfl, cs, hcs, hE⟩ := row_at (HM.out wr HFR.out) (j := j) (by rw [HNM.out]; omega)
      obtain ⟨gb, ob, rfl, ds, hds, hD⟩ := row_at (HB.out wr HFR.out) hil
      rw [HX.out] at hE
      obtain ⟨q, hq⟩ : ∃ q, ns[i] = q := ⟨_, rfl⟩
      rw [hq] at hD
      have HQ : Hid (∀ h : i < ns.length, ns[i] = q) := Lib.hid fun _ => hq
      have e0 : wr.cell? ⟨ga, oa + j, none⟩ = some (.int .i64 x) := by have := hcs 0 (by decide); rw [hE.1] at this; simpa using this
      have e1 : wr.cell? ⟨gb, ob + i, none⟩ = some (.int .i64 q) := by have := hds 0 (by decide); rw [hD.1] at this; simpa using this
      have z4 : ∀ dd os, (grow (redrawn wr dd) os).cell? ⟨g, f + 4, none⟩ = some (.int .i64 (j : Int)) := fun dd os => cell_regrown a4 dd os
      have z7 : ∀ dd os, (grow (redrawn wr dd) os).cell? ⟨g, f + 7, none⟩ = _ := fun dd os => cell_regrown a7 dd os
      have zy : ∀ dd os, (grow (redrawn wr dd) os).cell? ⟨y, 1, none⟩ = _ := fun dd os => cell_regrown b1 dd os
      have za : ∀ dd os, (grow (redrawn wr dd) os).cell? ⟨ga, oa + j, none⟩ = some (.int .i64 x) := fun dd os => cell_regrown e0 dd os
      have zb : ∀ dd os, (grow (redrawn wr dd) os).cell? ⟨gb, ob + i, none⟩ = some (.int .i64 q) := fun dd os => cell_regrown e1 dd os
      have K1 := Lib.hid (fun dd os => tells_grown (w := wr) (fun w' f' => numbers_any x q w') dd os)
      obtain ⟨c, hc⟩ : ∃ c, numI x q = c := ⟨_, rfl⟩
      have HC := Lib.hid hc
      rw [hc] at K1
      have HZ : Hid ((c == 0) = decide (q = x)) := Lib.hid (by rw [← hc]; exact cmpI_zero x q)
      clear hcs hE hds hD hq hc
      go_upto_region 11 with fail
      refine wp_region_quiet_below mixedB (by kernel_rfl) ?_
      repeat (first | go_big_quiet_step (with_reducible exact K1.out _ _) | quiet_step (with_reducible exact K1.out _ _))
      refine wpQuiet_nil ?_
      intro wx hp
      have HBW : Hid (Fr No w1 wx) := Lib.hid (HFR.out.trans (by obtain ⟨p, rfl⟩ := hp; exact fr_reg _ _ _) fun _ _ h => h)
      clear hp a0 a3 a4 a5 a6 a7 b0 b1 e0 e1 z4 z7 zy za zb K1
      obtain ⟨a0, a3, a4, a5, a6, a7, b0, b1⟩ := HOLD.out wx HBW.out
      rcases hk with rfl | rfl
      · obtain rfl : i = 0 := hi4 rfl
        have HV : Hid (leafI 4 j op M ns = isAsB op c) := Lib.hid (by rw [HV4.out rfl, ← HHD.out hil, HQ.out hil, HC.out])
        have HS := Lib.hid (rsays_any op c wx)
        go_wp2_with fail
        refine HS.out.mono ?_
        rintro e w3 ⟨rfl, f3⟩
        have HF3 := Lib.hid (HBW.out.trans f3 fun _ _ h => h)
        clear f3
        go_wp2_with fail
        go_ret
        exact HEND.out _ _ _ HV.out rfl HF3.out
      · cases hc0 : (c == 0) with
        | true =>
          have HV : Hid (leafI 5 j op M ns = true) := Lib.hid (by
            rw [HV5.out rfl, List.any_eq_true]
            exact ⟨ns[i], List.getElem_mem _, by rw [HQ.out hil, ← HZ.out, hc0]⟩)
          go_wp2_with fail
          go_ret
          exact HEND.out _ _ _ HV.out rfl HBW.out
        | false =>
          have HT : Hid ((ns.take (i + 1)).any (fun q => decide (q = x)) = false) := Lib.hid (any_take hil HALL.out (by rw [HQ.out hil, ← HZ.out, hc0]))
          go_wp2_with fail
          obtain ⟨g1, rfl⟩ : ∃ g1, gk = g1 + 1 := ⟨gk - 1, by omega⟩
          go_roundg g1
          case rel => exact Lib.hid ⟨i + 1, by go_num, by omega, HBW, fun h => by omega, HT.out⟩
          all_goals omega
    · have hii : (n : Int) ≤ (i : Int) := by omega
      have h5 : kind = 5 := hk.resolve_left fun h => by have := hi4 h; omega
      have HV : Hid (leafI kind j op M ns = false) := Lib.hid (by rw [HV5.out h5]; have := HALL.out; rwa [List.take_of_length_le (by rw [HN.out]; omega)] at this)
      clear h5
      go_wp2_with fail
      go_ret
      exact HEND.out _ _ _ HV.out rfl HFR.out
end Go.Proofs.YtlpglijikmnopaaGreatDoor.Bd
namespace Go.Proofs.YtlpglijikmnopaaGreatDoor.Bd
open Go.RowKit Go.Maps Go.Sort
set_option linter.unusedVariables false

set_option maxRecDepth 100000 in
set_option maxHeartbeats 16000000 in
theorem leafS_ref {K K2 : Nat → Prop} {g f : Nat} {kind idx op : Int} {M ns : List Int} {D ts : List Tx} {A B dv mv : Value} (w : World) (hg : g < w.heap.size) (c0 : w.cell? ⟨g, f, none⟩ = some (.int .i64 kind)) (c3 : w.cell? ⟨g, f + 3, none⟩ = some (.bool false)) (c4 : w.cell? ⟨g, f + 4, none⟩ = some (.int .i64 idx)) (c5 : w.cell? ⟨g, f + 5, none⟩ = some (.int .i64 op))
    (c6 : w.cell? ⟨g, f + 6, none⟩ = some A) (c7 : w.cell? ⟨g, f + 7, none⟩ = some B) (hA : RowE K w 1 (strG K w) A ts) (hB : RowE K w 1 (intG K w) B ns) (hF : FactAt K2 w D M dv mv) (hk : kind = 4 ∨ kind = 5) : Calls Tryz.prog 88 #[.pointer (some ⟨g, f, none⟩), .agg #[dv, mv]] w (TellsB (leafS kind idx op D ts) w) := by
  obtain ⟨w1, hw1⟩ : ∃ w1, w.alloc (.cells #[dv, mv] 63) = w1 := ⟨_, rfl⟩
  obtain ⟨y, hy⟩ : ∃ y, w.heap.size = y := ⟨_, rfl⟩
  have f1 : Fr No w w1 := by rw [← hw1]; exact (Fr.refl No w).alloc _
  have hb : Blk w1 y 63 #[dv, mv] := by rw [← hw1, ← hy]; exact Blk.new w 63 _
  have HM : Hid (∀ w', Fr No w1 w' → RowE K2 w' 1 (strG K2 w') dv D) := Lib.hid fun w' f' => (hF.no (f1.trans f' fun _ _ h => h)).1
  have HB : Hid (∀ w', Fr No w1 w' → RowE K w' 1 (strG K w') A ts) := Lib.hid fun w' f' => hA.at_ strG_elem (f1.trans f' fun _ _ h => h)
  have HOLD : Hid (∀ w', Fr No w1 w' → w'.cell? ⟨g, f, none⟩ = some (.int .i64 kind) ∧ w'.cell? ⟨g, f + 3, none⟩ = some (.bool false) ∧ w'.cell? ⟨g, f + 4, none⟩ = some (.int .i64 idx) ∧ w'.cell? ⟨g, f + 5, none⟩ = some (.int .i64 op) ∧ w'.cell? ⟨g, f + 6, none⟩ = some A ∧ w'.cell? ⟨g, f + 7, none⟩ = some B ∧ w'.cell? ⟨y, 0, none⟩ = some dv ∧ w'.cell? ⟨y, 1, none⟩ = some mv) := Lib.hid fun w' f' => by
    have hh := (f1.trans f' fun _ _ h => h).block g hg id
    have hy2 := f'.block y hb.lt id
    exact ⟨(cell_of_heap hh).trans c0, (cell_of_heap hh).trans c3, (cell_of_heap hh).trans c4, (cell_of_heap hh).trans c5, (cell_of_heap hh).trans c6, (cell_of_heap hh).trans c7, (cell_of_heap hy2).trans (hb.cell 0), (cell_of_heap hy2).trans (hb.cell 1)⟩
  have HEND : Hid (∀ b e w', leafS kind idx op D ts = b → e = .returned (.bool b) → Fr No w1 w' → TellsB (leafS kind idx op D ts) w e w') := Lib.hid fun b e w' h1 h2 h3 => ⟨by rw [h2, h1], f1.trans h3 fun _ _ h => h⟩
  have HW1 := Lib.hid hw1
  have HY := Lib.hid hy
  obtain ⟨a0, a3, a4, a5, a6, a7, b0, b1⟩ := HOLD.out w1 (Fr.refl _ _)
  obtain ⟨AA, kA, rfl, hlA, hmA, -⟩ := hA
  obtain ⟨AB, kB, rfl, hlB, hmB, -⟩ := hB
  obtain ⟨AD, kD, rfl, hlD, hmD, -⟩ := hF.1
  obtain ⟨AM, kM, rfl, hlM, hmM, -⟩ := hF.2
  unfold maxLen at hmA hmB hmD hmM
  clear hF f1 hb hw1 hy c0 c3 c4 c5 c6 c7 hg
  by_cases h1 : idx < 0
  · have HV : Hid (leafS kind idx op D ts = false) := Lib.hid (by unfold leafS; rw [if_pos (.inl h1)])
    have i1 : (idx < 0) = True := eq_true h1
    go_enter Tryz.func88, Tryz.ntmps88
    go_upto_region 1 with fail
    rw [HW1.out, HY.out]
    go_wp2_with fail
    go_quiet (fail)
    go_wp2_with fail
    go_ret
    exact HEND.out _ _ _ HV.out rfl ((Fr.refl _ _).drewN _)
  have i1 : (idx < 0) = False := eq_false h1
  obtain ⟨j, rfl⟩ : ∃ j : Nat, idx = (j : Int) := ⟨idx.toNat, by omega⟩
  by_cases h2 : D.length ≤ j
  · have HV : Hid (leafS kind j op D ts = false) := Lib.hid (by unfold leafS; rw [if_pos (.inr (.inl (by omega)))])
    have i2 : ((D.length : Int) ≤ (j : Int)) = True := eq_true (by omega)
    go_enter Tryz.func88, Tryz.ntmps88
    go_upto_region 1 with fail
    rw [HW1.out, HY.out]
    go_wp2_with fail
    go_quiet (fail)
    go_wp2_with fail
    go_ret
    exact HEND.out _ _ _ HV.out rfl ((Fr.refl _ _).drewN _)
  have i2 : ((D.length : Int) ≤ (j : Int)) = False := eq_false (by omega)
  cases hns : ts with
  | nil =>
    subst hns
    have HV : Hid (leafS kind j op D [] = false) := Lib.hid (by unfold leafS; rw [if_pos (.inr (.inr rfl))])
    go_enter Tryz.func88, Tryz.ntmps88
    go_upto_region 1 with fail
    rw [HW1.out, HY.out]
    go_wp2_with fail
    go_quiet (fail)
    go_wp2_with fail
    go_ret
    exact HEND.out _ _ _ HV.out rfl ((Fr.refl _ _).drewN _)
  | cons z0 zs =>
  rw [← hns]
  have hno : ¬ ((j : Int) < 0 ∨ (D.length : Int) ≤ (j : Int) ∨ ts = []) := by
    rintro (h | h | h)
    · omega
    · omega
    · rw [hns] at h; cases h
  have hjl : j < D.length := by omega
  have hget : D.getD (j : Int).toNat [] = D[j] := by simp [List.getD, hjl]
  have HV4 : Hid (kind = 4 → leafS kind j op D ts = isAsB op (cmpS D[j] (ts.headD []))) := Lib.hid (fun h => by unfold leafS; rw [if_neg hno, if_pos h, hget])
  have HV5 : Hid (kind = 5 → leafS kind j op D ts = ts.any (fun q => decide (q = D[j]))) := Lib.hid (fun h => by unfold leafS; rw [if_neg hno, if_neg (by omega), if_pos h, hget])
  have hpos : 0 < ts.length := by rw [hns]; simp
  have HHD : Hid (∀ h : 0 < ts.length, ts[0] = ts.headD []) := Lib.hid fun h => by cases ts with | nil => cases hns | cons a b => rfl
  obtain ⟨n, hn⟩ : ∃ n, ts.length = n := ⟨_, rfl⟩
  have HN := Lib.hid hn
  obtain ⟨x, hx⟩ : ∃ x, D[j] = x := ⟨_, rfl⟩
  rw [hx] at HV4 HV5
  have HX : Hid (∀ h : j < D.length, D[j] = x) := Lib.hid fun _ => hx
  obtain ⟨nM, hnM⟩ : ∃ n, D.length = n := ⟨_, rfl⟩
  have HNM := Lib.hid hnM
  rw [hn] at hlA hpos HB a6
  rw [hnM] at hlD i2 HM b0 HW1
  have hn0 : ((n : Int) == 0) = false := by simp; omega
  have hjM : (j : Int) < (nM : Int) := by omega
  have hj0 : (0 : Int) ≤ (j : Int) := by omega
  rw [hnM]
  clear hx hns hget hno hjl h2 h1
  go_enter Tryz.func88, Tryz.ntmps88
  go_upto_region 1 with fail
  rw [HW1.out, HY.out]
  go_wp2_with fail
  go_quiet (fail)
  have HFQ : Hid (Fr No w1 (w1.drewN nq)) := Lib.hid ((Fr.refl _ _).drewN nq)
  obtain ⟨w2, hw2⟩ : ∃ x, w1.drewN nq = x := ⟨_, rfl⟩
  rw [hw2] at HFQ ⊢
  clear hw2 a0 a3 a4 a5 a6 a7 b0 b1
  go_wp2_with fail
  go_loopg [6, 7] n (fun k r6 r7 wr => Hid (∃ i : Nat, r6 = .int .i64 (i : Nat) ∧ i + k = n ∧ Hid (Fr No w1 wr) ∧ (kind = 4 → i = 0) ∧ (ts.take i).any (fun q => decide (q = x)) = false))
  case atStart => exact Lib.hid ⟨0, rfl, by omega, HFQ, fun _ => rfl, rfl⟩
  case round =>
    obtain ⟨i, rfl, hin, HFR, hi4, hall⟩ := hrel.out
    have HALL := Lib.hid hall
    clear hrel hall HFQ
    obtain ⟨a0, a3, a4, a5, a6, a7, b0, b1⟩ := HOLD.out wr HFR.out
    have hi0 : (0 : Int) ≤ (i : Int) := by omega
    by_cases hi : i < n
    · have hii : (i : Int) < (n : Int) := by omega
      have hil : i < ts.length := by rw [HN.out]; exact hi
      obtain ⟨ga, oa, rfl, cs, hcs, hE⟩ := row_at (HM.out wr HFR.out) (j := j) (by rw [HNM.out]; omega)
      obtain ⟨gb, ob, rfl, ds, hds, hD⟩ := row_at (HB.out wr HFR.out) hil
      rw [HX.out] at hE
      obtain ⟨q, hq⟩ : ∃ q, ts[i] = q := ⟨_, rfl⟩
      rw [hq] at hD
      have HQ : Hid (∀ h : i < ts.length, ts[i] = q) := Lib.hid fun _ => hq
      have e0 : wr.cell? ⟨ga, oa + j, none⟩ = some (sv x) := by have := hcs 0 (by decide); rw [hE.1] at this; simpa using this
      have e1 : wr.cell? ⟨gb, ob + i, none⟩ = some (sv q) := by have := hds 0 (by decide); rw [hD.1] at this; simpa using this
      have z4 : ∀ dd os, (grow (redrawn wr dd) os).cell? ⟨g, f + 4, none⟩ = some (.int .i64 (j : Int)) := fun dd os => cell_regrown a4 dd os
      have z7 : ∀ dd os, (grow (redrawn wr dd) os).cell? ⟨g, f + 6, none⟩ = _ := fun dd os => cell_regrown a6 dd os
      have zy : ∀ dd os, (grow (redrawn wr dd) os).cell? ⟨y, 0, none⟩ = _ := fun dd os => cell_regrown b0 dd os
      have za : ∀ dd os, (grow (redrawn wr dd) os).cell? ⟨ga, oa + j, none⟩ = some (sv x) := fun dd os => cell_regrown e0 dd os
      have zb : ∀ dd os, (grow (redrawn wr dd) os).cell? ⟨gb, ob + i, none⟩ = some (sv q) := fun dd os => cell_regrown e1 dd os
      have K1 := Lib.hid (fun dd os => tells_grown (w := wr) (fun w' f' => textsS_any x q w' hE.2) dd os)
      obtain ⟨c, hc⟩ : ∃ c, cmpS x q = c := ⟨_, rfl⟩
      have HC := Lib.hid hc
      rw [hc] at K1
      have HZ : Hid ((c == 0) = decide (q = x)) := Lib.hid (by rw [← hc]; exact cmpS_zero x q)
      clear hcs hE hds hD hq hc
      go_upto_region 12 with fail
      refine wp_region_quiet_below mixedB (by kernel_rfl) ?_
      repeat (first | go_big_quiet_step (with_reducible exact K1.out _ _) | quiet_step (with_reducible exact K1.out _ _))
      refine wpQuiet_nil ?_
      intro wx hp
      have HBW : Hid (Fr No w1 wx) := Lib.hid (HFR.out.trans (by obtain ⟨p, rfl⟩ := hp; exact fr_reg _ _ _) fun _ _ h => h)
      clear hp a0 a3 a4 a5 a6 a7 b0 b1 e0 e1 z4 z7 zy za zb K1
      obtain ⟨a0, a3, a4, a5, a6, a7, b0, b1⟩ := HOLD.out wx HBW.out
      rcases hk with rfl | rfl
      · obtain rfl : i = 0 := hi4 rfl
        have HV : Hid (leafS 4 j op D ts = isAsB op c) := Lib.hid (by rw [HV4.out rfl, ← HHD.out hil, HQ.out hil, HC.out])
        have HS := Lib.hid (rsays_any op c wx)
        go_wp2_with fail
        refine HS.out.mono ?_
        rintro e w3 ⟨rfl, f3⟩
        have HF3 := Lib.hid (HBW.out.trans f3 fun _ _ h => h)
        clear f3
        go_wp2_with fail
        go_ret
        exact HEND.out _ _ _ HV.out rfl HF3.out
      · cases hc0 : (c == 0) with
        | true =>
          have HV : Hid (leafS 5 j op D ts = true) := Lib.hid (by
            rw [HV5.out rfl, List.any_eq_true]
            exact ⟨ts[i], List.getElem_mem _, by rw [HQ.out hil, ← HZ.out, hc0]⟩)
          go_wp2_with fail
          go_ret
          exact HEND.out _ _ _ HV.out rfl HBW.out
        | false =>
          have HT : Hid ((ts.take (i + 1)).any (fun q => decide (q = x)) = false) := Lib.hid (any_take hil HALL.out (by rw [HQ.out hil, ← HZ.out, hc0]))
          go_wp2_with fail
          obtain ⟨g1, rfl⟩ : ∃ g1, gk = g1 + 1 := ⟨gk - 1, by omega⟩
          go_roundg g1
          case rel => exact Lib.hid ⟨i + 1, by go_num, by omega, HBW, fun h => by omega, HT.out⟩
          all_goals omega
    · have hii : (n : Int) ≤ (i : Int) := by omega
      have h5 : kind = 5 := hk.resolve_left fun h => by have := hi4 h; omega
      have HV : Hid (leafS kind j op D ts = false) := Lib.hid (by rw [HV5.out h5]; have := HALL.out; rwa [List.take_of_length_le (by rw [HN.out]; omega)] at this)
      clear h5
      go_wp2_with fail
      go_ret
      exact HEND.out _ _ _ HV.out rfl HFR.out
end Go.Proofs.YtlpglijikmnopaaGreatDoor.Bd
namespace Go.Proofs.YtlpglijikmnopaaGreatDoor.Bd
open Go.RowKit Go.Maps Go.Sort
set_option linter.unusedVariables false

theorem leafI_other {k i o : Int} (M ns : List Int) (h4 : k ≠ 4) (h5 : k ≠ 5) : leafI k i o M ns = false := by
  unfold leafI; simp [h4, h5]
theorem leafS_other {k i o : Int} (D ts : List Tx) (h4 : k ≠ 4) (h5 : k ≠ 5) : leafS k i o D ts = false := by
  unfold leafS; simp [h4, h5]
set_option maxRecDepth 100000 in
set_option maxHeartbeats 16000000 in
theorem holds_ref (K K2 : Nat → Prop) (D : List Tx) (M : List Int) (dv mv : Value) : ∀ (t : Ts) (v : Value) (w : World), TsAt K w t v → FactAt K2 w D M dv mv → Calls Tryz.prog 67 #[v, .agg #[dv, mv]] w (TellsB (holdsT t D M) w)
  | .none, v, w, h, hF => by
    obtain rfl : v = .pointer none := h
    obtain ⟨w1, hw1⟩ : ∃ w1, w.alloc (.cells #[dv, mv] 63) = w1 := ⟨_, rfl⟩
    have f1 : Fr No w w1 := by rw [← hw1]; exact (Fr.refl No w).alloc _
    have HF1 := Lib.hid f1
    have HW1 := Lib.hid hw1
    show Calls Tryz.prog 67 #[.pointer none, .agg #[dv, mv]] w (TellsB false w)
    clear hF f1 hw1
    go_enter Tryz.func67, Tryz.ntmps67
    go_upto_region 1 with fail
    rw [HW1.out]
    go_wp2_with fail
    go_ret
    exact ⟨rfl, HF1.out⟩
  | .node k l r m i o ts ns, v, w, h, hF => by
    obtain ⟨w1, hw1⟩ : ∃ w1, w.alloc (.cells #[dv, mv] 63) = w1 := ⟨_, rfl⟩
    obtain ⟨y, hy⟩ : ∃ y, w.heap.size = y := ⟨_, rfl⟩
    have f1 : Fr No w w1 := by rw [← hw1]; exact (Fr.refl No w).alloc _
    have hb : Blk w1 y 63 #[dv, mv] := by rw [← hw1, ← hy]; exact Blk.new w 63 _
    have h1 := h.no f1
    have hF1 := hF.no f1
    obtain ⟨g, f, L, R, A, B, rfl, hK, hg, c0, c1, c2, c3, c4, c5, c6, c7, hl, hr, hA, hB, -⟩ := h1
    obtain ⟨pl, rfl⟩ : ∃ p, L = .pointer p := by rcases hl.ptr with ⟨_, e⟩ | ⟨_, _, _, e⟩ <;> exact ⟨_, e⟩
    obtain ⟨pr, rfl⟩ : ∃ p, R = .pointer p := by rcases hr.ptr with ⟨_, e⟩ | ⟨_, _, _, e⟩ <;> exact ⟨_, e⟩
    have HV0 := Lib.hid (holds_node (k := k) (l := l) (r := r) (m := m) (i := i) (o := o) (ts := ts) (ns := ns) D M)
    have HEND : Hid (∀ b e w', holdsT (.node k l r m i o ts ns) D M = b → e = .returned (.bool b) → Fr No w1 w' → TellsB (holdsT (.node k l r m i o ts ns) D M) w e w') := Lib.hid fun b e w' h1 h2 h3 => ⟨by rw [h2, h1], f1.trans h3 fun _ _ h => h⟩
    have HOLD : Hid (∀ w', Fr No w1 w' → w'.cell? ⟨g, f, none⟩ = some (.int .i64 k) ∧ w'.cell? ⟨g, f + 1, none⟩ = some (.pointer pl) ∧ w'.cell? ⟨g, f + 2, none⟩ = some (.pointer pr) ∧ w'.cell? ⟨y, 0, none⟩ = some dv ∧ w'.cell? ⟨y, 1, none⟩ = some mv) := Lib.hid fun w' f' => by
      have hh := f'.block g hg id
      have hy2 := f'.block y hb.lt id
      exact ⟨(cell_of_heap hh).trans c0, (cell_of_heap hh).trans c1, (cell_of_heap hh).trans c2, (cell_of_heap hy2).trans (hb.cell 0), (cell_of_heap hy2).trans (hb.cell 1)⟩
    have KL := Lib.hid (fun w' f' => holds_ref K K2 D M dv mv l _ w' (hl.no (w' := w') f') (hF1.no f'))
    have KR := Lib.hid (fun w' f' => holds_ref K K2 D M dv mv r _ w' (hr.no (w' := w') f') (hF1.no f'))
    have KI : Hid (m = true → k = 4 ∨ k = 5 → ∀ w', Fr No w1 w' → Calls Tryz.prog 88 #[.pointer (some ⟨g, f, none⟩), .agg #[dv, mv]] w' (TellsB (leafI k i o M ns) w')) := Lib.hid fun hm hk w' f' => by
      have hh := f'.block g hg id
      have hlt : g < w'.heap.size := by rcases Nat.lt_or_ge g w'.heap.size with h | h; exact h; rw [Array.getElem?_eq_none h, Array.getElem?_eq_getElem hg] at hh; cases hh
      exact leafI_ref w' hlt ((cell_of_heap hh).trans c0) ((cell_of_heap hh).trans (by rw [← hm]; exact c3)) ((cell_of_heap hh).trans c4) ((cell_of_heap hh).trans c5) ((cell_of_heap hh).trans c6) ((cell_of_heap hh).trans c7) (hA.at_ strG_elem f') (hB.at_ intG_elem f') (hF1.no f') hk
    have KS : Hid (m = false → k = 4 ∨ k = 5 → ∀ w', Fr No w1 w' → Calls Tryz.prog 88 #[.pointer (some ⟨g, f, none⟩), .agg #[dv, mv]] w' (TellsB (leafS k i o D ts) w')) := Lib.hid fun hm hk w' f' => by
      have hh := f'.block g hg id
      have hlt : g < w'.heap.size := by rcases Nat.lt_or_ge g w'.heap.size with h | h; exact h; rw [Array.getElem?_eq_none h, Array.getElem?_eq_getElem hg] at hh; cases hh
      exact leafS_ref w' hlt ((cell_of_heap hh).trans c0) ((cell_of_heap hh).trans (by rw [← hm]; exact c3)) ((cell_of_heap hh).trans c4) ((cell_of_heap hh).trans c5) ((cell_of_heap hh).trans c6) ((cell_of_heap hh).trans c7) (hA.at_ strG_elem f') (hB.at_ intG_elem f') (hF1.no f') hk
    obtain ⟨hL, hhL⟩ : ∃ b, holdsT l D M = b := ⟨_, rfl⟩
    obtain ⟨hR, hhR⟩ : ∃ b, holdsT r D M = b := ⟨_, rfl⟩
    rw [hhL] at KL HV0
    rw [hhR] at KR HV0
    have KLG := Lib.hid (fun dd os => tells_grown (w := w1) (fun w' f' => KL.out w' f') dd os)
    have HLP := Lib.hid hl.ptr
    have HW1 := Lib.hid hw1
    have HY := Lib.hid hy
    obtain ⟨a0, a1, a2, b0, b1⟩ := HOLD.out w1 (Fr.refl _ _)
    have z1 : ∀ dd os, (grow (redrawn w1 dd) os).cell? ⟨g, f + 1, none⟩ = some (.pointer pl) := fun dd os => cell_regrown a1 dd os
    have y0 : ∀ dd os, (grow (redrawn w1 dd) os).cell? ⟨y, 0, none⟩ = some dv := fun dd os => cell_regrown b0 dd os
    have y1 : ∀ dd os, (grow (redrawn w1 dd) os).cell? ⟨y, 1, none⟩ = some mv := fun dd os => cell_regrown b1 dd os
    clear h hF f1 hb hF1 hl hr hA hB hw1 hy c1 c2 c3 c4 c5 c6 c7 hhL hhR hK hg c0
    by_cases k1 : k = 1
    · subst k1
      have HV : Hid (holdsT (.node 1 l r m i o ts ns) D M = (hL && hR)) := Lib.hid (HV0.out.trans (if_pos rfl))
      go_enter Tryz.func67, Tryz.ntmps67
      go_upto_region 1 with fail
      rw [HY.out, HW1.out]
      go_upto_region 5 with fail
      refine wp_region_quiet_below mixedB (by kernel_rfl) ?_
      repeat (first | go_big_quiet_step (with_reducible exact KLG.out _ _) | quiet_step (with_reducible exact KLG.out _ _))
      refine wpQuiet_nil ?_
      intro wx hp
      have HBW : Hid (Fr No w1 wx) := Lib.hid (by obtain ⟨p, rfl⟩ := hp; exact fr_reg _ _ _)
      clear hp z1 y0 y1 a0 a1 a2 b0 b1 KLG
      obtain ⟨a0, a1, a2, b0, b1⟩ := HOLD.out wx HBW.out
      have z2 : ∀ dd os, (grow (redrawn wx dd) os).cell? ⟨g, f + 2, none⟩ = some (.pointer pr) := fun dd os => cell_regrown a2 dd os
      have y0 : ∀ dd os, (grow (redrawn wx dd) os).cell? ⟨y, 0, none⟩ = some dv := fun dd os => cell_regrown b0 dd os
      have y1 : ∀ dd os, (grow (redrawn wx dd) os).cell? ⟨y, 1, none⟩ = some mv := fun dd os => cell_regrown b1 dd os
      have KRG := Lib.hid (fun dd os => tells_grown (w := wx) (fun w' f' => KR.out w' (HBW.out.trans f' fun _ _ h => h)) dd os)
      cases hL
      all_goals
        go_upto_region 6 with fail
        refine wp_region_quiet_below mixedB (by kernel_rfl) ?_
        repeat (first | go_big_quiet_step (with_reducible exact KRG.out _ _) | quiet_step (with_reducible exact KRG.out _ _))
        refine wpQuiet_nil ?_
        intro wz hp
        have HBZ : Hid (Fr No w1 wz) := Lib.hid (HBW.out.trans (by obtain ⟨p, rfl⟩ := hp; exact fr_reg _ _ _) fun _ _ h => h)
        clear hp
        go_wp2_with fail
        go_ret
        exact HEND.out _ _ _ HV.out rfl HBZ.out
    have k1' : (k == 1) = false := by simpa using k1
    by_cases k2 : k = 2
    · subst k2
      have HV : Hid (holdsT (.node 2 l r m i o ts ns) D M = (hL || hR)) := Lib.hid (HV0.out.trans ((if_neg (by decide)).trans (if_pos rfl)))
      go_enter Tryz.func67, Tryz.ntmps67
      go_upto_region 1 with fail
      rw [HY.out, HW1.out]
      go_upto_region 8 with fail
      refine wp_region_quiet_below mixedB (by kernel_rfl) ?_
      repeat (first | go_big_quiet_step (with_reducible exact KLG.out _ _) | quiet_step (with_reducible exact KLG.out _ _))
      refine wpQuiet_nil ?_
      intro wx hp
      have HBW : Hid (Fr No w1 wx) := Lib.hid (by obtain ⟨p, rfl⟩ := hp; exact fr_reg _ _ _)
      clear hp z1 y0 y1 a0 a1 a2 b0 b1 KLG
      obtain ⟨a0, a1, a2, b0, b1⟩ := HOLD.out wx HBW.out
      have z2 : ∀ dd os, (grow (redrawn wx dd) os).cell? ⟨g, f + 2, none⟩ = some (.pointer pr) := fun dd os => cell_regrown a2 dd os
      have y0 : ∀ dd os, (grow (redrawn wx dd) os).cell? ⟨y, 0, none⟩ = some dv := fun dd os => cell_regrown b0 dd os
      have y1 : ∀ dd os, (grow (redrawn wx dd) os).cell? ⟨y, 1, none⟩ = some mv := fun dd os => cell_regrown b1 dd os
      have KRG := Lib.hid (fun dd os => tells_grown (w := wx) (fun w' f' => KR.out w' (HBW.out.trans f' fun _ _ h => h)) dd os)
      cases hL
      all_goals
        go_upto_region 9 with fail
        refine wp_region_quiet_below mixedB (by kernel_rfl) ?_
        repeat (first | go_big_quiet_step (with_reducible exact KRG.out _ _) | quiet_step (with_reducible exact KRG.out _ _))
        refine wpQuiet_nil ?_
        intro wz hp
        have HBZ : Hid (Fr No w1 wz) := Lib.hid (HBW.out.trans (by obtain ⟨p, rfl⟩ := hp; exact fr_reg _ _ _) fun _ _ h => h)
        clear hp
        go_wp2_with fail
        go_ret
        exact HEND.out _ _ _ HV.out rfl HBZ.out
    have k2' : (k == 2) = false := by simpa using k2
    by_cases k3 : k = 3
    · subst k3
      have HV : Hid (holdsT (.node 3 l r m i o ts ns) D M = (!decide (l = .none) && !hL)) := Lib.hid (HV0.out.trans ((if_neg (by decide)).trans ((if_neg (by decide)).trans (if_pos rfl))))
      go_enter Tryz.func67, Tryz.ntmps67
      go_upto_region 1 with fail
      rw [HY.out, HW1.out]
      go_upto_region 11 with fail
      refine wp_region_quiet_below mixedB (by kernel_rfl) ?_
      repeat (first | go_big_quiet_step (with_reducible exact KLG.out _ _) | quiet_step (with_reducible exact KLG.out _ _))
      refine wpQuiet_nil ?_
      intro wx hp
      have HBW : Hid (Fr No w1 wx) := Lib.hid (by obtain ⟨p, rfl⟩ := hp; exact fr_reg _ _ _)
      clear hp z1 y0 y1 a0 a1 a2 b0 b1 KLG
      obtain ⟨a0, a1, a2, b0, b1⟩ := HOLD.out wx HBW.out
      rcases HLP.out with ⟨hl0, e⟩ | ⟨hl0, gl, ol, e⟩
      · obtain rfl : pl = none := by injection e
        have HV2 : Hid (holdsT (.node 3 l r m i o ts ns) D M = false) := Lib.hid (by rw [HV.out, decide_eq_true hl0]; rfl)
        clear hl0 e
        go_wp2_with fail
        go_ret
        exact HEND.out _ _ _ HV2.out rfl HBW.out
      · obtain rfl : pl = some ⟨gl, ol, none⟩ := by injection e
        have HV2 : Hid (holdsT (.node 3 l r m i o ts ns) D M = !hL) := Lib.hid (by rw [HV.out, decide_eq_false hl0]; rfl)
        clear hl0 e
        go_wp2_with fail
        go_ret
        exact HEND.out _ _ _ HV2.out rfl HBW.out
    have k3' : (k == 3) = false := by simpa using k3
    have HV : Hid (holdsT (.node k l r m i o ts ns) D M = if m then leafI k i o M ns else leafS k i o D ts) := Lib.hid (HV0.out.trans ((if_neg k1).trans ((if_neg k2).trans (if_neg k3))))
    by_cases k45 : k = 4 ∨ k = 5
    · have KK : Hid (Calls Tryz.prog 88 #[.pointer (some ⟨g, f, none⟩), .agg #[dv, mv]] w1 (TellsB (holdsT (.node k l r m i o ts ns) D M) w1)) := Lib.hid (by
        rw [HV.out]
        cases m with
        | true => exact KI.out rfl k45 w1 (Fr.refl _ _)
        | false => exact KS.out rfl k45 w1 (Fr.refl _ _))
      clear z1 y0 y1 KLG KI KS HV0 HV
      obtain ⟨b, hb⟩ : ∃ b, holdsT (.node k l r m i o ts ns) D M = b := ⟨_, rfl⟩
      have HB := Lib.hid hb
      rw [hb] at KK
      clear hb
      rcases k45 with rfl | rfl
      all_goals
        go_enter Tryz.func67, Tryz.ntmps67
        go_upto_region 1 with fail
        rw [HY.out, HW1.out]
        go_wp2_with fail
        refine KK.out.mono ?_
        rintro e w3 ⟨rfl, f3⟩
        have HF3 := Lib.hid f3
        clear f3
        go_wp2_with fail
        go_ret
        exact HEND.out _ _ _ HB.out rfl HF3.out
    · have k4' : (k == 4) = false := by simp; omega
      have k5' : (k == 5) = false := by simp; omega
      have HV2 : Hid (holdsT (.node k l r m i o ts ns) D M = false) := Lib.hid (by
        rw [HV.out, leafI_other _ _ (by omega) (by omega), leafS_other _ _ (by omega) (by omega)]; split <;> rfl)
      clear z1 y0 y1 KLG KI KS HV0 HV
      go_enter Tryz.func67, Tryz.ntmps67
      go_upto_region 1 with fail
      rw [HY.out, HW1.out]
      go_wp2_with fail
      go_ret
      exact HEND.out _ _ _ HV2.out rfl (Fr.refl _ _)
end Go.Proofs.YtlpglijikmnopaaGreatDoor.Bd
namespace Go.Proofs.YtlpglijikmnopaaGreatDoor.Bd
open Go.RowKit Go.Maps Go.Sort
set_option linter.unusedVariables false

set_option maxRecDepth 100000 in
theorem Holds_ref (K K2 : Nat → Prop) (D : List Tx) (M : List Int) (dv mv : Value) (t : Ts) (v : Value) (w : World) (h : TsAt K w t v) (hF : FactAt K2 w D M dv mv) : Calls Tryz.prog 32 #[v, .agg #[dv, mv]] w (TellsB (HoldsB t D M) w) := by
  obtain ⟨w1, hw1⟩ : ∃ w1, w.alloc (.cells #[dv, mv] 63) = w1 := ⟨_, rfl⟩
  obtain ⟨y, hy⟩ : ∃ y, w.heap.size = y := ⟨_, rfl⟩
  have f1 : Fr No w w1 := by rw [← hw1]; exact (Fr.refl No w).alloc _
  have hb : Blk w1 y 63 #[dv, mv] := by rw [← hw1, ← hy]; exact Blk.new w 63 _
  have HG := Lib.hid (nodes_any K t v w1 4097 (h.no f1) (by omega) (by omega))
  have HH := Lib.hid (fun w' f' => holds_ref K K2 D M dv mv t v w' (h.no (f1.trans f' fun _ _ h => h)) (hF.no (f1.trans f' fun _ _ h => h)))
  have HV : Hid (HoldsB t D M = (!greatB t && holdsT t D M)) := Lib.hid rfl
  have hgn := nodes_great t
  obtain ⟨m, hm⟩ : ∃ m, nodesR t 4097 = m := ⟨_, rfl⟩
  rw [hm] at HG hgn
  obtain ⟨gb, hgb⟩ : ∃ b, greatB t = b := ⟨_, rfl⟩
  obtain ⟨hb2, hhb⟩ : ∃ b, holdsT t D M = b := ⟨_, rfl⟩
  rw [hgb] at HV hgn
  rw [hhb] at HH HV
  obtain ⟨p, rfl⟩ : ∃ p, v = .pointer p := by rcases h.ptr with ⟨_, e⟩ | ⟨_, _, _, e⟩ <;> exact ⟨_, e⟩
  have HB := Lib.hid hb
  have HF1 := Lib.hid f1
  have HW1 := Lib.hid hw1
  have HY := Lib.hid hy
  clear h hF hgb hhb hb f1 hw1 hy hm
  cases gb with
  | true =>
    have hmi : (4096 < m) = True := eq_true (of_decide_eq_true hgn)
    clear hgn
    go_enter Tryz.func32, Tryz.ntmps32
    go_upto_region 1 with fail
    rw [HY.out, HW1.out]
    go_wp2_with fail
    refine HG.out.mono ?_
    rintro e w2 ⟨rfl, f2⟩
    have HF2 := Lib.hid (HF1.out.trans f2 fun _ _ h => h)
    clear f2
    go_wp2_with fail
    go_ret
    exact ⟨by rw [HV.out]; rfl, HF2.out⟩
  | false =>
    have hmi : (4096 < m) = False := eq_false (of_decide_eq_false hgn)
    clear hgn
    go_enter Tryz.func32, Tryz.ntmps32
    go_upto_region 1 with fail
    rw [HY.out, HW1.out]
    go_wp2_with fail
    refine HG.out.mono ?_
    rintro e w2 ⟨rfl, f2⟩
    have HF2 := Lib.hid (HF1.out.trans f2 fun _ _ h => h)
    have HC := Lib.hid (HH.out w2 f2)
    have b0 : w2.cell? ⟨y, 0, none⟩ = some dv := (cell_of_heap (f2.block y HB.out.lt id)).trans (HB.out.cell 0)
    have b1 : w2.cell? ⟨y, 1, none⟩ = some mv := (cell_of_heap (f2.block y HB.out.lt id)).trans (HB.out.cell 1)
    clear f2 HH
    go_wp2_with fail
    refine HC.out.mono ?_
    rintro e w3 ⟨rfl, f3⟩
    have HF3 := Lib.hid (HF2.out.trans f3 fun _ _ h => h)
    clear f3
    go_wp2_with fail
    go_ret
    exact ⟨by rw [HV.out]; rfl, HF3.out⟩
end Go.Proofs.YtlpglijikmnopaaGreatDoor.Bd
