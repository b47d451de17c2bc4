/- SetsCross, walked. -/
import Derived.Test.YthejnkpnpckmbaaD4
namespace Go.Proofs.Ythejnkpnpckmbaa
open Go.RowKit Go.Maps
set_option linter.unusedVariables false

theorem row_cell {K : Nat → Prop} {w : World} {A : Option Addr} {n c : Nat} {l : List Nat} (h : RowE K w 1 (natG K w) (.slice A n c) l) {i : Nat} (hi : i < l.length) : ∃ g o, A = some ⟨g, o, none⟩ ∧ w.cell? ⟨g, o + i, none⟩ = some (.int .i64 (l[i] : Nat)) := by
  obtain ⟨g, o, e, _, h2⟩ := row_nth h (by omega)
  exact ⟨g, o, e, h2 i _ (List.getElem?_eq_getElem hi)⟩
theorem mp_lt' (gs : List Gp) : ∀ l ∈ gs.map (esets fourT), ∀ x ∈ l, x < 64 := fun l hl x hx => by
  obtain ⟨g, _, rfl⟩ := List.mem_map.1 hl
  exact esets_lt fourT g x hx
set_option maxRecDepth 100000 in
set_option maxHeartbeats 4000000 in
theorem cross_law {a b : List Gp} {av bv : Value} (w : World) (hA : RowE (Lt w) w 3 (gpG (Lt w) w) av a) (hB : RowE (Lt w) w 3 (gpG (Lt w) w) bv b) (hFa : ∀ g ∈ a, GpF g) (hFb : ∀ g ∈ b, GpF g) (hla : a.length ≤ 1048576) (hlb : b.length ≤ 1048576) :
    Calls Try.prog 5 #[av, bv] w (TellsB true w) := by
  have HAW := Lib.hid (awake_any w)
  have HA := Lib.hid hA
  have HBB := Lib.hid hB
  have HBAD := Lib.hid (both_bad (a := a) (b := b))
  have HMANY := Lib.hid (both_many (a := a) (b := b))
  have HGOOD := Lib.hid (both_good (a := a) (b := b))
  have HLA := Lib.hid (good_of (a := a))
  have HLB := Lib.hid (good_of (a := b))
  have HFA := Lib.hid hFa
  have HFB := Lib.hid hFb
  have HNA := Lib.hid hla
  have HNB := Lib.hid hlb
  obtain ⟨A1, c1, rfl, -, -⟩ := row_len hA
  obtain ⟨A2, c2, rfl, -, -⟩ := row_len hB
  obtain ⟨na, hna⟩ : ∃ na, a.length = na := ⟨_, rfl⟩
  obtain ⟨nb, hnb⟩ : ∃ nb, b.length = nb := ⟨_, rfl⟩
  rw [hna] at HA ⊢
  rw [hnb] at HBB ⊢
  have HNA' := Lib.hid hna
  have HNB' := Lib.hid hnb
  clear hA hB hFa hFb hla hlb hna hnb
  go_enter Try.func5, Try.ntmps5
  go_wp2_with fail
  refine HAW.out.mono ?_
  rintro e w1 ⟨rfl, f1⟩
  obtain ⟨y, hy⟩ : ∃ y, w1.heap.size = y := ⟨_, rfl⟩
  obtain ⟨w2, hw2⟩ : ∃ w2, w1.alloc (.cells #[sv [97], sv [98], sv [99], sv [100]] 9) = w2 := ⟨_, rfl⟩
  have f2 : Fr No w1 w2 := by rw [← hw2]; exact (Fr.refl No w1).alloc _
  have b2 : Blk w2 y 9 #[sv [97], sv [98], sv [99], sv [100]] := by rw [← hw2, ← hy]; exact Blk.new w1 9 _
  have HD2 : Hid (RowE Any w2 1 (strG Any w2) (.slice (some ⟨y, 0, none⟩) 4 4) fourT) := Lib.hid (row_strs (l := fourT) b2 (by decide) (Nat.le_refl _) (by decide))
  have f12 := f1.trans f2 fun _ _ h => h
  have HF2 := Lib.hid f12
  obtain ⟨B, hB⟩ : ∃ B, w2.heap.size = B := ⟨_, rfl⟩
  have hmv : ∀ k, Lt w k → k < w.heap.size → k < B ∧ w2.heap[k]? = w.heap[k]? := fun k hk hl => ⟨by have := f12.size; omega, f12.block k hl id⟩
  have HA2 : Hid (RowE (fun k => k < B) w2 3 (gpG (fun k => k < B) w2) (.slice A1 na c1) a) := Lib.hid (HA.out.mono hmv fun x cs hx => gpG_elem.mono _ _ _ _ _ _ hx hmv)
  have HB2 : Hid (RowE (fun k => k < B) w2 3 (gpG (fun k => k < B) w2) (.slice A2 nb c2) b) := Lib.hid (HBB.out.mono hmv fun x cs hx => gpG_elem.mono _ _ _ _ _ _ hx hmv)
  have hg0 : GrowK (fun k => k < B) 0 38 3 gpG w2 (.slice none ([] : List Gp).length 0) [] := ⟨[], ⟨by simp, .inl ⟨rfl, rfl⟩⟩, fun j hj => absurd hj (by simp), fun k hk => ⟨Nat.zero_le _, by omega, by simp [Value.ownBlock]⟩⟩
  obtain ⟨A3, c3, w3, hrun3, hg3, hf3, ho3⟩ := hg0.join (bytes := 56) gpG_elem 39 Try.underlying39 (.agg #[.int .i64 0, .slice none 0 0, .slice none 0 0]) (by kernel_rfl) rfl (by decide) HA2.out gp_one (by have := HNA.out; simp; omega) (by have := HNA.out; simp; unfold maxLen; omega)
  have e3 : ([] : List Gp).length + a.length = na := by rw [HNA'.out]; exact Nat.zero_add _
  rw [e3] at hrun3 hg3 ho3
  rw [List.nil_append] at hg3
  have fr3 : Fr No w2 w3 := hf3.mono fun k _ hk => by simp [Value.ownBlock] at hk
  have hown3 : ∀ k, (Value.slice A3 na c3).ownBlock = some k → B ≤ k := fun k hk => by
    rcases ho3 k hk with h | h
    · simp [Value.ownBlock] at h
    · omega
  have hg3' : GrowK (fun k => k < B) 0 38 3 gpG w3 (.slice A3 a.length c3) a := by rw [HNA'.out]; exact hg3
  have hkB : ∀ k, k < B → k < w2.heap.size → k < B ∧ w3.heap[k]? = w2.heap[k]? := fun k hk hl => ⟨hk, fr3.block k hl id⟩
  have HB3 : RowE (fun k => k < B) w3 3 (gpG (fun k => k < B) w3) (.slice A2 nb c2) b := HB2.out.mono hkB fun x cs hx => gpG_elem.mono _ _ _ _ _ _ hx hkB
  obtain ⟨A4, c4, w4, hrun4, hg4, hf4, ho4⟩ := hg3'.join (bytes := 56) gpG_elem 39 Try.underlying39 (.agg #[.int .i64 0, .slice none 0 0, .slice none 0 0]) (by kernel_rfl) rfl (by decide) HB3 gp_one (by have := HNA.out; have := HNB.out; omega) (by have := HNA.out; have := HNB.out; unfold maxLen; omega)
  have fr4 : Fr No w2 w4 := ⟨hf4.os.trans fr3.os, hf4.tape.trans fr3.tape, hf4.output.trans fr3.output, Nat.le_trans fr3.size hf4.size, fun k hk _ => (hf4.block k (Nat.lt_of_lt_of_le hk fr3.size) fun e => by rw [HNA'.out] at e; have := hown3 k e; omega).trans (fr3.block k hk id)⟩
  have HG4 : Hid (RowE Any w4 3 (gpG Any w4) (.slice A4 (a.length + b.length) c4) (a ++ b)) := Lib.hid (row_any gpG_elem (hg4.grow.row gpG_elem))
  rw [HNA'.out] at hrun4
  rw [HNA'.out] at HG4
  rw [HNB'.out] at hrun4 HG4
  have HRUN3 : Hid (∀ (ty : TypeId), (Builtin.append_ #[39, 39] ty #[.slice none 0 0, .slice A1 na c1]).run Try.prog w2 = .ok (.slice A3 na c3) w3) := Lib.hid hrun3
  have HRUN4 := Lib.hid hrun4
  have HF4 := Lib.hid (f12.trans fr4 fun _ _ h => h)
  have HD4 := Lib.hid (HD2.out.at_ strG_elem fr4)
  have HA4 := Lib.hid (row_any gpG_elem (HA.out.at_ gpG_elem HF4.out))
  have HB4 := Lib.hid (row_any gpG_elem (HBB.out.at_ gpG_elem HF4.out))
  have hC1 := expand_any w4 HD4.out HA4.out HFA.out (by have := HNA.out; omega)
  have HY := Lib.hid hy
  have HW2 := Lib.hid hw2
  obtain ⟨RA, hRA⟩ : ∃ R, expandL fourT a = R := ⟨_, rfl⟩
  obtain ⟨RB, hRB⟩ : ∃ R, expandL fourT b = R := ⟨_, rfl⟩
  obtain ⟨RC, hRC⟩ : ∃ R, expandL fourT (a ++ b) = R := ⟨_, rfl⟩
  rw [hRA] at hC1
  rw [hRA, hRB] at HMANY HGOOD HBAD
  rw [hRC] at HMANY HGOOD HBAD
  rw [hRA] at HLA
  rw [hRB] at HLB
  have HC1 := Lib.hid hC1
  have HRB := Lib.hid hRB
  have HRC := Lib.hid hRC
  clear hy hw2 f2 b2 f1 f12 hmv hg0 hrun3 hg3 hf3 ho3 e3 fr3 hown3 hg3' hkB HB3 hrun4 hg4 hf4 ho4 fr4 hC1 hRA hRB hRC HA2 HB2 HAW hB HA HBB HD2
  go_upto_region 3 with fail
  rw [HY.out, HW2.out]
  go_upto_region 5 with (at_builtin; refine wpList_add rfl _ _ _ _ rfl _ _ _ _ rfl rfl (HRUN3.out _) ?_)
  clear HRUN3
  go_upto_region 6 with (at_builtin; refine wpList_add rfl _ _ _ _ rfl _ _ _ _ rfl rfl (HRUN4.out _) ?_)
  clear HRUN4
  go_wp2_with fail
  refine HC1.out.mono ?_
  rintro e w5 ⟨v5, rfl, hr5, f5⟩
  obtain ⟨la, ea⟩ := RA
  have HF5 := Lib.hid (HF4.out.trans f5 fun _ _ h => h)
  have HX5 := Lib.hid (row_any natG_elem hr5)
  have HC2 := Lib.hid (expand_any w5 (HD4.out.at_ strG_elem f5) (HB4.out.at_ gpG_elem f5) HFB.out (by have := HNB.out; omega))
  have HD5 := Lib.hid (HD4.out.at_ strG_elem f5)
  have HG5 := Lib.hid (HG4.out.at_ gpG_elem f5)
  obtain ⟨A5, c5, rfl, hq5, hp5⟩ := row_len hr5
  simp only at HX5 hq5 HMANY HGOOD HBAD HLA ⊢
  obtain ⟨L, hL⟩ : ∃ L, la.length = L := ⟨_, rfl⟩
  rw [hL] at HX5 hq5 ⊢
  have HL := Lib.hid hL
  rw [HRB.out] at HC2
  unfold maxLen at hp5
  clear hr5 f5 hL HC1
  go_wp2_with fail
  refine HC2.out.mono ?_
  rintro e w6 ⟨v6, rfl, hr6, f6⟩
  obtain ⟨lb, eb⟩ := RB
  have HF6 := Lib.hid (HF5.out.trans f6 fun _ _ h => h)
  have HX6 := Lib.hid (row_any natG_elem hr6)
  have HX5a := Lib.hid (HX5.out.at_ natG_elem f6)
  have HC3 := Lib.hid (expand_any w6 (HD5.out.at_ strG_elem f6) (HG5.out.at_ gpG_elem f6) (fun g hg => (List.mem_append.1 hg).elim (HFA.out g) (HFB.out g)) (by have := HNA.out; have := HNB.out; rw [List.length_append]; omega))
  obtain ⟨A6, c6, rfl, hq6, hp6⟩ := row_len hr6
  simp only at HX6 hq6 HMANY HGOOD HBAD HLB ⊢
  obtain ⟨M, hM⟩ : ∃ M, lb.length = M := ⟨_, rfl⟩
  rw [hM] at HX6 hq6 ⊢
  have HM := Lib.hid hM
  rw [HRC.out] at HC3
  unfold maxLen at hp6
  clear hr6 f6 hM HC2 HX5
  go_wp2_with fail
  refine HC3.out.mono ?_
  rintro e w7 ⟨v7, rfl, hr7, f7⟩
  obtain ⟨lc, ec⟩ := RC
  have HF7 := Lib.hid (HF6.out.trans f7 fun _ _ h => h)
  have HX7 := Lib.hid (row_any natG_elem hr7)
  have HX6a := Lib.hid (HX6.out.at_ natG_elem f7)
  have HX5b := Lib.hid (HX5a.out.at_ natG_elem f7)
  obtain ⟨A7, c7, rfl, hq7, hp7⟩ := row_len hr7
  simp only at HX7 hq7 HMANY HGOOD HBAD ⊢
  obtain ⟨Nn, hNn⟩ : ∃ N, lc.length = N := ⟨_, rfl⟩
  rw [hNn] at HX7 hq7 ⊢
  have HNn := Lib.hid hNn
  unfold maxLen at hp7
  clear hr7 f7 hNn HC3 HX6 HX5a HD4 HD5 HG4 HG5 HA4 HB4
  by_cases hea : ea = 0
  · by_cases heb : eb = 0
    · subst hea heb
      have hL64 : L ≤ 64 := by
        obtain ⟨_, _, h3, _, h5⟩ := HLA.out rfl
        have := HL.out; omega
      have hM64 : M ≤ 64 := by
        obtain ⟨_, _, h3, _, h5⟩ := HLB.out rfl
        have := HM.out; omega
      obtain ⟨P, hP⟩ : ∃ P, L * M = P := ⟨_, rfl⟩
      have hPle : P ≤ 64 * 64 := by rw [← hP]; exact Nat.mul_le_mul hL64 hM64
      have hmul : (L : Int) * (M : Int) = (P : Int) := by rw [← hP]; simp
      have hPlen : la.length * lb.length = P := by rw [HL.out, HM.out, hP]
      by_cases h64 : 64 < P
      · have hm := HMANY.out rfl rfl (by omega)
        injection hm with h1 h2
        have h0 : Nn = 0 := by rw [← HNn.out, h1]; rfl
        subst h0 h2
        have h64i : (64 : Int) < (P : Int) := by omega
        clear h1 hPlen hP HLA HLB HMANY HGOOD HBAD
        go_wp2_with fail
        go_ret
        exact ⟨rfl, HF7.out⟩
      · obtain ⟨h1, h2, h3⟩ := HGOOD.out rfl rfl (by omega)
        have h0 : Nn = P := by rw [← HNn.out, h2, hPlen]
        subst h0 h1
        have h64i : ¬ (64 : Int) < (Nn : Int) := by omega
        have HP := Lib.hid hP
        have H3 : Hid (∀ i k, (hi : i < la.length) → (hk : k < lb.length) → lc[i * M + k]? = some (la[i] ||| lb[k])) := Lib.hid (by rw [← HM.out]; exact h3)
        have HLT : Hid (∀ i, (hi : i < la.length) → la[i] < 64) := Lib.hid fun i hi => by
          have := (HLA.out rfl).2.2.2.1
          have h5 : ∀ x ∈ la, x < 64 := by rw [this, crossL_eq]; exact choose_lt _ 0 (by decide) (mp_lt' a)
          exact h5 _ (List.getElem_mem hi)
        have HLT2 : Hid (∀ i, (hi : i < lb.length) → lb[i] < 64) := Lib.hid fun i hi => by
          have := (HLB.out rfl).2.2.2.1
          have h5 : ∀ x ∈ lb, x < 64 := by rw [this, crossL_eq]; exact choose_lt _ 0 (by decide) (mp_lt' b)
          exact h5 _ (List.getElem_mem hi)
        clear h2 h3 hPlen hP HLA HLB HMANY HGOOD HBAD
        go_wp2_with fail
        go_loopg [14, 15] L (fun g r14 r15 wr => Hid (∃ i : Nat, r14 = .int .i64 (i : Nat) ∧ i + g = L ∧ Fr No w7 wr))
        case atStart => exact Lib.hid ⟨0, rfl, by omega, Fr.refl _ _⟩
        case round =>
        obtain ⟨i, rfl, hiL, hf⟩ := hrel.out
        clear hrel
        have HFO := Lib.hid hf
        by_cases hi : i < L
        · have hii : (i : Int) < (L : Int) := by omega
          rename World => wo
          obtain ⟨g0, rfl⟩ : ∃ g0, gk = g0 + 1 := ⟨gk - 1, by omega⟩
          obtain ⟨q, hq⟩ : ∃ q, i * M = q := ⟨_, rfl⟩
          have HQ := Lib.hid hq
          have hqP : q + M ≤ Nn := by
            rw [← hq, ← HP.out]
            have := Nat.mul_le_mul_right M (show i + 1 ≤ L by omega)
            rw [Nat.succ_mul] at this
            exact this
          have hqm : (i : Int) * (M : Int) = (q : Int) := by rw [← hq]; simp
          have hil : i < la.length := by rw [HL.out]; exact hi
          clear hq hf
          go_wp2_with fail
          go_loopg [15] M (fun g r15 wr => Hid (∃ k : Nat, r15 = .int .i64 (k : Nat) ∧ k + g = M ∧ Fr No w7 wr))
          case atStart => exact Lib.hid ⟨0, rfl, by omega, HFO.out⟩
          case round =>
          obtain ⟨k, rfl, hkM, hf⟩ := hrel.out
          clear hrel
          have HFI := Lib.hid hf
          by_cases hk : k < M
          · have hki : (k : Int) < (M : Int) := by omega
            have hkl : k < lb.length := by rw [HM.out]; exact hk
            have hv := H3.out i k hil hkl
            rw [HQ.out] at hv
            have hcl : q + k < lc.length := (List.getElem?_eq_some_iff.1 hv).1
            have hcv : lc[q + k] = (la[i] ||| lb[k]) := (List.getElem?_eq_some_iff.1 hv).2
            obtain ⟨g7, o7, rfl, d7⟩ := row_cell (HX7.out.at_ natG_elem hf) hcl
            obtain ⟨g5, o5, rfl, d5⟩ := row_cell (HX5b.out.at_ natG_elem hf) hil
            obtain ⟨g6, o6, rfl, d6⟩ := row_cell (HX6a.out.at_ natG_elem hf) hkl
            have hx := HLT.out i hil
            have hy2 := HLT2.out k hkl
            rw [hcv] at d7
            have hor : bits .or .i64 ((la[i] : Nat) : Int) ((lb[k] : Nat) : Int) = ((la[i] ||| lb[k] : Nat) : Int) := i64_or_nat _ _ (by omega) (by omega)
            generalize la[i] ||| lb[k] = z at *
            generalize la[i] = x at *
            generalize lb[k] = x2 at *
            have hqk : (q : Int) + (k : Int) = ((q + k : Nat) : Int) := by omega
            have hqk2 : ((q + k : Nat) : Int) < (Nn : Int) := by omega
            obtain ⟨t, ht⟩ : ∃ t, q + k = t := ⟨_, rfl⟩
            rw [ht] at hqk hqk2 d7
            clear hv hcl hcv hx hy2 hf hkl ht
            go_upto_region 21 with fail
            go_quiet (fail)
            go_wp2_with fail
            obtain ⟨g1, rfl⟩ : ∃ g1, gk = g1 + 1 := ⟨gk - 1, by omega⟩
            go_roundg g1
            case rel => exact Lib.hid ⟨k + 1, by go_num, by omega, HFI.out.trans ((Fr.refl No wr).drewN _) fun _ _ h => h⟩
            all_goals omega
          · have hki : (M : Int) ≤ (k : Int) := by omega
            clear hf
            go_wp2_with fail
            go_roundg g0
            case rel => exact Lib.hid ⟨i + 1, by go_num, by omega, HFI.out⟩
            all_goals omega
        · have hii : (L : Int) ≤ (i : Int) := by omega
          clear hf
          go_wp2_with fail
          go_ret
          exact ⟨rfl, HF7.out.trans HFO.out fun _ _ h => h⟩
    · have h0 : Nn = 0 := by rw [← HNn.out, HBAD.out (.inr heb)]; rfl
      subst h0 hea
      have hebb : (eb == 0) = false := by simpa using heb
      clear heb
      go_wp2_with fail
      all_goals
        go_ret
        exact ⟨by first | rfl | (simp; done) | (simp_all; done), HF7.out⟩
  · have h0 : Nn = 0 := by rw [← HNn.out, HBAD.out (.inl hea)]; rfl
    subst h0
    have heab : (ea == 0) = false := by simpa using hea
    clear hea
    go_wp2_with fail
    all_goals
      go_ret
      exact ⟨by first | rfl | (simp; done) | (simp_all; done), HF7.out⟩
end Go.Proofs.Ythejnkpnpckmbaa
