/- Merge. -/
import Derived.Test.YtlpglijikmnopaaGreatDoorB4
namespace Go.Proofs.YtlpglijikmnopaaGreatDoor
open Go.RowKit Go.Maps Go.Sort
set_option linter.unusedVariables false

def mgO : Option Pt → Option Pt → Option Pt
  | some p, some q => some (bothP p q)
  | some p, none => some p
  | none, o => o
theorem mergeL_get : ∀ (l m : List Pt) (i : Nat), (mergeL l m)[i]? = mgO l[i]? m[i]?
  | [], m, i => by unfold mergeL; simp [mgO]
  | p :: l, [], i => by unfold mergeL; rw [List.getElem?_nil]; cases (p :: l)[i]? <;> rfl
  | p :: l, q :: m, 0 => by unfold mergeL; simp [mgO]
  | p :: l, q :: m, i + 1 => by
    unfold mergeL
    simp only [List.getElem?_cons_succ]
    exact mergeL_get l m i
theorem bothP_comm (p q : Pt) : bothP p q = bothP q p := by
  unfold bothP
  cases p.any <;> cases q.any <;> simp [plusS_comm p.s q.s, Int.min_comm p.mn, Int.max_comm p.mx]
theorem mergeL_comm (l m : List Pt) : mergeL l m = mergeL m l := by
  apply List.ext_getElem?
  intro i
  rw [mergeL_get, mergeL_get]
  cases l[i]? <;> cases m[i]? <;> simp [mgO, bothP_comm]
theorem mergeL_len {l m : List Pt} (h : m.length ≤ l.length) : (mergeL l m).length = l.length := by
  have hh : ∀ i, ((mergeL l m)[i]?).isSome = (l[i]?).isSome := fun i => by
    rw [mergeL_get]
    cases e : l[i]? with
    | some p => cases m[i]? <;> rfl
    | none =>
      have := List.getElem?_eq_none_iff.1 e
      rw [List.getElem?_eq_none (show m.length ≤ i by omega)]; rfl
  rcases Nat.lt_trichotomy (mergeL l m).length l.length with h1 | h1 | h1
  · have := hh (mergeL l m).length
    rw [List.getElem?_eq_none (Nat.le_refl _), List.getElem?_eq_getElem h1] at this
    cases this
  · exact h1
  · have := hh l.length
    rw [List.getElem?_eq_none (Nat.le_refl l.length), List.getElem?_eq_getElem h1] at this
    cases this
theorem mergeL_ok {l m : List Pt} (hl : ∀ p ∈ l, p.ok) (hm : ∀ p ∈ m, p.ok) : ∀ p ∈ mergeL l m, p.ok := by
  intro p hp
  obtain ⟨i, hi⟩ := List.getElem?_of_mem hp
  rw [mergeL_get] at hi
  cases e1 : l[i]? with
  | none => rw [e1] at hi; exact hm p (List.mem_of_getElem? hi)
  | some x =>
    have hx := hl x (List.mem_of_getElem? e1)
    cases e2 : m[i]? with
    | none => rw [e1, e2] at hi; injection hi with hi; rw [← hi]; exact hx
    | some y => rw [e1, e2] at hi; injection hi with hi; rw [← hi]; exact bothP_ok hx (hm y (List.mem_of_getElem? e2))
theorem mergeL_at {l m : List Pt} {j : Nat} (hj : j < l.length) (hm : m.length ≤ l.length) : (mergeL l (m.take j))[j]'(by rw [mergeL_len (by rw [List.length_take]; omega)]; exact hj) = l[j] := by
  have h := mergeL_get l (m.take j) j
  rw [List.getElem?_eq_getElem (by rw [mergeL_len (by rw [List.length_take]; omega)]; exact hj), List.getElem?_eq_getElem hj, List.getElem?_eq_none (by simp; omega)] at h
  simpa [mgO] using h
theorem mergeL_next {l m : List Pt} {j : Nat} (hj : j < l.length) (hm : j < m.length) (hlm : m.length ≤ l.length) : (mergeL l (m.take j)).set j (bothP l[j] m[j]) = mergeL l (m.take (j + 1)) := by
  apply List.ext_getElem?
  intro i
  rw [List.getElem?_set, mergeL_get, mergeL_get, mergeL_len (by rw [List.length_take]; omega)]
  by_cases e : j = i
  · subst e
    rw [if_pos rfl, if_pos hj, List.getElem?_eq_getElem hj, List.getElem?_take, if_pos (by omega), List.getElem?_eq_getElem hm]
    rfl
  · rw [if_neg e]
    by_cases h : i < j
    · rw [List.getElem?_take, if_pos h, List.getElem?_take, if_pos (by omega)]
    · rw [List.getElem?_take, if_neg h, List.getElem?_take, if_neg (by omega)]
set_option maxRecDepth 100000 in
set_option maxHeartbeats 1000000 in
theorem merge_any {K K2 : Nat → Prop} (c1 c2 : Int) (l m : List Pt) (v v2 : Value) (w : World) (h : PR K w v l) (hl : Lok l) (h2 : PR K2 w v2 m) (hm : Lok m) :
    Calls Tryz.prog 79 #[.agg #[.int .i64 c1, v], .agg #[.int .i64 c2, v2]] w (TellsA ⟨w64 (c1 + c2), mergeL l m⟩ w) := by
  obtain ⟨A, ca, rfl, ha1, ha2⟩ := h.form
  obtain ⟨B, cb, rfl, hb1, hb2⟩ := h2.form
  obtain ⟨N, hN⟩ : ∃ N, l.length = N := ⟨_, rfl⟩
  obtain ⟨M, hM⟩ : ∃ M, m.length = M := ⟨_, rfl⟩
  obtain ⟨b, hb⟩ : ∃ b, w.heap.size = b := ⟨_, rfl⟩
  obtain ⟨cn, hcn⟩ : ∃ cn, w64 (c1 + c2) = cn := ⟨_, rfl⟩
  have HCN := Lib.hid hcn
  have ecn : IntKind.i64.wrap (c1 + c2) = cn := by rw [← hcn, IntKind.wrap_i64]; rfl
  obtain ⟨w1, hw1⟩ : ∃ w1, ((w.alloc (.cells #[.int .i64 c1, .slice A N ca] 48)).alloc (.cells #[.int .i64 c2, .slice B M cb] 48)).alloc (.cells #[.int .i64 0, .slice none 0 0] 48) = w1 := ⟨_, rfl⟩
  have f1 : Fr No w w1 := by rw [← hw1]; exact (((Fr.refl No w).alloc _).alloc _).alloc _
  have hx : Blk w1 b 48 #[.int .i64 c1, .slice A N ca] := by rw [← hw1, ← hb]; exact (Blk.new w 48 _).no (((Fr.refl No _).alloc _).alloc _)
  have hy : Blk w1 (b + 1) 48 #[.int .i64 c2, .slice B M cb] := by rw [← hw1, ← hb]; exact (blk_at1 w _ 48 _).no ((Fr.refl No _).alloc _)
  have hr : Blk w1 (b + 2) 48 #[.int .i64 0, .slice none 0 0] := by rw [← hw1, ← hb]; exact blk_at2 w _ _ 48 _
  have hs1 : w1.heap.size = b + 3 := by rw [← hw1, ← hb]; simp
  rw [hN] at h ha1
  rw [hM] at h2 hb1
  -- which is the longer one
  obtain ⟨L, S, LA, LN, LC, SA, SN, SC, KL, KS, hLN, hSN, hle, hPL, hPS, hLok, hSok, hmg, hcase, hLC, hSC⟩ : ∃ (L S : List Pt) (LA : Option Addr) (LN LC : Nat) (SA : Option Addr) (SN SC : Nat) (KL KS : Nat → Prop), L.length = LN ∧ S.length = SN ∧ SN ≤ LN ∧ PR KL w (.slice LA LN LC) L ∧ PR KS w (.slice SA SN SC) S ∧ Lok L ∧ Lok S ∧ mergeL l m = mergeL L S ∧
      ((N < M ∧ LA = B ∧ LN = M ∧ LC = cb ∧ SA = A ∧ SN = N ∧ SC = ca) ∨ (¬ N < M ∧ LA = A ∧ LN = N ∧ LC = ca ∧ SA = B ∧ SN = M ∧ SC = cb)) ∧ LN ≤ LC ∧ SN ≤ SC := by
    by_cases hlt : N < M
    · exact ⟨m, l, B, M, cb, A, N, ca, K2, K, hM, hN, by omega, h2, h, hm, hl, mergeL_comm l m, .inl ⟨hlt, rfl, rfl, rfl, rfl, rfl, rfl⟩, hb1, ha1⟩
    · exact ⟨l, m, A, N, ca, B, M, cb, K, K2, hN, hM, by omega, h, h2, hl, hm, rfl, .inr ⟨hlt, rfl, rfl, rfl, rfl, rfl, rfl⟩, ha1, hb1⟩
  have HCASE := Lib.hid hcase
  have HCL : Hid (∀ w', Fr No w1 w' → Calls Tryz.prog 56 #[.slice LA LN LC] w' (TellsL L w')) := Lib.hid fun w' f' => clone_any w' (hPL.no (f1.trans f' fun _ _ h => h)) hLok
  have HPL := Lib.hid hPL
  have HPS := Lib.hid hPS
  have HLO := Lib.hid hLok
  have HSO := Lib.hid hSok
  have HMG := Lib.hid hmg
  have HF1 := Lib.hid f1
  have HX := Lib.hid hx
  have HY := Lib.hid hy
  have HR := Lib.hid hr
  have HW1 := Lib.hid hw1
  have HB := Lib.hid hb
  have HS1 := Lib.hid hs1
  have HLN := Lib.hid hLN
  have HSN := Lib.hid hSN
  have hNb : LN ≤ 3518437208880 := by have := hLok.2; omega
  have HNM : Hid (ca ≤ 9223372036854775807 ∧ cb ≤ 9223372036854775807) := Lib.hid (by unfold maxLen at ha2 hb2; omega)
  have x1 := hx.cell 1
  have y1 := hy.cell 1
  rw [hN, hM]
  clear h h2 hl hm hN hM hb hcn hw1 f1 hx hy hr hs1 hPL hPS hLok hSok hmg hcase ha1 ha2 hb1 hb2 hLN hSN
  go_enter Tryz.func79, Tryz.ntmps79
  go_upto_region 1 with fail
  rw [HW1.out, HB.out]
  go_quiet (fail)
  go_upto_if 17 with fail
  go_cut [5, 6] (fun r5 r6 wx => r5 = .slice LA LN LC ∧ r6 = .slice SA SN SC ∧ Hid (Fr No w1 wx))
  case first =>
    rcases HCASE.out with ⟨hlt, rfl, rfl, rfl, rfl, rfl, rfl⟩ | ⟨hlt, rfl, rfl, rfl, rfl, rfl, rfl⟩
    · have d1 : decide (SN < LN) = true := decide_eq_true hlt
      go_wp2_with fail
      go_meet
      exact ⟨rfl, rfl, Lib.hid ((Fr.refl No w1).drewN _)⟩
    · have d1 : decide (LN < SN) = false := decide_eq_false hlt
      go_wp2_with fail
      go_meet
      exact ⟨rfl, rfl, Lib.hid ((Fr.refl No w1).drewN _)⟩
  case rest =>
  obtain ⟨rfl, rfl, HFC⟩ := hcut
  clear x1 y1 HCASE
  go_upto_region 5 with (go_at_call 56; refine (HCL.out _ HFC.out).mono ?_; rintro e w2 ⟨v2, rfl, hpo, f2⟩; have HPO := Lib.hid hpo; have HF2 := Lib.hid f2; clear hpo f2)
  obtain ⟨A2, cc, rfl, g1, g2⟩ := HPO.out.pr.form
  rw [HLN.out]
  have HPO2 : Hid (PO (b + 3) w2 (.slice A2 LN cc) L) := Lib.hid (by
    have h1 := HPO.out.low (b' := b + 3) (by have := HFC.out.size; have := HS1.out; omega)
    rw [HLN.out] at h1
    exact h1)
  rw [HLN.out] at g1
  have HF12 : Hid (Fr No w1 w2) := Lib.hid (HFC.out.trans HF2.out fun _ _ h => h)
  clear HPO HCL HF2 HFC
  go_wp2_with fail
  go_loopg [8, 24] SN (fun k r8 r24 wr => Hid (∃ (j : Nat), r24 = .int .i64 (j : Nat) ∧ j + k = SN ∧ PO (b + 3) wr (.slice A2 LN cc) (mergeL L (S.take j)) ∧ Fr (fun k => b + 3 ≤ k) w2 wr))
  case atStart => exact Lib.hid ⟨0, rfl, by omega, by rw [List.take_zero, show mergeL L [] = L by cases L <;> rfl]; exact HPO2.out, Fr.refl _ _⟩
  case round =>
  obtain ⟨j, rfl, hjk, hp, hf⟩ := hrel.out
  clear hrel
  have hlen : ∀ j, (mergeL L (S.take j)).length = LN := fun j => by
    rw [mergeL_len (by rw [List.length_take]; have := HLN.out; have := HSN.out; omega), HLN.out]
  by_cases hj : j < SN
  · have hji : (j : Int) < (SN : Int) := by omega
    have hjN : (j : Int) < (LN : Int) := by omega
    have hjl : j < L.length := by have := HLN.out; omega
    have hjm : j < S.length := by have := HSN.out; omega
    have hSL : S.length ≤ L.length := by have := HLN.out; have := HSN.out; omega
    obtain ⟨g, rfl, hgb, hgl, -, hz, -⟩ := hp.put (j := j) (by rw [hlen]; omega) Pt.zero
    have hfull : Fr (fun k => b + 3 ≤ k) w wr := ((HF1.out.trans HF12.out fun _ _ h => h).any).trans hf fun _ _ h => h
    have hbb := HB.out
    obtain ⟨g1, o1, rfl, -, -, hL5⟩ := (HPL.out.mono (K' := KL) (fun k hk hkl => ⟨hk, hfull.block k hkl (by omega)⟩) hfull.size).at_ hjl
    obtain ⟨g2, o2, rfl, -, -, hS5⟩ := (HPS.out.mono (K' := KS) (fun k hk hkl => ⟨hk, hfull.block k hkl (by omega)⟩) hfull.size).at_ hjm
    have h5 := hL5 j hjl
    have k5 := hS5 j hjm
    obtain ⟨p, hpp⟩ : ∃ p, L[j] = p := ⟨_, rfl⟩
    obtain ⟨r, hrr⟩ : ∃ p, S[j] = p := ⟨_, rfl⟩
    rw [hpp] at h5
    rw [hrr] at k5
    have hw := both_any p r (by rw [← hpp]; exact HLO.out.1 _ (List.getElem_mem _)) (by rw [← hrr]; exact HSO.out.1 _ (List.getElem_mem _))
    obtain ⟨q, hq⟩ : ∃ q, bothP p r = q := ⟨_, rfl⟩
    rw [hq] at hw
    have HNX : Hid (∀ wx, Fr No wr wx → PO (b + 3) (put5 wx g (j * 5) q) (.slice (some ⟨g, 0, none⟩) LN cc) (mergeL L (S.take (j + 1))) ∧ (∃ x, Five wx g (j * 5) x) ∧ (∀ i, wx.frozen? ⟨g, i, none⟩ = false) ∧ Fr (fun k => b + 3 ≤ k) w2 (put5 wx g (j * 5) q)) := Lib.hid fun wx fx => by
      obtain ⟨g', e, _, _, h5', hz', hp'⟩ := (hp.no fx).put (j := j) (by rw [hlen]; omega) q
      injection e with e
      injection e with e
      subst e
      rw [← hq, ← hpp, ← hrr, mergeL_next hjl hjm hSL, hpp, hrr, hq] at hp'
      exact ⟨hp', ⟨_, h5'⟩, hz', (hf.trans fx.any fun _ _ h => h).put5 fun _ => hgb⟩
    obtain ⟨pa, ⟨ph, pl⟩, pn, px⟩ := p
    obtain ⟨ra, ⟨rh, rl⟩, rn, rx⟩ := r
    obtain ⟨qa, ⟨qh, ql⟩, qn, qx⟩ := q
    have K1 := Lib.hid (fun dd os => tells_grown (w := wr) (fun w' _ => hw w') dd os)
    have y0 := fun dd os => (five_regrown h5 dd os).1
    have y1 := fun dd os => (five_regrown h5 dd os).2.1
    have y2 := fun dd os => (five_regrown h5 dd os).2.2.1
    have y3 := fun dd os => (five_regrown h5 dd os).2.2.2.1
    have y4 := fun dd os => (five_regrown h5 dd os).2.2.2.2
    have s0 := fun dd os => (five_regrown k5 dd os).1
    have s1 := fun dd os => (five_regrown k5 dd os).2.1
    have s2 := fun dd os => (five_regrown k5 dd os).2.2.1
    have s3 := fun dd os => (five_regrown k5 dd os).2.2.2.1
    have s4 := fun dd os => (five_regrown k5 dd os).2.2.2.2
    clear hp hf h5 k5 hz hpp hrr hq hw hfull hL5 hS5 hlen hbb hSL
    go_upto_region 8 with fail
    refine wp_below_tail 12 mixedB (by kernel_rfl) ?_
    simp only [List.take_succ_cons, List.take_zero, List.drop_succ_cons, List.drop_zero]
    repeat (first | go_big_quiet_step (with_reducible exact K1.out _ _) | quiet_step (with_reducible exact K1.out _ _))
    refine wpQuiet_nil ?_
    intro wx hp
    obtain ⟨h1, ⟨x, u0, u1, u2, u3, u4⟩, z, h4⟩ := HNX.out wx (by obtain ⟨p, rfl⟩ := hp; exact fr_reg _ _ _)
    have H1 := Lib.hid h1
    have H4 := Lib.hid h4
    clear hp h1 h4 y0 y1 y2 y3 y4 s0 s1 s2 s3 s4
    go_wp2_with fail
    obtain ⟨g1, rfl⟩ : ∃ g1, gk = g1 + 1 := ⟨gk - 1, by omega⟩
    go_roundg g1
    case rel => exact Lib.hid ⟨j + 1, by go_num, by omega, H1.out, H4.out⟩
    all_goals omega
  · have hji : (SN : Int) ≤ (j : Int) := by omega
    have HEND : Hid (PO (b + 3) wr (.slice A2 LN cc) (mergeL l m) ∧ Fr No w wr) := Lib.hid (by
      have hm := HSN.out
      have hb := HB.out
      rw [List.take_of_length_le (by omega)] at hp
      rw [HMG.out]
      refine ⟨hp, ?_⟩
      refine ((HF1.out.trans HF12.out fun _ _ h => h).mono (G := fun k => b + 3 ≤ k) fun _ _ h => h.elim).trans hf (fun _ _ h => h) |>.mono fun k hk e => by omega)
    have hsz := HF12.out.size
    have hs := HS1.out
    have hbx := (HX.out.no HF12.out).of (hf.block b (by omega) (by omega))
    have hby := (HY.out.no HF12.out).of (hf.block (b + 1) (by omega) (by omega))
    have hbr := (HR.out.no HF12.out).of (hf.block (b + 2) (by omega) (by omega))
    have x0 := hbx.cell 0
    have y0 := hby.cell 0
    obtain ⟨r0, r1, z0, z1⟩ := blk2 hbr
    clear hp hf hsz hs hbx hby hbr hlen
    go_wp2_with fail
    refine bodyPost_ret (v := .agg #[.int .i64 cn, .slice A2 LN cc]) (by simp [results, Tryz.results79, go_sem, r0, r1]) rfl ⟨.slice A2 LN cc, ?_, ?_, ?_⟩
    · show _ = Ending.returned (.agg #[.int .i64 (w64 (c1 + c2)), _])
      rw [HCN.out]
    · have hbb := HB.out
      exact ((HEND.out.1.set_low (by omega) _).set_low (by omega) _).low (by omega)
    · have hbb : w.heap.size ≤ b + 2 := by have := HB.out; omega
      refine Fr.set_new (Fr.set_new ?_ hbb _) hbb _
      exact HEND.out.2
end Go.Proofs.YtlpglijikmnopaaGreatDoor
