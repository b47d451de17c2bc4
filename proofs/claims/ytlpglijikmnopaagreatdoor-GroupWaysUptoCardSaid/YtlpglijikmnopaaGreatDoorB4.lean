/- Take. -/
import Derived.Test.YtlpglijikmnopaaGreatDoorB3
namespace Go.Proofs.YtlpglijikmnopaaGreatDoor
open Go.RowKit Go.Maps Go.Sort
set_option linter.unusedVariables false

theorem takeL_get : ∀ (l : List Pt) (ns : List Int) (i : Nat), (takeL l ns)[i]? = (l[i]?).map fun p => match ns[i]? with | some n => withP p n | none => p
  | [], ns, i => by unfold takeL; simp
  | p :: l, [], i => by unfold takeL; simp
  | p :: l, n :: ns, 0 => by unfold takeL; simp
  | p :: l, n :: ns, i + 1 => by
    unfold takeL
    simp only [List.getElem?_cons_succ]
    exact takeL_get l ns i
theorem takeL_len (l : List Pt) (ns : List Int) : (takeL l ns).length = l.length := by
  have h : ∀ i, ((takeL l ns)[i]?).isSome = (l[i]?).isSome := fun i => by rw [takeL_get]; cases l[i]? <;> rfl
  rcases Nat.lt_trichotomy (takeL l ns).length l.length with h1 | h1 | h1
  · have := h (takeL l ns).length
    rw [List.getElem?_eq_none (Nat.le_refl _), List.getElem?_eq_getElem h1] at this
    cases this
  · exact h1
  · have := h l.length
    rw [List.getElem?_eq_none (Nat.le_refl l.length), List.getElem?_eq_getElem h1] at this
    cases this
theorem takeL_ok {l : List Pt} {ns : List Int} (hl : ∀ p ∈ l, p.ok) (hn : ∀ n ∈ ns, i64 n) : ∀ p ∈ takeL l ns, p.ok := by
  intro p hp
  obtain ⟨i, hi⟩ := List.getElem?_of_mem hp
  rw [takeL_get] at hi
  obtain ⟨q, hq, rfl⟩ := Option.map_eq_some_iff.1 hi
  have hq2 := hl q (List.mem_of_getElem? hq)
  cases h : ns[i]? with
  | none => exact hq2
  | some n => exact withP_ok hq2 (hn n (List.mem_of_getElem? h))
theorem takeL_at {l : List Pt} {ns : List Int} {j : Nat} (hj : j < l.length) : (takeL l (ns.take j))[j]'(by rw [takeL_len]; exact hj) = l[j] := by
  have h := takeL_get l (ns.take j) j
  rw [List.getElem?_eq_getElem (by rw [takeL_len]; exact hj), List.getElem?_eq_getElem hj, List.getElem?_eq_none (by simp; omega)] at h
  simpa using h
theorem takeL_next {l : List Pt} {ns : List Int} {j : Nat} (hj : j < l.length) (hm : j < ns.length) : (takeL l (ns.take j)).set j (withP l[j] ns[j]) = takeL l (ns.take (j + 1)) := by
  apply List.ext_getElem?
  intro i
  rw [List.getElem?_set, takeL_get, takeL_get, takeL_len]
  by_cases e : j = i
  · subst e
    rw [if_pos rfl, if_pos hj, List.getElem?_eq_getElem hj, List.getElem?_take, if_pos (by omega), List.getElem?_eq_getElem hm]
    rfl
  · rw [if_neg e]
    by_cases h : i < j
    · rw [List.getElem?_take, if_pos h, List.getElem?_take, if_pos (by omega)]
    · rw [List.getElem?_take, if_neg h, List.getElem?_take, if_neg (by omega)]
theorem takeL_all {l : List Pt} {ns : List Int} {j : Nat} (h : l.length ≤ j ∨ ns.length ≤ j) : takeL l (ns.take j) = takeL l ns := by
  apply List.ext_getElem?
  intro i
  rw [takeL_get, takeL_get, List.getElem?_take]
  by_cases e : i < j
  · rw [if_pos e]
  · rw [if_neg e]
    rcases h with h | h
    · rw [List.getElem?_eq_none (by omega)]; rfl
    · rw [List.getElem?_eq_none (show ns.length ≤ i by omega)]
theorem PO.set_low {b z o : Nat} {w : World} {v : Value} {l : List Pt} (h : PO b w v l) (hz : z < b) (u : Value) : PO b (w.setCell ⟨z, o, none⟩ u) v l := by
  rcases h with h | ⟨g, c, cs, h1, h2, h3, h4, h5, h6⟩
  · exact .inl h
  · exact .inr ⟨g, c, cs, h1, h2, h3, h4, h5.set_other (by omega) _, h6⟩
/-- A call that tells an accumulator of its own. -/
def TellsA (a : Ac) (w : World) (e : Ending) (w' : World) : Prop := ∃ v, e = .returned (.agg #[.int .i64 a.count, v]) ∧ PO w.heap.size w' v a.parts ∧ Fr No w w'
theorem five_regrown {w : World} {g o : Nat} {p : Pt} (h : Five w g o p) (dd : Nat) (os : Array Obj) : (grow (redrawn w dd) os).cell? ⟨g, o, none⟩ = some (.bool p.any) ∧ (grow (redrawn w dd) os).cell? ⟨g, o + 1, none⟩ = some (.int .i64 p.s.hi) ∧ (grow (redrawn w dd) os).cell? ⟨g, o + 2, none⟩ = some (.int .u64 p.s.lo) ∧ (grow (redrawn w dd) os).cell? ⟨g, o + 3, none⟩ = some (.int .i64 p.mn) ∧ (grow (redrawn w dd) os).cell? ⟨g, o + 4, none⟩ = some (.int .i64 p.mx) :=
  ⟨cell_regrown h.1 dd os, cell_regrown h.2.1 dd os, cell_regrown h.2.2.1 dd os, cell_regrown h.2.2.2.1 dd os, cell_regrown h.2.2.2.2 dd os⟩
theorem row_int {K : Nat → Prop} {w : World} {v : Value} {l : List Int} (h : RowE K w 1 (intG K w) v l) : ∃ A c, v = .slice A l.length c ∧ l.length ≤ c ∧ c ≤ maxLen ∧ ∀ j (hj : j < l.length), ∃ g off, A = some ⟨g, off, none⟩ ∧ g < w.heap.size ∧ w.cell? ⟨g, off + j, none⟩ = some (.int .i64 l[j]) ∧ i64 l[j] := by
  obtain ⟨A, c, e, h1, h2, h3⟩ := h
  refine ⟨A, c, e, h1, h2, fun j hj => ?_⟩
  obtain ⟨g, off, rfl, hK, hg, hel⟩ := h3 (by omega)
  obtain ⟨cs, _, hcs, hE⟩ := hel j hj
  exact ⟨g, off, rfl, hg, by have := hcs 0 (by decide); rw [hE.1] at this; simpa using this, hE.2⟩
set_option maxRecDepth 100000 in
set_option maxHeartbeats 1000000 in
theorem take_any {K Km : Nat → Prop} (cnt : Int) (l : List Pt) (ns : List Int) (v mv : Value) (w : World) (h : PR K w v l) (hl : Lok l) (hm : RowE Km w 1 (intG Km w) mv ns) :
    Calls Tryz.prog 40 #[.agg #[.int .i64 cnt, v], mv] w (TellsA ⟨w64 (cnt + 1), takeL l ns⟩ w) := by
  obtain ⟨A, c, rfl, hc1, hc2⟩ := h.form
  obtain ⟨Am, cm, rfl, hm1, hm2, hmc⟩ := row_int hm
  obtain ⟨N, hN⟩ : ∃ N, l.length = N := ⟨_, rfl⟩
  obtain ⟨M, hM⟩ : ∃ M, ns.length = M := ⟨_, rfl⟩
  obtain ⟨b, hb⟩ : ∃ b, w.heap.size = b := ⟨_, rfl⟩
  obtain ⟨cn, hcn⟩ : ∃ cn, w64 (cnt + 1) = cn := ⟨_, rfl⟩
  have HCN := Lib.hid hcn
  have ecn : IntKind.i64.wrap (cnt + 1) = cn := by rw [← hcn, IntKind.wrap_i64]; rfl
  obtain ⟨w1, hw1⟩ : ∃ w1, (w.alloc (.cells #[.int .i64 cnt, .slice A N c] 48)).alloc (.cells #[.int .i64 0, .slice none 0 0] 48) = w1 := ⟨_, rfl⟩
  have f1 : Fr No w w1 := by rw [← hw1]; exact ((Fr.refl No w).alloc _).alloc _
  have hx : Blk w1 b 48 #[.int .i64 cnt, .slice A N c] := by rw [← hw1, ← hb]; exact (Blk.new w 48 _).no ((Fr.refl No _).alloc _)
  have hr : Blk w1 (b + 1) 48 #[.int .i64 0, .slice none 0 0] := by rw [← hw1, ← hb]; exact blk_at1 w _ 48 _
  have hs1 : w1.heap.size = b + 2 := by rw [← hw1, ← hb]; simp
  have HCL : Hid (∀ w', Fr No w1 w' → Calls Tryz.prog 56 #[.slice A N c] w' (TellsL l w')) := Lib.hid fun w' f' => by
    have hh := h.no (f1.trans f' fun _ _ h => h)
    rw [hN] at hh
    exact clone_any w' hh hl
  have HL := Lib.hid hl
  have HMC := Lib.hid hmc
  have HF1 := Lib.hid f1
  have HX := Lib.hid hx
  have HR := Lib.hid hr
  have HW1 := Lib.hid hw1
  have HB := Lib.hid hb
  have HS1 := Lib.hid hs1
  have HN := Lib.hid hN
  have HM := Lib.hid hM
  obtain ⟨Kk, hK⟩ : ∃ k, min N M = k := ⟨_, rfl⟩
  have e1 : (if M < N then (M : Int) else (N : Int)) = (Kk : Int) := by split <;> omega
  have HK := Lib.hid hK
  have hKN : Kk ≤ N := by omega
  have hKM : Kk ≤ M := by omega
  have hNb : N ≤ 9223372036854775807 := by unfold maxLen at hc2; omega
  rw [hN, hM]
  rw [hN] at hc1
  rw [hM] at hm1
  unfold maxLen at hc2 hm2
  have x1 := hx.cell 1
  clear h hl hm hmc hN hM hb hcn hw1 f1 hx hr hs1 hK
  go_enter Tryz.func40, Tryz.ntmps40
  go_upto_region 1 with fail
  rw [HW1.out, HB.out]
  go_upto_region 2 with (go_at_call 56; refine (HCL.out _ (Fr.refl _ _)).mono ?_; rintro e w2 ⟨v2, rfl, hpo, f2⟩; have HPO := Lib.hid hpo; have HF2 := Lib.hid f2; clear hpo f2)
  clear x1
  obtain ⟨A2, c2, rfl, g1, g2⟩ := HPO.out.pr.form
  rw [HN.out]
  have HPO2 : Hid (PO (b + 2) w2 (.slice A2 N c2) l) := Lib.hid (by have := HPO.out; rw [HN.out, HS1.out] at this; exact this)
  rw [HN.out] at g1
  unfold maxLen at g2
  clear HPO HCL
  go_wp2_with fail
  clear e1
  go_loopg [6, 15] Kk (fun k r6 r15 wr => Hid (∃ (j : Nat), r15 = .int .i64 (j : Nat) ∧ j + k = Kk ∧ PO (b + 2) wr (.slice A2 N c2) (takeL l (ns.take j)) ∧ Fr (fun k => b + 2 ≤ k) w2 wr))
  case atStart => exact Lib.hid ⟨0, rfl, by omega, by rw [List.take_zero, show takeL l [] = l by cases l <;> rfl]; exact HPO2.out, Fr.refl _ _⟩
  case round =>
  obtain ⟨j, rfl, hjk, hp, hf⟩ := hrel.out
  clear hrel
  by_cases hj : j < Kk
  · have hji : (j : Int) < (Kk : Int) := by omega
    have hjN : (j : Int) < (N : Int) := by omega
    have hjM : (j : Int) < (M : Int) := by omega
    have hjl : j < l.length := by have := HN.out; omega
    have hjm : j < ns.length := by have := HM.out; omega
    obtain ⟨g, rfl, hgb, hgl, h5, hz, -⟩ := hp.put (j := j) (by rw [takeL_len]; exact hjl) Pt.zero
    rw [takeL_at hjl] at h5
    obtain ⟨gm, om, rfl, hgm, hcm, him⟩ := HMC.out j hjm
    have hcm2 : wr.cell? ⟨gm, om + j, none⟩ = some (.int .i64 ns[j]) := by
      have hsz := HF1.out.size
      have hsz2 := HF2.out.size
      have hs := HS1.out
      have hbb := HB.out
      rw [cell_of_heap (hf.block gm (by omega) (by omega)), cell_of_heap (HF2.out.block gm (by omega) id), cell_of_heap (HF1.out.block gm hgm id)]
      exact hcm
    obtain ⟨n, hn⟩ : ∃ n, ns[j] = n := ⟨_, rfl⟩
    obtain ⟨p, hpp⟩ : ∃ p, l[j] = p := ⟨_, rfl⟩
    rw [hn] at hcm2 him
    rw [hpp] at h5
    have hpok : p.ok := by rw [← hpp]; exact HL.out.1 _ (List.getElem_mem _)
    have hw := with_any p n hpok him
    obtain ⟨q, hq⟩ : ∃ q, withP p n = q := ⟨_, rfl⟩
    rw [hq] at hw
    have HNX : Hid (∀ wx, Fr No wr wx → PO (b + 2) (put5 wx g (j * 5) q) (.slice (some ⟨g, 0, none⟩) N c2) (takeL l (ns.take (j + 1))) ∧ Five wx g (j * 5) p ∧ (∀ i, wx.frozen? ⟨g, i, none⟩ = false) ∧ Fr (fun k => b + 2 ≤ k) w2 (put5 wx g (j * 5) q)) := Lib.hid fun wx fx => by
      obtain ⟨g', e, _, _, h5', hz', hp'⟩ := (hp.no fx).put (j := j) (by rw [takeL_len]; exact hjl) q
      injection e with e
      injection e with e
      subst e
      rw [takeL_at hjl, hpp] at h5'
      rw [← hq, ← hpp, ← hn, takeL_next hjl hjm, hpp, hn, hq] at hp'
      exact ⟨hp', h5', hz', (hf.trans fx.any fun _ _ h => h).put5 fun _ => hgb⟩
    obtain ⟨pa, ⟨ph, pl⟩, pn, px⟩ := p
    obtain ⟨qa, ⟨qh, ql⟩, qn, qx⟩ := q
    have K1 := Lib.hid (fun dd os => tells_grown (w := wr) (fun w' _ => hw w') dd os)
    have y0 := fun dd os => (five_regrown h5 dd os).1
    have y1 := fun dd os => (five_regrown h5 dd os).2.1
    have y2 := fun dd os => (five_regrown h5 dd os).2.2.1
    have y3 := fun dd os => (five_regrown h5 dd os).2.2.2.1
    have y4 := fun dd os => (five_regrown h5 dd os).2.2.2.2
    have ym := fun dd os => cell_regrown hcm2 dd os
    clear hp hf h5 hz hcm hcm2 him hpp hn hq hpok hw hgm
    go_upto_region 5 with fail
    refine wp_below_tail 12 mixedB (by kernel_rfl) ?_
    simp only [List.take_succ_cons, List.take_zero, List.drop_succ_cons, List.drop_zero]
    repeat (first | go_big_quiet_step (with_reducible exact K1.out _ _) | quiet_step (with_reducible exact K1.out _ _))
    refine wpQuiet_nil ?_
    intro wx hp
    obtain ⟨h1, ⟨u0, u1, u2, u3, u4⟩, z, h4⟩ := HNX.out wx (by obtain ⟨p, rfl⟩ := hp; exact fr_reg _ _ _)
    have H1 := Lib.hid h1
    have H4 := Lib.hid h4
    clear hp h1 h4 y0 y1 y2 y3 y4 ym
    go_wp2_with fail
    obtain ⟨g1, rfl⟩ : ∃ g1, gk = g1 + 1 := ⟨gk - 1, by omega⟩
    go_roundg g1
    case rel => exact Lib.hid ⟨j + 1, by go_num, by omega, H1.out, H4.out⟩
    all_goals omega
  · have hji : (Kk : Int) ≤ (j : Int) := by omega
    have HEND : Hid (PO (b + 2) wr (.slice A2 N c2) (takeL l ns) ∧ Fr No w wr) := Lib.hid (by
      have hk := HK.out
      have hn := HN.out
      have hm := HM.out
      have hb := HB.out
      rw [takeL_all (by omega)] at hp
      refine ⟨hp, ?_⟩
      refine ((HF1.out.trans HF2.out fun _ _ h => h).mono (G := fun k => b + 2 ≤ k) fun _ _ h => h.elim).trans hf (fun _ _ h => h) |>.mono fun k hk e => by omega)
    have hsz := HF2.out.size
    have hs := HS1.out
    have hbx := HX.out.no HF2.out
    have hbr := HR.out.no HF2.out
    have x0 : wr.cell? ⟨b, 0, none⟩ = some (.int .i64 cnt) := by rw [cell_of_heap (hf.block b (by omega) (by omega))]; exact hbx.cell 0
    have hbr2 := hbr.of (hf.block (b + 1) (by omega) (by omega))
    obtain ⟨r0, r1, z0, z1⟩ := blk2 hbr2
    clear hp hf hsz hs hbx hbr hbr2
    go_wp2_with fail
    refine bodyPost_ret (v := .agg #[.int .i64 cn, .slice A2 N c2]) (by simp [results, Tryz.results40, go_sem, r0, r1]) rfl ⟨.slice A2 N c2, ?_, ?_, ?_⟩
    · show _ = Ending.returned (.agg #[.int .i64 (w64 (cnt + 1)), _])
      rw [HCN.out]
    · have hbb := HB.out
      exact ((HEND.out.1.set_low (by omega) _).set_low (by omega) _).low (by omega)
    · have hbb : w.heap.size ≤ b + 1 := by have := HB.out; omega
      refine Fr.set_new (Fr.set_new ?_ hbb _) hbb _
      exact HEND.out.2
end Go.Proofs.YtlpglijikmnopaaGreatDoor
