/- awake; appends as a law makes them. -/
import Derived.Test.YtmaeejojmbibnaaJ1
namespace Go.Proofs.Ytmaeejojmbibnaa
open Go.RowKit Go.Maps
set_option linter.unusedVariables false

def Bel (B k : Nat) : Prop := k < B
def Ge (B k : Nat) : Prop := B ≤ k
theorem Fr.ge {B : Nat} {X : Nat → Prop} {w w' : World} (h : Fr (NX X) w w') (hX : ∀ k, Bel B k → X k) : Fr (Ge B) w w' := h.mono fun k _ hk => Nat.le_of_not_lt fun hlt => hk (hX k hlt)
theorem Fr.gt {B : Nat} {a b c : World} (h : Fr (Ge B) a b) (k : Fr (Ge B) b c) : Fr (Ge B) a c := h.trans k fun _ _ h => h
theorem Fr.gno {B : Nat} {a b c : World} (h : Fr (Ge B) a b) (k : Fr No b c) : Fr (Ge B) a c := h.gt k.any
theorem Fr.gbel {B : Nat} {w w' : World} (h : Fr (Ge B) w w') (hB : w.heap.size = B) : Below w.heap.size w w' := h.below_of (Nat.le_refl _) fun k hk => by rw [hB]; exact hk
theorem Fr.nn {a b c : World} (h : Fr No a b) (k : Fr No b c) : Fr No a c := h.trans k fun _ _ h => h
section
variable {B s K M : Nat} {Bs : List (List FactP)} {w0 w : World} {lv : Value} {l : List FactP}
theorem since_btw (hf : Fr No w0 w) (hl : Facts (Since w0 w) w lv l) : Facts (Btw (Bel B) w0 w) w lv l := Facts.of hl (Nat.le_refl _) fun k hk _ => ⟨.inr hk, rfl⟩
theorem a_append (hs : St (Bel B) s K M Bs w0) (hf : Fr No w0 w) (hl : Facts (Since w0 w) w lv l) (hB : Bs.length < 1000) (hc : chkB K M Bs l = 0) : Calls Try.prog 21 #[.pointer (some ⟨s, 0, none⟩), lv] w fun e w' => e = .returned (.tuple #[.int .i64 (Bs.length + 1 : Nat), .int .i64 0]) ∧ St (Bel B) s K M (Bs ++ [l]) w' ∧ Fr (Ge B) w w' := by
  refine (m_append (hs.btw hf) hB lv l (since_btw hf hl) hc).mono ?_
  rintro e w' ⟨he, h1, h2⟩
  exact ⟨he, h1.less fun k hk => .inl hk, h2.ge fun k hk => .inl hk⟩
theorem a_refuse (hs : St (Bel B) s K M Bs w0) (hf : Fr No w0 w) (hl : Facts (Since w0 w) w lv l) (r : Int) (hr : r ≠ 0) (hc : chkB K M Bs l = r) : Calls Try.prog 21 #[.pointer (some ⟨s, 0, none⟩), lv] w fun e w' => e = .returned (.tuple #[.int .i64 0, .int .i64 r]) ∧ St (Bel B) s K M Bs w' ∧ Fr No w w' := by
  have h := m_refuse (hs.keep hf) (Since w0 w) lv l hl (by rw [hc]; exact hr)
  rw [hc] at h
  refine h.mono ?_
  rintro e w' ⟨he, h2⟩
  exact ⟨he, (hs.keep hf).keep h2, h2⟩
end
def fA1 : FactP := ⟨[[120], [112]], [1]⟩
def fA2 : FactP := ⟨[[121], [112]], [2]⟩
def fA3 : FactP := ⟨[[120], [113]], [3]⟩
def fA4 : FactP := ⟨[[120]], []⟩
def BA1 : List (List FactP) := [[fA1, fA2]]
def BA2 : List (List FactP) := [[fA1, fA2], [fA3]]
theorem cA1 : chkB 2 1 [] [fA1, fA2] = 0 := by decide
theorem cA2 : chkB 2 1 BA1 [fA3] = 0 := by decide
theorem cA3 : chkB 2 1 BA2 [fA4] = 26 := by decide
theorem cA4 : slc BA2 0 1 = [fA1, fA2] ∧ (slc BA2 1 2).length = 1 ∧ mtc BA2 0 [120] 2 = 2 ∧ (vals BA2.flatten 1).length = 2 ∧ BA2.flatten.length = 3 ∧ BA2.length = 2 := by decide
def AwkQ (B : Nat) (w : World) (e : Ending) (w' : World) : Prop := e = .returned (.bool true) ∧ Fr (Ge B) w w'
set_option maxRecDepth 100000 in
set_option maxHeartbeats 8000000 in
theorem awake_any (w : World) : Calls Try.prog 9 #[] w fun e w' => e = .returned (.bool true) ∧ Below w.heap.size w w' := by
  obtain ⟨B, hB⟩ : ∃ B, w.heap.size = B := ⟨_, rfl⟩
  have HB := Lib.hid hB
  have HNW : Hid (Calls Try.prog 10 #[.int .i64 2, .int .i64 1] w (NewS (Bel B) 2 1 w)) := Lib.hid (m_new (Bel B) 2 1 (by omega) (by omega) w fun k hk => by rw [hB]; exact hk)
  clear hB
  go_enter Try.func9, Try.ntmps9
  go_wp2_with fail
  refine HNW.out.mono ?_
  rintro e w1 ⟨s, rfl, h1, f1⟩
  have H1 := Lib.hid h1
  have F1 : Hid (Fr (Ge B) w w1) := Lib.hid f1.any
  clear h1 f1 HNW
  go_wp2_with fail
  refine (snew_no 0 1 w1 (by omega)).mono ?_
  rintro e w1' ⟨rfl, rfl⟩
  go_wp2_with fail
  refine (fact_any [120] [112] 1 (by decide) (by decide) (by unfold i64; omega) w1).mono ?_
  rintro e w2 ⟨a1, c1, rfl, hf1, f2⟩
  have HA1 := Lib.hid hf1
  have F2 := Lib.hid f2
  clear hf1 f2
  go_wp2_with fail
  refine (fact_any [121] [112] 2 (by decide) (by decide) (by unfold i64; omega) w2).mono ?_
  rintro e w3 ⟨a2, c2, rfl, hf2, f3⟩
  have HA2 := Lib.hid hf2
  have F3 := Lib.hid f3
  clear hf2 f3
  go_wp2_with fail
  obtain ⟨w4, hw4⟩ : ∃ w4, w3.alloc (.cells #[.slice (some ⟨a1, 0, none⟩) 2 2, .slice (some ⟨c1, 0, none⟩) 1 1, .slice (some ⟨a2, 0, none⟩) 2 2, .slice (some ⟨c2, 0, none⟩) 1 1] 51) = w4 := ⟨_, rfl⟩
  obtain ⟨x, hx⟩ : ∃ x, w3.heap.size = x := ⟨_, rfl⟩
  have f4 : Fr No w3 w4 := by rw [← hw4]; exact (Fr.refl _ w3).alloc _
  have hb4 : Blk w4 x 51 #[.slice (some ⟨a1, 0, none⟩) 2 2, .slice (some ⟨c1, 0, none⟩) 1 1, .slice (some ⟨a2, 0, none⟩) 2 2, .slice (some ⟨c2, 0, none⟩) 1 1] := by rw [← hw4, ← hx]; exact Blk.new w3 51 _
  have hl4 : Facts (Since w1 w4) w4 (.slice (some ⟨x, 0, none⟩) 2 2) [fA1, fA2] := facts_lit2 hb4 ⟨by have := F2.out.size; have := F3.out.size; omega, hb4.lt⟩ ((HA1.out.since F3.out).since f4) ((HA2.out.since f4).since2 F2.out.size) 2
  have HP := Lib.hid (a_append H1.out ((F2.out.nn F3.out).nn f4) hl4 (by decide) cA1)
  have F4 : Hid (Fr (Ge B) w w4) := Lib.hid (F1.out.gno ((F2.out.nn F3.out).nn f4))
  rw [hw4, hx]
  clear f4 hb4 hl4 hw4 hx HA1 HA2 F1 F2 F3 H1
  refine HP.out.mono ?_
  rintro e w5 ⟨rfl, h5, f5⟩
  have H5 : Hid (St (Bel B) s 2 1 BA1 w5) := Lib.hid h5
  have F5 : Hid (Fr (Ge B) w w5) := Lib.hid (F4.out.gt f5)
  clear h5 f5 HP F4
  simp only [List.length_nil, Nat.zero_add]
  go_wp2_with fail
  refine (fact_any [120] [113] 3 (by decide) (by decide) (by unfold i64; omega) w5).mono ?_
  rintro e w6 ⟨a3, c3, rfl, hf3, f6⟩
  have HA3 := Lib.hid hf3
  have F6 := Lib.hid f6
  clear hf3 f6
  go_wp2_with fail
  obtain ⟨w7, hw7⟩ : ∃ w7, w6.alloc (.cells #[.slice (some ⟨a3, 0, none⟩) 2 2, .slice (some ⟨c3, 0, none⟩) 1 1] 51) = w7 := ⟨_, rfl⟩
  obtain ⟨x2, hx2⟩ : ∃ x, w6.heap.size = x := ⟨_, rfl⟩
  have f7 : Fr No w6 w7 := by rw [← hw7]; exact (Fr.refl _ w6).alloc _
  have hb7 : Blk w7 x2 51 #[.slice (some ⟨a3, 0, none⟩) 2 2, .slice (some ⟨c3, 0, none⟩) 1 1] := by rw [← hw7, ← hx2]; exact Blk.new w6 51 _
  have hl7 : Facts (Since w5 w7) w7 (.slice (some ⟨x2, 0, none⟩) 1 1) [fA3] := facts_lit1 hb7 ⟨by have := F6.out.size; omega, hb7.lt⟩ (HA3.out.since f7) 1
  have HP := Lib.hid (a_append H5.out (F6.out.nn f7) hl7 (by decide) cA2)
  have F7 : Hid (Fr (Ge B) w w7) := Lib.hid (F5.out.gno (F6.out.nn f7))
  rw [hw7, hx2]
  clear f7 hb7 hl7 hw7 hx2 HA3 F5 F6 H5
  refine HP.out.mono ?_
  rintro e w8 ⟨rfl, h8, f8⟩
  have H8 : Hid (St (Bel B) s 2 1 BA2 w8) := Lib.hid h8
  have F8 : Hid (Fr (Ge B) w w8) := Lib.hid (F7.out.gt f8)
  clear h8 f8 HP F7
  have e2 : BA1.length + 1 = 2 := rfl
  rw [e2]
  clear e2
  go_wp2_with fail
  obtain ⟨y, hy⟩ : ∃ y, w8.heap.size = y := ⟨_, rfl⟩
  obtain ⟨w9, hw9⟩ : ∃ w9, (w8.alloc (.cells #[.string ⟨#[120]⟩] 9)).alloc (.cells #[.slice (some ⟨y, 0, none⟩) 1 1, .slice none 0 0] 51) = w9 := ⟨_, rfl⟩
  have hb9 := blk2 w8 #[.string ⟨#[120]⟩] #[.slice (some ⟨y, 0, none⟩) 1 1, .slice none 0 0] 9 51
  rw [hw9, hy] at hb9
  have hl9 : Facts (Since w8 w9) w9 (.slice (some ⟨y + 1, 0, none⟩) 1 1) [fA4] := facts_lit1 hb9.2.1 ⟨by omega, hb9.2.1.lt⟩ ⟨_, _, rfl, row_blk (l := [[120]]) (enc := encT) hb9.1 ⟨by omega, hb9.1.lt⟩ rfl (by simp [maxLen]) (fun t ht => strE_of (by simp at ht; subst ht; decide)) 1, RowE.nil _ _ _ _ _⟩ 1
  have HP := Lib.hid (a_refuse H8.out hb9.2.2 hl9 26 (by decide) cA3)
  have F9 : Hid (Fr (Ge B) w w9) := Lib.hid (F8.out.gno hb9.2.2)
  have HY := Lib.hid hy
  have HW9 := Lib.hid hw9
  clear hb9 hl9 hy hw9 H8 F8
  rw [HY.out, HW9.out]
  refine HP.out.mono ?_
  rintro e wa ⟨rfl, ha, fa⟩
  have HA := Lib.hid ha
  have FA : Hid (Fr (Ge B) w wa) := Lib.hid (F9.out.gno fa)
  clear ha fa HP F9
  go_wp2_with fail
  refine (m_scan HA.out 0 1).mono ?_
  rintro e wb ⟨A, c, rfl, ht, fb⟩
  rw [cA4.1] at ht ⊢
  have hbs := HA.out.keep fb
  obtain ⟨⟨da, ma, o, bk⟩, _⟩ := ht
  have o' : wb.ownsRow wa.heap.size 51 2 (.slice A 2 c) 2 (fcells 2 1 da ma 2) := o
  obtain ⟨g, c', e1, _, _⟩ := o'.form (by omega)
  injection e1 with e1 _ e3
  subst e1
  have q0 : wb.cell? ⟨g, 2, none⟩ = some (.slice (some ⟨da 1, 0, none⟩) 2 2) := o'.cellAt 2 (by decide)
  have q1 : wb.cell? ⟨g, 3, none⟩ = some (.slice (some ⟨ma 1, 0, none⟩) 1 1) := o'.cellAt 3 (by decide)
  obtain ⟨cs1, x1, x2', x3⟩ := bk.db 1 (by decide)
  obtain ⟨cs2, y1, y2, y3⟩ := bk.mb 1 (by decide)
  have q2 : wb.cell? ⟨da 1, 0, none⟩ = some (.string ⟨#[121]⟩) := (x1.cell 0).trans (x3 0 (by omega))
  have q3 : wb.cell? ⟨ma 1, 0, none⟩ = some (.int .i64 2) := (y1.cell 0).trans (y3 0 (by omega))
  have HBS := Lib.hid hbs
  have FB : Hid (Fr (Ge B) w wb) := Lib.hid (FA.out.gno fb)
  generalize da 1 = d1 at *
  generalize ma 1 = m1 at *
  clear hbs fb o o' bk x1 x2' x3 y1 y2 y3 HA FA
  simp only [List.length_cons, List.length_nil, Nat.zero_add, Nat.reduceAdd]
  have HSQ := Lib.hid (m_seq HBS.out)
  have HLN := Lib.hid (m_len HBS.out)
  rw [cA4.2.2.2.2.2] at HSQ
  rw [cA4.2.2.2.2.1] at HLN
  go_wp2_with fail
  refine HSQ.out.mono ?_
  rintro e w' ⟨rfl, rfl⟩
  go_wp2_with fail
  refine HLN.out.mono ?_
  rintro e w' ⟨rfl, q, rfl⟩
  obtain ⟨wc, hwc⟩ : ∃ wc, wb.drewN q = wc := ⟨_, rfl⟩
  have r0 : wc.cell? ⟨g, 2, none⟩ = some (.slice (some ⟨d1, 0, none⟩) 2 2) := by rw [← hwc]; exact q0
  have r1 : wc.cell? ⟨g, 3, none⟩ = some (.slice (some ⟨m1, 0, none⟩) 1 1) := by rw [← hwc]; exact q1
  have r2 : wc.cell? ⟨d1, 0, none⟩ = some (.string ⟨#[121]⟩) := by rw [← hwc]; exact q2
  have r3 : wc.cell? ⟨m1, 0, none⟩ = some (.int .i64 2) := by rw [← hwc]; exact q3
  have fc : Fr No wb wc := by rw [← hwc]; exact (Fr.refl _ wb).drewN q
  have HC := Lib.hid (HBS.out.keep fc)
  have FC : Hid (Fr (Ge B) w wc) := Lib.hid (FB.out.gno fc)
  rw [hwc]
  clear hwc fc q0 q1 q2 q3 HBS FB HSQ HLN
  have HV := Lib.hid (m_values HC.out 1 (by omega))
  have HM := Lib.hid (m_match HC.out 0 (by omega) [120] (by decide) 2)
  rw [cA4.2.2.2.1] at HV
  rw [cA4.2.2.1] at HM
  go_wp2_with fail
  refine HV.out.mono ?_
  rintro e w' ⟨rfl, rfl⟩
  go_wp2_with fail
  refine HM.out.mono ?_
  rintro e wd ⟨rfl, fd⟩
  have HD := Lib.hid (HC.out.keep fd)
  have FD : Hid (Fr (Ge B) w wd) := Lib.hid (FC.out.gno fd)
  clear fd r0 r1 r2 r3 HV HM HC FC
  have HSG := Lib.hid (m_segments HD.out)
  have HSZ := Lib.hid (m_size HD.out 1 2)
  rw [cA4.2.2.2.2.1] at HSG
  rw [cA4.2.1] at HSZ
  go_wp2_with fail
  refine HSG.out.mono ?_
  rintro e w' ⟨rfl, rfl⟩
  go_wp2_with fail
  refine HSZ.out.mono ?_
  rintro e we ⟨rfl, fe⟩
  have FE : Hid (Fr (Ge B) w we) := Lib.hid (FD.out.gno fe)
  clear fe
  go_wp2
  go_ret
  exact ⟨rfl, FE.out.gbel HB.out⟩
end Go.Proofs.Ytmaeejojmbibnaa
