/- The log: Append, Sync, Last, Firm, Broken. -/
import Derived.Test.YtpeafckomahjgaaGreatDoorW4
namespace Go.Proofs.YtpeafckomahjgaaGreatDoor
open Go.RowKit Go.Maps
set_option linter.unusedVariables false

theorem frameR_len (l : List UInt8) : (frameR l).length = 8 + l.length := by
  unfold frameR
  rw [List.length_append, List.length_append, low_len, low_len]
theorem recB_len (n : Int) (d : List UInt8) : (recB n d).1.length ≤ 65544 := by
  unfold recB
  split
  · rw [frameR_len, body_len]; omega
  · simp
theorem recB_err (n : Int) (d : List UInt8) : (recB n d).2 = 0 ∨ (recB n d).2 = 23 := by
  unfold recB; split
  · exact .inl rfl
  · exact .inr rfl
theorem beginL_last (S : AS) (L : LS) : (beginL S L).2.1.last = L.last := by
  unfold beginL
  split
  · rfl
  · split
    · exact (syncB_same S L).2.2.2.1
    · exact (syncB_same S L).2.2.2.1
def appendL (S : AS) (L : LS) (data : List UInt8) : AS × LS × Int × Int :=
  if L.fault ≠ 0 then (S, L, 0, L.fault)
  else if L.last = 9223372036854775807 then (S, L, 0, 23)
  else if (recB (L.last + 1) data).2 ≠ 0 then (S, L, 0, (recB (L.last + 1) data).2)
  else if (beginL S L).2.2 ≠ 0 then ((beginL S L).1, (beginL S L).2.1, 0, (beginL S L).2.2)
  else if (writeL (beginL S L).1 (beginL S L).2.1 (recB (L.last + 1) data).1).2.2 ≠ 0 then ((writeL (beginL S L).1 (beginL S L).2.1 (recB (L.last + 1) data).1).1, (writeL (beginL S L).1 (beginL S L).2.1 (recB (L.last + 1) data).1).2.1, 0, (writeL (beginL S L).1 (beginL S L).2.1 (recB (L.last + 1) data).1).2.2)
  else ((writeL (beginL S L).1 (beginL S L).2.1 (recB (L.last + 1) data).1).1, (writeL (beginL S L).1 (beginL S L).2.1 (recB (L.last + 1) data).1).2.1, (writeL (beginL S L).1 (beginL S L).2.1 (recB (L.last + 1) data).1).2.1.last, 0)
def AppPost (X : Nat → Prop) (d g N : Nat) (w : World) (r : AS × LS × Int × Int) (e : Ending) (w' : World) : Prop :=
  e = .returned (.tuple #[.int .i64 r.2.2.1, .int .i64 r.2.2.2]) ∧ Lg w' X d g (N + 2) r.1 r.2.1 ∧ Fr (fun k => ¬ X k) w w'
theorem ret_two {k1 k2 : IntKind} {a b c d : Int} (h1 : a = c) (h2 : b = d) : Ending.returned (.tuple #[.int k1 a, .int k2 b]) = Ending.returned (.tuple #[.int k1 c, .int k2 d]) := by rw [h1, h2]
set_option maxRecDepth 100000 in
set_option maxHeartbeats 2000000 in
theorem append_any {w : World} {X : Nat → Prop} {d g N : Nat} {S : AS} {L : LS} (h : Lg w X d g N S L) (hN : N + 2 ≤ 1000000000) (data : List UInt8) (hd : data.length ≤ 4294967295) : Calls Tryz.prog 24 #[gpt g, sv data] w (AppPost X d g N w (appendL S L data)) := by
  have H := Lib.hid h
  obtain ⟨fv, c0, c1, c2, c3, c4, c5, c6, c7, c8⟩ := h.cells
  have hlast := h.ok.last
  have C0 := Lib.hid (state_any h)
  have HB0 := Lib.hid (beginL_any h (by omega))
  have HLL := Lib.hid (beginL_last S L)
  have HRE := Lib.hid (recB_err (L.last + 1) data)
  have HRL := Lib.hid (recB_len (L.last + 1) data)
  have HRC := Lib.hid (fun w => record_any (L.last + 1) data w hd)
  clear h c0 c1 c3 c4 c5 c6 c7 c8
  unfold gpt at C0 HB0 ⊢
  by_cases hf : L.fault = 0
  · rw [hf] at C0
    by_cases hm : L.last = 9223372036854775807
    · have HV : Hid (appendL S L data = (S, L, 0, 23)) := Lib.hid (by unfold appendL; rw [if_neg (by simp [hf]), if_pos hm])
      have hb : (L.last == 9223372036854775807) = true := by simpa using hm
      clear hm hf HB0 HLL HRE HRL HRC hlast
      generalize L.last = la at *
      go_enter Tryz.func24, Tryz.ntmps24
      go_wp2_with fail
      refine C0.out.mono ?_
      rintro e w' ⟨rfl, rfl⟩
      go_wp2
      go_ret2
      exact ⟨by rw [HV.out]; rfl, by rw [HV.out]; exact H.out.more (by omega) hN, Fr.refl _ _⟩
    · have hb : (L.last == 9223372036854775807) = false := by simpa using hm
      have hw1 : IntKind.i64.wrap (L.last + 1) = L.last + 1 := IntWalk.i64_in _ (by omega)
      have HLT : Hid (L.last < 9223372036854775807) := Lib.hid (by omega)
      have HV0 : Hid (appendL S L data = if (recB (L.last + 1) data).2 ≠ 0 then (S, L, 0, (recB (L.last + 1) data).2)
        else if (beginL S L).2.2 ≠ 0 then ((beginL S L).1, (beginL S L).2.1, 0, (beginL S L).2.2)
        else if (writeL (beginL S L).1 (beginL S L).2.1 (recB (L.last + 1) data).1).2.2 ≠ 0 then ((writeL (beginL S L).1 (beginL S L).2.1 (recB (L.last + 1) data).1).1, (writeL (beginL S L).1 (beginL S L).2.1 (recB (L.last + 1) data).1).2.1, 0, (writeL (beginL S L).1 (beginL S L).2.1 (recB (L.last + 1) data).1).2.2)
        else ((writeL (beginL S L).1 (beginL S L).2.1 (recB (L.last + 1) data).1).1, (writeL (beginL S L).1 (beginL S L).2.1 (recB (L.last + 1) data).1).2.1, (writeL (beginL S L).1 (beginL S L).2.1 (recB (L.last + 1) data).1).2.1.last, 0)) := Lib.hid (by unfold appendL; rw [if_neg (by simp [hf]), if_neg hm])
      clear hm hf hlast
      obtain ⟨rc, re, hrc⟩ : ∃ a b, recB (L.last + 1) data = (a, b) := ⟨_, _, rfl⟩
      rw [hrc] at HV0 HRE HRL
      have HRC' := HRC
      simp only [hrc] at HRC'
      clear HRC hrc
      go_enter Tryz.func24, Tryz.ntmps24
      go_wp2_with fail
      refine C0.out.mono ?_
      rintro e w' ⟨rfl, rfl⟩
      go_wp2_with fail
      refine (HRC'.out w).mono ?_
      rintro e w1 ⟨rfl, f1⟩
      have HL1 := Lib.hid (H.out.keep f1)
      have HF1 : Hid (Fr (fun k => ¬ X k) w w1) := Lib.hid f1.any
      clear f1 HRC'
      by_cases hre : re = 0
      · subst hre
        have HV1 := Lib.hid ((HV0.out).trans (if_neg (by simp)))
        have CB := beginL_any HL1.out (by omega)
        unfold gpt at CB
        have CBH := Lib.hid CB
        clear HV0 CB HB0
        obtain ⟨S1, L1, E1, hbe⟩ : ∃ a b c, beginL S L = (a, b, c) := ⟨_, _, _, rfl⟩
        rw [hbe] at HV1 CBH HLL
        clear hbe
        go_wp2_with fail
        refine CBH.out.mono ?_
        rintro e w2 ⟨rfl, h2, f2⟩
        have HL2 := Lib.hid (show Lg w2 X d g (N + 1) S1 L1 from h2)
        have HF2 := Lib.hid (HF1.out.thenX f2)
        clear h2 f2 CBH
        by_cases hE1 : E1 = 0
        · subst hE1
          have HV2 := Lib.hid ((HV1.out).trans (if_neg (by simp)))
          have CW := writeL_any HL2.out (by omega) rc (by have h1 : rc.length ≤ 65544 := HRL.out; omega) (by have h1 : L1.last = L.last := HLL.out; rw [h1]; exact HLT.out)
          unfold gpt at CW
          have CWH := Lib.hid CW
          clear HV1 CW
          obtain ⟨S2, L2, E2, hwe⟩ : ∃ a b c, writeL S1 L1 rc = (a, b, c) := ⟨_, _, _, rfl⟩
          simp only [hwe] at HV2
          rw [hwe] at CWH
          clear hwe
          go_wp2_with fail
          refine CWH.out.mono ?_
          rintro e w3 ⟨rfl, h3, f3⟩
          have HL3 := Lib.hid (show Lg w3 X d g (N + 2) S2 L2 from h3)
          have HF3 := Lib.hid (HF2.out.thenX f3)
          clear h3 f3 CWH c2
          by_cases hE2 : E2 = 0
          · subst hE2
            have HV3 := Lib.hid ((HV2.out).trans (if_neg (by simp)))
            obtain ⟨fv3, x0, x1, x2, x3, x4, x5, x6, x7, x8⟩ := HL3.out.cells
            clear HV2 x0 x1 x3 x4 x5 x6 x7 x8
            go_wp2
            go_ret2
            exact ⟨by rw [HV3.out]; rfl, by rw [HV3.out]; exact HL3.out, HF3.out⟩
          · have hd2 : (E2 != 0) = true := by simpa using hE2
            have HV3 := Lib.hid ((HV2.out).trans (if_pos (by simpa using hE2)))
            clear HV2 hE2
            go_wp2
            go_ret2
            exact ⟨by rw [HV3.out]; rfl, by rw [HV3.out]; exact HL3.out, HF3.out⟩
        · have hd1 : (E1 != 0) = true := by simpa using hE1
          have HV2 := Lib.hid ((HV1.out).trans (if_pos (by simpa using hE1)))
          clear HV1 hE1
          go_wp2
          go_ret2
          exact ⟨by rw [HV2.out]; rfl, by rw [HV2.out]; exact HL2.out.more (by omega) hN, HF2.out⟩
      · have hdr : (re != 0) = true := by simpa using hre
        have HV1 := Lib.hid ((HV0.out).trans (if_pos (by simpa using hre)))
        clear HV0 hre HB0
        go_wp2
        go_ret2
        exact ⟨by rw [HV1.out]; rfl, by rw [HV1.out]; exact HL1.out.more (by omega) hN, HF1.out⟩
  · have HV : Hid (appendL S L data = (S, L, 0, L.fault)) := Lib.hid (by unfold appendL; rw [if_pos hf])
    have hd : (L.fault != 0) = true := by simpa using hf
    clear hf HB0 HLL HRE HRL HRC hlast c2
    generalize hfa : L.fault = fa at *
    have HFA := Lib.hid hfa
    clear hfa
    go_enter Tryz.func24, Tryz.ntmps24
    go_wp2_with fail
    refine C0.out.mono ?_
    rintro e w' ⟨rfl, rfl⟩
    go_wp2
    go_ret2
    exact ⟨by rw [HV.out]; rfl, by rw [HV.out]; exact H.out.more (by omega) hN, Fr.refl _ _⟩

/-! ### Sync -/
def LS.firmed (L : LS) : LS := { L with firm := L.last }
def syncL (S : AS) (L : LS) : AS × LS × Int :=
  if L.fault ≠ 0 then (S, L, L.fault)
  else if (syncB S L).2.2 ≠ 0 then syncB S L
  else if (syncB S L).2.1.names then
    if (settleL (syncB S L).1 (syncB S L).2.1).2.2 ≠ 0 then settleL (syncB S L).1 (syncB S L).2.1
    else ((settleL (syncB S L).1 (syncB S L).2.1).1, (settleL (syncB S L).1 (syncB S L).2.1).2.1.firmed, 0)
  else ((syncB S L).1, (syncB S L).2.1.firmed, 0)
theorem Lg.firmed {w : World} {X : Nat → Prop} {d g N : Nat} {S : AS} {L : LS} (h : Lg w X d g N S L) : Lg (w.setCell ⟨g, 3, none⟩ (.int .i64 L.last)) X d g N S L.firmed ∧ Fr (fun k => ¬ X k) w (w.setCell ⟨g, 3, none⟩ (.int .i64 L.last)) :=
  h.set 3 (.int .i64 L.last) L.firmed (fun _ => rfl) rfl ⟨h.ok.last, h.ok.last, h.ok.number, h.ok.size, h.ok.files⟩
set_option maxRecDepth 100000 in
set_option maxHeartbeats 2000000 in
theorem syncL_any {w : World} {X : Nat → Prop} {d g N : Nat} {S : AS} {L : LS} (h : Lg w X d g N S L) : Calls Tryz.prog 20 #[gpt g] w fun e w' => e = .returned (.int .i64 (syncL S L).2.2) ∧ Lg w' X d g N (syncL S L).1 (syncL S L).2.1 ∧ Fr (fun k => ¬ X k) w w' := by
  have H := Lib.hid h
  have C0 := Lib.hid (state_any h)
  have CB := Lib.hid (syncB_any h)
  clear h
  unfold gpt at C0 CB ⊢
  by_cases hf : L.fault = 0
  · rw [hf] at C0
    have HV0 : Hid (syncL S L = if (syncB S L).2.2 ≠ 0 then syncB S L
      else if (syncB S L).2.1.names then
        if (settleL (syncB S L).1 (syncB S L).2.1).2.2 ≠ 0 then settleL (syncB S L).1 (syncB S L).2.1
        else ((settleL (syncB S L).1 (syncB S L).2.1).1, (settleL (syncB S L).1 (syncB S L).2.1).2.1.firmed, 0)
      else ((syncB S L).1, (syncB S L).2.1.firmed, 0)) := Lib.hid (by unfold syncL; rw [if_neg (by simp [hf])])
    obtain ⟨S1, L1, E1, hbe⟩ : ∃ a b c, syncB S L = (a, b, c) := ⟨_, _, _, rfl⟩
    rw [hbe] at HV0 CB
    clear hbe hf
    go_enter Tryz.func20, Tryz.ntmps20
    go_wp2_with fail
    refine C0.out.mono ?_
    rintro e w' ⟨rfl, rfl⟩
    go_wp2_with fail
    refine CB.out.mono ?_
    rintro e w1 ⟨rfl, h1, f1⟩
    have H1 := Lib.hid (show Lg w1 X d g N S1 L1 from h1)
    have F1 := Lib.hid f1
    clear h1 f1 CB C0
    by_cases hE1 : E1 = 0
    · subst hE1
      have HV1 := Lib.hid ((HV0.out).trans (if_neg (by simp)))
      obtain ⟨fv, x0, x1, x2, x3, x4, x5, x6, x7, x8⟩ := H1.out.cells
      have y3 := H1.out.frozen 3
      clear HV0 x0 x1 x4 x5 x6 x7
      cases hn : L1.names with
      | false =>
        rw [hn] at x8
        have HV2 : Hid (syncL S L = (S1, L1.firmed, 0)) := Lib.hid (by rw [HV1.out, if_neg (by simp [hn])])
        have HX := Lib.hid H1.out.firmed
        clear HV1 hn
        go_wp2
        go_ret
        exact ⟨by rw [HV2.out]; rfl, by rw [HV2.out]; exact HX.out.1, F1.out.thenX HX.out.2⟩
      | true =>
        rw [hn] at x8
        have HV2 := Lib.hid ((HV1.out).trans (if_pos (by simp [hn])))
        have CS := settleL_any H1.out
        unfold gpt at CS
        have CSH := Lib.hid CS
        obtain ⟨S2, L2, E2, hse⟩ : ∃ a b c, settleL S1 L1 = (a, b, c) := ⟨_, _, _, rfl⟩
        simp only [hse] at HV2
        rw [hse] at CSH
        clear HV1 hn CS hse
        go_wp2_with fail
        refine CSH.out.mono ?_
        rintro e w2 ⟨rfl, h2, f2⟩
        have H2 := Lib.hid (show Lg w2 X d g N S2 L2 from h2)
        have F2 := Lib.hid (F1.out.thenX f2)
        clear h2 f2 CSH x2 x3 x8 y3
        by_cases hE2 : E2 = 0
        · subst hE2
          have HV3 := Lib.hid ((HV2.out).trans (if_neg (by simp)))
          obtain ⟨fv2, x0, x1, x2, x3, x4, x5, x6, x7, x8⟩ := H2.out.cells
          have y3 := H2.out.frozen 3
          have HX := Lib.hid H2.out.firmed
          clear HV2 x0 x1 x4 x5 x6 x7 x8
          go_wp2
          go_ret
          exact ⟨by rw [HV3.out]; rfl, by rw [HV3.out]; exact HX.out.1, F2.out.thenX HX.out.2⟩
        · have hd2 : (E2 != 0) = true := by simpa using hE2
          have HV3 := Lib.hid ((HV2.out).trans (if_pos (by simpa using hE2)))
          clear HV2 hE2
          go_wp2
          go_ret
          exact ⟨by rw [HV3.out]; rfl, by rw [HV3.out]; exact H2.out, F2.out⟩
    · have hd1 : (E1 != 0) = true := by simpa using hE1
      have HV1 := Lib.hid ((HV0.out).trans (if_pos (by simpa using hE1)))
      clear HV0 hE1
      go_wp2
      go_ret
      exact ⟨by rw [HV1.out]; rfl, by rw [HV1.out]; exact H1.out, F1.out⟩
  · have HV : Hid (syncL S L = (S, L, L.fault)) := Lib.hid (by unfold syncL; rw [if_pos hf])
    have hd : (L.fault != 0) = true := by simpa using hf
    clear hf CB
    generalize hfa : L.fault = fa at *
    have HFA := Lib.hid hfa
    clear hfa
    go_enter Tryz.func20, Tryz.ntmps20
    go_wp2_with fail
    refine C0.out.mono ?_
    rintro e w' ⟨rfl, rfl⟩
    go_wp2
    go_ret
    exact ⟨by rw [HV.out]; rfl, by rw [HV.out]; exact H.out, Fr.refl _ _⟩

/-! ### what is told -/
set_option maxHeartbeats 400000 in
theorem last_any {w : World} {X : Nat → Prop} {d g N : Nat} {S : AS} {L : LS} (h : Lg w X d g N S L) : Calls Tryz.prog 16 #[gpt g] w fun e w' => e = .returned (.int .i64 L.last) ∧ w = w' := by
  obtain ⟨fv, c0, c1, c2, _⟩ := h.cells
  unfold gpt
  clear h c0 c1
  go_enter Tryz.func16, Tryz.ntmps16
  go_wp2
  go_ret
  exact ⟨rfl, rfl⟩
set_option maxHeartbeats 400000 in
theorem firm_any {w : World} {X : Nat → Prop} {d g N : Nat} {S : AS} {L : LS} (h : Lg w X d g N S L) : Calls Tryz.prog 17 #[gpt g] w fun e w' => e = .returned (.int .i64 L.firm) ∧ w = w' := by
  obtain ⟨fv, c0, c1, c2, c3, _⟩ := h.cells
  unfold gpt
  clear h c0 c1 c2
  go_enter Tryz.func17, Tryz.ntmps17
  go_wp2
  go_ret
  exact ⟨rfl, rfl⟩
set_option maxHeartbeats 400000 in
theorem broken_any {w : World} {X : Nat → Prop} {d g N : Nat} {S : AS} {L : LS} (h : Lg w X d g N S L) : Calls Tryz.prog 18 #[gpt g] w fun e w' => e = .returned (.bool (L.fault != 0)) ∧ w = w' := by
  obtain ⟨fv, c0, c1, _⟩ := h.cells
  unfold gpt
  clear h c0
  go_enter Tryz.func18, Tryz.ntmps18
  go_wp2
  go_ret
  exact ⟨rfl, rfl⟩
end Go.Proofs.YtpeafckomahjgaaGreatDoor
