/- LexPlaces, walked. -/
import Derived.Test.YtaaleodffghbdaaDoorD2
namespace Go.Proofs.YtaaleodffghbdaaDoor
open Go.RowKit Go.Maps
set_option linter.unusedVariables false

theorem Chain.le {r : Tx} : ∀ {l : List Wd} {p : Nat}, Chain r p l → p ≤ r.length
  | [], p, h => by have : p = r.length := h; omega
  | x :: l, p, h => by obtain ⟨h1, _, h3, _⟩ := h; omega
theorem LW.at_ {w : World} {A : Option Addr} {n c : Nat} {l : List Wd} (h : LW w (.slice A n c) l) {k : Nat} {x : Wd} (hx : l[k]? = some x) :
    n = l.length ∧ ∃ g, A = some ⟨g, 0, none⟩ ∧ g < w.heap.size ∧ w.cell? ⟨g, k * 3, none⟩ = some (.int .i64 (x.kind : Nat)) ∧ w.cell? ⟨g, k * 3 + 1, none⟩ = some (.string ⟨x.text.toArray⟩) ∧ w.cell? ⟨g, k * 3 + 2, none⟩ = some (.int .i64 (x.pos : Nat)) := by
  obtain ⟨A', c', e, hl, hc⟩ := h
  injection e with e1 e2 e3
  subst e1
  obtain ⟨g, e, hg, hk⟩ := hc (by have := (List.getElem?_eq_some_iff.1 hx).1; omega)
  exact ⟨e2, g, e, hg, hk k x hx⟩

set_option maxRecDepth 100000 in
set_option maxHeartbeats 8000000 in
theorem lexplaces_any (s : ByteArray) (w : World) (hL : Lr w) (hs : s.size ≤ maxLen) : Calls Tryd.prog 7 #[.string s] w (TrueP w) := by
  have HLR : Hid (∀ w', Fr No w w' → Lr w') := Lib.hid fun w' hf => hL.keep hL.lt hf.below
  have HAW := Lib.hid (awake_any w hL)
  obtain ⟨ws, c, f, hw⟩ : ∃ ws c f, wordsB s.data.toList = (ws, c, f) := ⟨_, _, _, rfl⟩
  have HW : Hid (∀ w', Fr No w w' → Calls Tryd.prog 11 #[.string s] w' fun e w'' => ∃ v, e = .returned (.tuple #[v, .agg #[.int .i64 (c : Nat), .int .i64 (f : Nat)]]) ∧ LW w'' v ws ∧ Fr No w' w'') := Lib.hid fun w' hf => by
    refine (l_words s w' (HLR.out w' hf) hs hw).mono ?_
    rintro e w'' ⟨v, h1, h2, h3, _⟩
    exact ⟨v, h1, h2, h3⟩
  have hsm := hs
  unfold maxLen at hsm
  clear hL
  by_cases hc : c = 0
  · subst hc
    obtain ⟨h1, h2, h3⟩ := chain_words hw
    rw [len_data] at h1
    have HCH := Lib.hid h3
    have hTX : ∀ x ∈ ws, x.text.length ≤ 8192 ∧ x.kind ≤ 6 ∧ x.pos ≤ 4096 := fun x hx => wordsB_text (by rw [hw]; exact hx)
    have HTX := Lib.hid hTX
    obtain ⟨n, hn⟩ : ∃ n, ws.length = n := ⟨_, rfl⟩
    rw [hn] at h2
    have HN := Lib.hid hn
    have HC0 : Hid (∀ w', Fr No w w' → Calls Tryd.prog 11 #[.string s] w' fun e w'' => ∃ v, e = .returned (.tuple #[v, .agg #[.int .i64 0, .int .i64 (f : Nat)]]) ∧ LW w'' v ws ∧ Fr No w' w'') := HW
    clear hw h3 hTX hn HW
    go_enter Tryd.func7, Tryd.ntmps7
    go_wp2_with fail
    refine HAW.out.mono ?_
    rintro e w1 ⟨rfl, f1⟩
    have F1 := Lib.hid f1
    clear f1
    go_wp2_with fail
    refine (HC0.out w1 F1.out).mono ?_
    rintro e w3 ⟨v, rfl, h3, f3⟩
    obtain ⟨A, cc, hv, hl, hA⟩ := h3
    have hlw : LW w3 (.slice A n cc) ws := ⟨A, cc, by rw [HN.out], hl, hA⟩
    have hnb : n ≤ 100000 := by rw [← HN.out]; exact hl
    rw [HN.out] at hv
    subst hv
    obtain ⟨y, hy⟩ : ∃ y, w3.heap.size = y := ⟨_, rfl⟩
    obtain ⟨w4, hw4⟩ : ∃ w4, w3.alloc (.cells #[.int .i64 0, .int .i64 (f : Nat)] 26) = w4 := ⟨_, rfl⟩
    have hb4 : Blk w4 y 26 #[.int .i64 0, .int .i64 (f : Nat)] := by rw [← hw4, ← hy]; exact Blk.new w3 26 _
    have f34 : Fr No w3 w4 := by rw [← hw4]; exact (Fr.refl No w3).alloc _
    have F4 : Hid (Fr No w w4) := Lib.hid (((F1.out.trans f3 fun _ _ h => h)).trans f34 fun _ _ h => h)
    have HLW := Lib.hid (hlw.keep f34)
    have HW4 := Lib.hid hw4
    have HY := Lib.hid hy
    have k0 : w4.cell? ⟨y, 0, none⟩ = some (.int .i64 0) := hb4.cell 0
    clear hb4 hw4 hy f3 hA hlw f34 hl
    go_upto_region 3 with fail
    rw [HW4.out, HY.out]
    go_wp2
    clear k0
    go_loopw [6, 7] (fun av iv wr => ∃ (p i : Nat), av = .int .i64 (p : Nat) ∧ iv = .int .i64 (i : Nat) ∧ i ≤ n ∧ p ≤ 4096 ∧ Hid (Chain s.data.toList p (ws.drop i)) ∧ Hid (Fr No w4 wr)) (fun _ iv _ => n - (intOf iv).toNat)
    case atStart => exact ⟨0, 0, rfl, rfl, Nat.zero_le _, Nat.zero_le _, HCH, Lib.hid (Fr.refl _ _)⟩
    case round =>
      obtain ⟨p, i, rfl, rfl, hi, hp, HCI, HF⟩ := hrel
      by_cases hlt : i < n
      · have hil : i < ws.length := by rw [HN.out]; exact hlt
        have hci := HCI.out
        rw [List.drop_eq_getElem_cons hil] at hci
        obtain ⟨q1, q2, q3, q4⟩ := hci
        obtain ⟨t1, t2, t3⟩ := HTX.out _ (List.getElem_mem hil)
        obtain ⟨-, g, rfl, hg, a0, a1, a2⟩ := (HLW.out.keep HF.out).at_ (List.getElem?_eq_getElem hil)
        rw [len_data] at q3
        have HWR : Hid (Calls Tryd.prog 19 #[.agg #[.int .i64 (ws[i].kind : Nat), .string ⟨ws[i].text.toArray⟩, .int .i64 (ws[i].pos : Nat)]] wr fun e w' => e = .returned (.string ⟨(wrB ws[i].kind ws[i].text).toArray⟩) ∧ Fr No wr w') := Lib.hid
          (written_any ws[i].kind ⟨ws[i].text.toArray⟩ (ws[i].pos : Nat) wr (HLR.out wr (F4.out.trans HF.out fun _ _ h => h)) (by rw [← len_data]; show ws[i].text.length ≤ _; omega) (by omega))
        have hwl : (⟨(wrB ws[i].kind ws[i].text).toArray⟩ : ByteArray).size = (wrB ws[i].kind ws[i].text).length := by rw [← len_data]
        have Q2 : Hid (∀ j, p ≤ j → j < ws[i].pos → ∃ b, s.data.toList[j]? = some b ∧ isBla b = true) := Lib.hid q2
        have Q4 := Lib.hid q4
        generalize (⟨(wrB ws[i].kind ws[i].text).toArray⟩ : ByteArray) = tb at *
        generalize (wrB ws[i].kind ws[i].text).length = m at *
        generalize ((ws[i].kind : Nat) : Int) = ck at *
        generalize (⟨ws[i].text.toArray⟩ : ByteArray) = ct at *
        generalize ws[i].pos = cp at *
        have HQ1 := Lib.hid q1
        clear q2 q4 t1 t2 hil
        have hi0 : (0 : Int) ≤ (i : Int) := by omega
        have hi1 : (i : Int) < (n : Int) := by omega
        go_wp2_with fail
        go_loop [6] (fun av => ∃ j : Nat, av = .int .i64 (j : Nat) ∧ p ≤ j ∧ j ≤ cp) (fun av => cp - (intOf av).toNat)
        case atStart => exact ⟨p, rfl, Nat.le_refl _, HQ1.out⟩
        case round =>
          obtain ⟨j, rfl, hj1, hj2⟩ := hrel
          by_cases hjl : j < cp
          · have hjs : j < s.size := by omega
            obtain ⟨b, hb1, hb2⟩ := Q2.out j hj1 hjl
            have hbe : s[j] = b := by
              rw [List.getElem?_eq_getElem (by rw [len_data]; exact hjs)] at hb1
              exact Option.some.inj hb1
            have hcs : b = 32 ∨ b = 9 ∨ b = 10 ∨ b = 13 := by
              unfold isBla at hb2; simpa [or_assoc] using hb2
            have hu := u8_lt s[j]
            have hcase : (((s[j].toNat : Int) != 32) = false) ∨ (((s[j].toNat : Int) != 32) = true ∧ ((s[j].toNat : Int) != 9) = false) ∨ (((s[j].toNat : Int) != 32) = true ∧ ((s[j].toNat : Int) != 9) = true ∧ ((s[j].toNat : Int) != 10) = false) ∨ (((s[j].toNat : Int) != 32) = true ∧ ((s[j].toNat : Int) != 9) = true ∧ ((s[j].toNat : Int) != 10) = true ∧ ((s[j].toNat : Int) != 13) = false) := by
              rw [hbe]
              rcases hcs with rfl | rfl | rfl | rfl
              · exact .inl rfl
              · exact .inr (.inl ⟨rfl, rfl⟩)
              · exact .inr (.inr (.inl ⟨rfl, rfl, rfl⟩))
              · exact .inr (.inr (.inr ⟨rfl, rfl, rfl, rfl⟩))
            clear hb1 hb2 hbe hcs
            rcases hcase with e1 | ⟨e1, e2⟩ | ⟨e1, e2, e3⟩ | ⟨e1, e2, e3, e4⟩
            all_goals
              go_wp2
              refine ⟨⟨j + 1, by go_num, by omega, by omega⟩, by simp [intOf]; omega⟩
          · obtain rfl : j = cp := by omega
            go_wp2_with fail
            refine HWR.out.mono ?_
            rintro e w5 ⟨rfl, f5⟩
            have HF5 := Lib.hid (HF.out.trans f5 fun _ _ h => h)
            have b2 : w5.cell? ⟨g, i * 3 + 2, none⟩ = some (.int .i64 (j : Nat)) := by
              rw [← a2]
              simp only [World.cell?]
              rw [f5.block g hg id]
            clear f5 a0 a1 a2
            go_wp2
            go_roundw
            case rel => exact ⟨j + m, i + 1, by go_num, by go_num, by omega, by omega, Q4, HF5⟩
            case measure => simp [intOf]; omega
      · obtain rfl : i = n := by omega
        have hfin : p = s.size := by
          have h := HCI.out
          rw [← HN.out, List.drop_length] at h
          rw [← len_data]; exact h
        have hn1 : (0 : Int) < (i : Int) := by omega
        have HF4 := Lib.hid (F4.out.trans HF.out fun _ _ h => h)
        subst hfin
        go_wp2
        go_ret
        exact ⟨rfl, HF4.out⟩
  · have hfl := words_fault (r := s.data.toList) (by rw [hw]; exact hc)
    rw [hw, len_data] at hfl
    obtain ⟨q1, q2, q3⟩ := hfl
    have q1 : c = 40 ∨ c = 45 := q1
    have q2 : f ≤ s.size := q2
    have hc0 : ((c : Int) != 0) = true := by simp; omega
    clear hw q3
    go_enter Tryd.func7, Tryd.ntmps7
    go_wp2_with fail
    refine HAW.out.mono ?_
    rintro e w1 ⟨rfl, f1⟩
    have F1 := Lib.hid f1
    clear f1
    go_wp2_with fail
    refine (HW.out w1 F1.out).mono ?_
    rintro e w3 ⟨v, rfl, h3, f3⟩
    obtain ⟨y, hy⟩ : ∃ y, w3.heap.size = y := ⟨_, rfl⟩
    obtain ⟨w4, hw4⟩ : ∃ w4, w3.alloc (.cells #[.int .i64 (c : Nat), .int .i64 (f : Nat)] 26) = w4 := ⟨_, rfl⟩
    have hb4 : Blk w4 y 26 #[.int .i64 (c : Nat), .int .i64 (f : Nat)] := by rw [← hw4, ← hy]; exact Blk.new w3 26 _
    have F4 : Hid (Fr No w w4) := Lib.hid (by rw [← hw4]; exact (F1.out.trans f3 fun _ _ h => h).alloc _)
    have HW4 := Lib.hid hw4
    have HY := Lib.hid hy
    have k0 : w4.cell? ⟨y, 0, none⟩ = some (.int .i64 (c : Nat)) := hb4.cell 0
    have k1 : w4.cell? ⟨y, 1, none⟩ = some (.int .i64 (f : Nat)) := hb4.cell 1
    clear hb4 hw4 hy f3 h3
    go_upto_region 3 with fail
    rw [HW4.out, HY.out]
    rcases q1 with rfl | rfl
    · go_wp2
      go_ret
      exact ⟨rfl, F4.out⟩
    · go_wp2
      go_ret
      exact ⟨rfl, F4.out⟩
end Go.Proofs.YtaaleodffghbdaaDoor
