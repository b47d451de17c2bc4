/- LexCase, walked. -/
import Derived.Test.YtaaleodffghbdaaDoorF2
namespace Go.Proofs.YtaaleodffghbdaaDoor
open Go.RowKit Go.Maps
set_option linter.unusedVariables false

theorem xR_two {k : Nat} {t : Tx} (h : k = 2) : xR k t = rcN t.length t ∧ wrB k t = t := by
  unfold xR wrB
  rw [if_pos h, if_neg (by omega)]
  exact ⟨rfl, rfl⟩
theorem add_zero_at (g j : Nat) : (⟨g, 0, none⟩ : Addr).add j = ⟨g, j, none⟩ := by
  simp [Addr.add]; exact fun e => e.symm
theorem Rcs.even {w : World} {g n : Nat} {t : Tx} (h : Rcs w g n t) (ho : ¬ n % 2 = 1) : Rcs w g (n + 1) t := ⟨by rw [rcN_next_even ho]; exact h.cell, h.frz, h.lt⟩
theorem xR_other {k : Nat} {t : Tx} (h : k ≠ 2) : xR k t = wrB k t := by unfold xR; rw [if_neg h]
set_option maxRecDepth 100000 in
set_option maxHeartbeats 8000000 in
theorem lexcase_any (s : ByteArray) (w : World) (hL : Lr w) (hs : s.size ≤ maxLen) : Calls Tryd.prog 8 #[.string s] w (TrueP w) := by
  have HLR : Hid (∀ w', Fr No w w' → Lr w') := Lib.hid fun w' hf => hL.keep hL.lt hf.below
  have HAW := Lib.hid (awake_any w hL)
  obtain ⟨ws, c, f, hw⟩ : ∃ ws c f, wordsB s.data.toList = (ws, c, f) := ⟨_, _, _, rfl⟩
  have HW : Hid (∀ (s' : ByteArray) w', s'.size ≤ maxLen → wordsB s'.data.toList = (ws, c, f) → Fr No w w' → Calls Tryd.prog 11 #[.string s'] w' fun e w'' => ∃ v, e = .returned (.tuple #[v, .agg #[.int .i64 (c : Nat), .int .i64 (f : Nat)]]) ∧ LW w'' v ws ∧ Fr No w' w'') := Lib.hid fun s' w' hs' hw' hf => by
    refine (l_words s' w' (HLR.out w' hf) hs' hw').mono ?_
    rintro e w'' ⟨v, h1, h2, h3, _⟩
    exact ⟨v, h1, h2, h3⟩
  have HW1 := Lib.hid (fun w' hf => HW.out s w' hs hw hf)
  have hsm := hs
  unfold maxLen at hsm
  clear hL
  by_cases hc : c = 0
  · subst hc
    have hTX : ∀ x ∈ ws, x.text.length ≤ 8192 ∧ x.kind ≤ 6 ∧ x.pos ≤ 4096 := fun x hx => wordsB_text (by rw [hw]; exact hx)
    have HTX := Lib.hid hTX
    obtain ⟨X, Y, hCI⟩ := case_words hw
    have HCI := Lib.hid hCI
    have hsl := (made_words hw).1
    rw [len_data] at hsl
    have HWD := Lib.hid hw
    obtain ⟨n, hn⟩ : ∃ n, ws.length = n := ⟨_, rfl⟩
    have HN := Lib.hid hn
    have HC0 : Hid (∀ w', Fr No w w' → Calls Tryd.prog 11 #[.string s] w' fun e w'' => ∃ v, e = .returned (.tuple #[v, .agg #[.int .i64 0, .int .i64 (f : Nat)]]) ∧ LW w'' v ws ∧ Fr No w' w'') := HW1
    have hq := fun (a b c d : Int) (w : World) => eql26 a b c d w
    have hgd := guard26 .eql (.inl rfl)
    clear hw hTX hn hCI HW1
    go_enter Tryd.func8, Tryd.ntmps8
    go_wp2_with fail
    refine HAW.out.mono ?_
    rintro e w1 ⟨rfl, f1⟩
    have F1 := Lib.hid f1
    clear f1
    go_wp2_with fail
    refine (HC0.out w1 F1.out).mono ?_
    rintro e w3 ⟨v, rfl, h3, f3⟩
    obtain ⟨A, cc, hv, hl, hA⟩ := h3
    have hlw : LW w3 (.slice A n cc) ws := ⟨A, cc, by rw [HN.out], hl, hA⟩
    have hnb : n ≤ 100000 := by rw [← HN.out]; exact hl
    rw [HN.out] at hv
    subst hv
    obtain ⟨y, hy⟩ : ∃ y, w3.heap.size = y := ⟨_, rfl⟩
    obtain ⟨w4, hw4⟩ : ∃ w4, w3.alloc (.cells #[.int .i64 0, .int .i64 (f : Nat)] 26) = w4 := ⟨_, rfl⟩
    have hb4 : Blk w4 y 26 #[.int .i64 0, .int .i64 (f : Nat)] := by rw [← hw4, ← hy]; exact Blk.new w3 26 _
    have f34 : Fr No w3 w4 := by rw [← hw4]; exact (Fr.refl No w3).alloc _
    have F4 : Hid (Fr No w w4) := Lib.hid (((F1.out.trans f3 fun _ _ h => h)).trans f34 fun _ _ h => h)
    have HLW := Lib.hid (hlw.keep f34)
    have HW4 := Lib.hid hw4
    have HY := Lib.hid hy
    have HB4 := Lib.hid hb4
    have k0 : w4.cell? ⟨y, 0, none⟩ = some (.int .i64 0) := hb4.cell 0
    clear hb4 hw4 hy f3 hA hlw f34 hl
    go_upto_region 3 with fail
    rw [HW4.out, HY.out]
    go_wp2
    clear k0
    go_loopw [6, 7, 8, 9, 10, 11] (fun sv av iv wv bv kv wr => ∃ i : Nat, iv = .int .i64 (i : Nat) ∧ i ≤ n ∧ sv = .string ⟨(X i).toArray⟩ ∧ av = .int .i64 (Y i : Nat) ∧ Hid (Fr No w4 wr)) (fun _ _ iv _ _ _ _ => n - (intOf iv).toNat)
    case atStart => exact ⟨0, rfl, Nat.zero_le _, by rw [HCI.out.x0], by rw [HCI.out.y0]; rfl, Lib.hid (Fr.refl _ _)⟩
    case round =>
      obtain ⟨i, rfl, hi, rfl, rfl, HF⟩ := hrel
      by_cases hlt : i < n
      · have hil : i < ws.length := by rw [HN.out]; omega
        obtain ⟨x, hwi⟩ : ∃ x, ws[i]? = some x := ⟨_, List.getElem?_eq_getElem hil⟩
        obtain ⟨t1, t2, t3⟩ := HTX.out _ (List.mem_of_getElem? hwi)
        obtain ⟨q1, q2, q3, q4, q5, q6, q7⟩ := HCI.out.step i x hwi
        rw [len_data] at q2 q7
        obtain ⟨-, g, rfl, hg, a0, a1, a2⟩ := (HLW.out.keep HF.out).at_ hwi
        have HWR : Hid (Calls Tryd.prog 19 #[.agg #[.int .i64 (x.kind : Nat), .string ⟨x.text.toArray⟩, .int .i64 (x.pos : Nat)]] wr fun e w' => e = .returned (.string ⟨(wrB x.kind x.text).toArray⟩) ∧ Fr No wr w') := Lib.hid
          (written_any x.kind ⟨x.text.toArray⟩ (x.pos : Nat) wr (HLR.out wr (F4.out.trans HF.out fun _ _ h => h)) (by rw [← len_data]; show x.text.length ≤ _; omega) (by omega))
        obtain ⟨G, hG⟩ : ∃ G, (s.data.toList.take x.pos).drop (Y i) = G := ⟨_, rfl⟩
        have hGb : s.extract (Y i) x.pos = ⟨G.toArray⟩ := mk_eq (by rw [ext_toList, hG])
        have hGl : G.length ≤ 4096 := by rw [← hG, List.length_drop, List.length_take]; omega
        rw [hG] at q3
        obtain ⟨Z, hZ⟩ : ∃ Z, X i ++ G = Z := ⟨_, rfl⟩
        rw [hZ] at q3
        have hZl : Z.length ≤ 8192 := by rw [← hZ, List.length_append]; omega
        obtain ⟨gb, hgb⟩ : ∃ gb, s.extract (Y i) x.pos = gb := ⟨_, rfl⟩
        rw [hgb] at hGb
        have hcat1 : ∀ w0, (Op.stringOp .add ⟨(X i).toArray⟩ gb).run Tryd.prog w0 = .ok (.string ⟨Z.toArray⟩) w0 := fun w0 => by rw [hGb, run_cat _ _ (by unfold maxLen; omega), hZ]
        have hxl : (xR x.kind x.text).length ≤ 19000 := by rw [xR_len]; exact wrB_len _ _ t1
        have hcat2 : ∀ w0, (Op.stringOp .add ⟨Z.toArray⟩ ⟨(xR x.kind x.text).toArray⟩).run Tryd.prog w0 = .ok (.string ⟨(X (i + 1)).toArray⟩) w0 := fun w0 => by rw [run_cat _ _ (by unfold maxLen; omega), q3]
        obtain ⟨xb, hxb⟩ : ∃ xb : ByteArray, (⟨(xR x.kind x.text).toArray⟩ : ByteArray) = xb := ⟨_, rfl⟩
        rw [hxb] at hcat2
        have hxs : xb.size = (xR x.kind x.text).length := by rw [← hxb, ← len_data]
        have HY2 : Hid (Y (i + 1) = x.pos + xb.size) := Lib.hid (by rw [q4, hxs])
        have hyb : x.pos + xb.size ≤ 4096 := by omega
        have hi0 : (0 : Int) ≤ (i : Int) := by omega
        have hi1 : (i : Int) < (n : Int) := by omega
        have HXB := Lib.hid hxb
        have Q5 := Lib.hid q5
        have hgw : g < wr.heap.size := Nat.lt_of_lt_of_le hg (Nat.le_refl _)
        clear q3 q4 q5 hG hGb hZ hZl hGl hxl hwi hil hxb hxs
        go_upto_region 11 with fail
        go_wp2_with fail
        refine HWR.out.mono ?_
        rintro e w7 ⟨rfl, f7⟩
        have b0 : w7.cell? ⟨g, i * 3, none⟩ = some (.int .i64 (x.kind : Nat)) := by rw [← a0]; simp only [World.cell?]; rw [f7.block g hgw id]
        have b2 : w7.cell? ⟨g, i * 3 + 2, none⟩ = some (.int .i64 (x.pos : Nat)) := by rw [← a2]; simp only [World.cell?]; rw [f7.block g hgw id]
        have hg7 : g < w7.heap.size := Nat.lt_of_lt_of_le hgw f7.size
        have HF7 := Lib.hid (HF.out.trans f7 fun _ _ h => h)
        have B2 := Lib.hid b2
        clear a0 a1 a2 f7 b2
        go_upto_region 12 with fail
        go_upto_if 50 with fail
        go_cut [9] (fun wv wx => wv = .string xb ∧ Fr No w7 wx)
        case first =>
          by_cases hk : x.kind = 2
          · obtain ⟨e1, e2⟩ := xR_two (t := x.text) hk
            have ht := Q5.out hk
            have htop := kws_top _ ht
            have hk2 : ((x.kind : Int) == 2) = true := by rw [hk]; rfl
            have HXB2 : Hid ((⟨(rcN x.text.length x.text).toArray⟩ : ByteArray) = xb) := Lib.hid (by rw [← e1]; exact HXB.out)
            rw [e2]
            generalize x.text = t at *
            obtain ⟨m, hm⟩ : ∃ m, t.length = m := ⟨_, rfl⟩
            have hml : m ≤ 8192 := by omega
            obtain ⟨y7, hy7⟩ : ∃ y7, w7.heap.size = y7 := ⟨_, rfl⟩
            have hcv := run_bytes_of_string (P := Tryd.prog) w7 9 38 5 ⟨t.toArray⟩ Tryd.underlying9 Tryd.underlying38 Tryd.underlying5
            have hsz : (⟨t.toArray⟩ : ByteArray).size = m := by rw [← len_data]; exact hm
            have hcap : m ≤ grownCap w7 (⟨t.toArray⟩ : ByteArray).size 0 5 := by rw [← hsz]; exact grownCap_ge _ _ _ _
            have hrc := rcs_new w7 ⟨t.toArray⟩ _ (by rw [hsz]; exact hcap)
            rw [hsz] at hcv hrc hcap
            obtain ⟨cap, hcp⟩ : ∃ cap, grownCap w7 m 0 5 = cap := ⟨_, rfl⟩
            rw [hcp] at hcv hrc hcap
            obtain ⟨w8, hw8⟩ : ∃ w8, w7.drew.alloc (.cells (bytesRow ⟨t.toArray⟩ cap) 5 ((bytesRow ⟨t.toArray⟩ cap).size, (bytesRow ⟨t.toArray⟩ cap).size + 1)) = w8 := ⟨_, rfl⟩
            rw [hw8, hy7] at hcv
            rw [hw8, hy7] at hrc
            have f78 : Fr No w7 w8 := by rw [← hw8]; exact ((Fr.refl No w7).drew).alloc _
            have HRC := Lib.hid hrc
            have HF78 := Lib.hid f78
            have HTOP := Lib.hid htop
            have HM := Lib.hid hm
            have HY7 := Lib.hid hy7
            obtain ⟨tb, htb⟩ : ∃ tb : ByteArray, (⟨t.toArray⟩ : ByteArray) = tb := ⟨_, rfl⟩
            rw [htb] at hcv ⊢
            clear e1 e2 ht htop hm hrc f78 hw8 hcp hsz htb hk hy7
            go_wp2
            clear hcv
            go_loopw [11] (fun kv wx => ∃ k : Nat, kv = .int .i64 (k : Nat) ∧ k ≤ m ∧ Hid (Rcs wx y7 k t) ∧ Hid (Fr No w7 wx)) (fun kv _ => m - (intOf kv).toNat)
            case atStart => exact ⟨0, rfl, Nat.zero_le _, HRC, HF78⟩
            case round =>
              obtain ⟨k, rfl, hk, HR, HFX⟩ := hrel
              by_cases hkm : k < m
              · have hkt : k < t.length := by rw [HM.out]; exact hkm
                have hk0 : (0 : Int) ≤ (k : Int) := by omega
                have hk1 : (k : Int) < (m : Int) := by omega
                by_cases ho : k % 2 = 1
                · have ho1 : ((k : Int) % 2 == 1) = true := by
                    have : (k : Int) % 2 = 1 := by omega
                    rw [this]; rfl
                  have hc1 := HR.out.cell k _ (rcN_at k t k hkt)
                  rw [if_neg (fun h => absurd h.1 (by omega))] at hc1
                  have hz1 := HR.out.frz k hkt
                  have ht9 := HTOP.out _ (List.getElem_mem hkt)
                  have ha := add32 _ ht9
                  have HNX := Lib.hid (HR.out.set_ hkt ho (.int .u8 ((t[k].toNat : Int) + 32)) (by rw [ha]; rfl))
                  have hy0 := HY7.out
                  have HFN := Lib.hid (HFX.out.setCell (p := ⟨y7, k, none⟩) (fun h => absurd h (by show ¬ y7 < _; omega)) (.int .u8 ((t[k].toNat : Int) + 32)))
                  have he : IntKind.u8.wrap ((t[k].toNat : Int) + 32) = (t[k].toNat : Int) + 32 := IntWalk.u8_in _ (by omega)
                  generalize ((t[k].toNat : Nat) : Int) = tk at *
                  clear ha ht9 hkt ho hy0
                  go_wp2
                  go_roundw
                  case rel => exact ⟨k + 1, by go_num, by omega, HNX, HFN⟩
                  case measure => simp [intOf]; omega
                · have ho1 : ((k : Int) % 2 == 1) = false := by
                    have : (k : Int) % 2 = 0 := by omega
                    rw [this]; rfl
                  have HNX := Lib.hid (HR.out.even ho)
                  clear hkt ho
                  go_wp2
                  go_roundw
                  case rel => exact ⟨k + 1, by go_num, by omega, HNX, HFX⟩
                  case measure => simp [intOf]; omega
              · obtain rfl : k = m := by omega
                have hbk := fun (w0 : World) (h0 : Rcs w0 y7 k t) => run_convert_bytes_back (P := Tryd.prog) w0 38 9 5 ⟨y7, 0, none⟩ cap (rcN k t) Tryd.underlying38 Tryd.underlying5 Tryd.underlying9 (fun j hj => by
                  rw [add_zero_at]
                  exact h0.cell j _ (List.getElem?_eq_getElem hj))
                have hbk2 := hbk _ HR.out
                rw [rcN_len, HM.out] at hbk2
                have hx2 : (⟨(rcN k t).toArray⟩ : ByteArray) = xb := by have := HXB2.out; rw [HM.out] at this; exact this
                rw [hx2] at hbk2
                clear hbk hx2
                go_wp2
                go_meet
                exact ⟨rfl, HFX.out⟩
          · have hk2 : ((x.kind : Int) == 2) = false := by simp; omega
            have hx2 : (⟨(wrB x.kind x.text).toArray⟩ : ByteArray) = xb := by rw [← xR_other hk]; exact HXB.out
            rw [hx2]
            clear hx2 hk
            go_wp2
            go_meet
            exact ⟨rfl, Fr.refl _ _⟩
        case rest =>
          obtain ⟨rfl, h7⟩ := hcut
          obtain ⟨wy, hwy⟩ : ∃ wy, wc = wy := ⟨_, rfl⟩
          rw [hwy] at h7 ⊢
          have b2 : wy.cell? ⟨g, i * 3 + 2, none⟩ = some (.int .i64 (x.pos : Nat)) := by rw [← B2.out]; simp only [World.cell?]; rw [h7.block g hg7 id]
          have HF8 := Lib.hid (HF7.out.trans h7 fun _ _ h => h)
          clear hwy h7 b0
          go_upto_region 20 with fail
          go_wp2
          go_roundw
          case rel => exact ⟨i + 1, by go_num, by omega, rfl, by rw [HY2.out]; go_num, HF8⟩
          case measure => simp [intOf]; omega
      · obtain rfl : i = n := by omega
        obtain ⟨r1, r2⟩ := HCI.out.fin
        rw [HN.out] at r1 r2
        rw [HWD.out] at r1
        obtain ⟨xb, hxb⟩ : ∃ xb : ByteArray, (⟨(X i).toArray⟩ : ByteArray) = xb := ⟨_, rfl⟩
        have HC1 : Hid (Calls Tryd.prog 11 #[.string xb] wr fun e w'' => ∃ v, e = .returned (.tuple #[v, .agg #[.int .i64 0, .int .i64 (f : Nat)]]) ∧ LW w'' v ws ∧ Fr No wr w'') := Lib.hid (by
          rw [← hxb]
          exact HW.out _ wr (by rw [← len_data]; show (X i).length ≤ _; unfold maxLen; omega) r1 (F4.out.trans HF.out fun _ _ h => h))
        rw [hxb]
        clear r1 r2 hxb
        go_wp2_with fail
        refine HC1.out.mono ?_
        rintro e w5 ⟨v, rfl, h5, f5⟩
        obtain ⟨y5, hy5⟩ : ∃ y5, w5.heap.size = y5 := ⟨_, rfl⟩
        obtain ⟨w6, hw6⟩ : ∃ w6, w5.alloc (.cells #[.int .i64 0, .int .i64 (f : Nat)] 26) = w6 := ⟨_, rfl⟩
        have hb6 : Blk w6 y5 26 #[.int .i64 0, .int .i64 (f : Nat)] := by rw [← hw6, ← hy5]; exact Blk.new w5 26 _
        have f56 : Fr No w5 w6 := by rw [← hw6]; exact (Fr.refl No w5).alloc _
        have f46 : Fr No w4 w6 := (HF.out.trans f5 fun _ _ h => h).trans f56 fun _ _ h => h
        have F6 : Hid (Fr No w w6) := Lib.hid (F4.out.trans f46 fun _ _ h => h)
        have hb4' : Blk w6 y 26 #[.int .i64 0, .int .i64 (f : Nat)] := HB4.out.of (f46.block y HB4.out.lt id)
        have HSM := Lib.hid (same_true _ _ _ _ (HLW.out.keep f46) (h5.keep f56))
        have HW6 := Lib.hid hw6
        have HY5 := Lib.hid hy5
        have k0 : w6.cell? ⟨y5, 0, none⟩ = some (.int .i64 0) := hb6.cell 0
        have k1 : w6.cell? ⟨y5, 1, none⟩ = some (.int .i64 (f : Nat)) := hb6.cell 1
        have l0 : w6.cell? ⟨y, 0, none⟩ = some (.int .i64 0) := hb4'.cell 0
        have l1 : w6.cell? ⟨y, 1, none⟩ = some (.int .i64 (f : Nat)) := hb4'.cell 1
        clear hb6 hw6 hy5 f5 h5 f56 f46 hb4'
        go_upto_region 23 with fail
        rw [HW6.out, HY5.out]
        go_wp2_with fail
        refine HSM.out.mono ?_
        rintro e w7 ⟨rfl, q, rfl⟩
        have HF9 := Lib.hid (F6.out.drewN q)
        go_wp2
        go_ret
        exact ⟨rfl, HF9.out⟩
  · have hfl := words_fault (r := s.data.toList) (by rw [hw]; exact hc)
    have hc0 : ((c : Int) != 0) = true := by simp; omega
    clear hw hfl HW
    go_enter Tryd.func8, Tryd.ntmps8
    go_wp2_with fail
    refine HAW.out.mono ?_
    rintro e w1 ⟨rfl, f1⟩
    have F1 := Lib.hid f1
    clear f1
    go_wp2_with fail
    refine (HW1.out w1 F1.out).mono ?_
    rintro e w3 ⟨v, rfl, h3, f3⟩
    obtain ⟨y, hy⟩ : ∃ y, w3.heap.size = y := ⟨_, rfl⟩
    obtain ⟨w4, hw4⟩ : ∃ w4, w3.alloc (.cells #[.int .i64 (c : Nat), .int .i64 (f : Nat)] 26) = w4 := ⟨_, rfl⟩
    have hb4 : Blk w4 y 26 #[.int .i64 (c : Nat), .int .i64 (f : Nat)] := by rw [← hw4, ← hy]; exact Blk.new w3 26 _
    have F4 : Hid (Fr No w w4) := Lib.hid (by rw [← hw4]; exact (F1.out.trans f3 fun _ _ h => h).alloc _)
    have HW4 := Lib.hid hw4
    have HY := Lib.hid hy
    have k0 : w4.cell? ⟨y, 0, none⟩ = some (.int .i64 (c : Nat)) := hb4.cell 0
    clear hb4 hw4 hy f3 h3
    go_upto_region 3 with fail
    rw [HW4.out, HY.out]
    go_wp2
    go_ret
    exact ⟨rfl, F4.out⟩
end Go.Proofs.YtaaleodffghbdaaDoor
