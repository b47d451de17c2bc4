/- LexSpread, walked. -/
import Derived.Test.YtaaleodffghbdaaDoorE2
namespace Go.Proofs.YtaaleodffghbdaaDoor
open Go.RowKit Go.Maps
set_option linter.unusedVariables false

theorem own1_cell {w : World} {base n c : Nat} {e : TypeId} {A : Option Addr} {xs : List Value} (h : w.ownsRow base e 1 (.slice A n c) n xs) {j : Nat} {v : Value} (hj : xs[j]? = some v) (hjn : j < n) :
    ∃ g, A = some ⟨g, 0, none⟩ ∧ w.cell? ⟨g, j, none⟩ = some v := by
  rcases h.2 with ⟨_, h0⟩ | ⟨g, cap, cur, e1, hb, hh, hnc, hcm, hs, ht⟩
  · omega
  · injection e1 with e1 e2 e3
    refine ⟨g, e1, ?_⟩
    rw [cell_of_row w g j cur e (0, 0) hh, ← hj, ← ht, List.getElem?_take, if_pos (by omega), Array.getElem?_toList]
set_option maxRecDepth 100000 in
set_option maxHeartbeats 8000000 in
theorem lexspread_any (s : ByteArray) (A0 : Option Addr) (nb cb : Nat) (zs : List Int) (w : World) (hL : Lr w) (hs : s.size ≤ maxLen) (hz : IntsAt w A0 nb cb zs) : Calls Tryd.prog 5 #[.string s, .slice A0 nb cb] w (TrueP w) := by
  have HLR : Hid (∀ w', Fr No w w' → Lr w') := Lib.hid fun w' hf => hL.keep hL.lt hf.below
  have HAW := Lib.hid (awake_any w hL)
  obtain ⟨ws, c, f, hw⟩ : ∃ ws c f, wordsB s.data.toList = (ws, c, f) := ⟨_, _, _, rfl⟩
  have HW : Hid (∀ w', Fr No w w' → Calls Tryd.prog 11 #[.string s] w' fun e w'' => ∃ v, e = .returned (.tuple #[v, .agg #[.int .i64 (c : Nat), .int .i64 (f : Nat)]]) ∧ LW w'' v ws ∧ Fr No w' w'') := Lib.hid fun w' hf => by
    refine (l_words s w' (HLR.out w' hf) hs hw).mono ?_
    rintro e w'' ⟨v, h1, h2, h3, _⟩
    exact ⟨v, h1, h2, h3⟩
  have hsm := hs
  unfold maxLen at hsm
  have HZ := Lib.hid hz
  clear hL
  by_cases hc : c = 0
  · subst hc
    obtain ⟨h1, tl, htl, hval⟩ := words_split hw
    have hTX : ∀ x ∈ ws, x.text.length ≤ 8192 ∧ x.kind ≤ 6 ∧ x.pos ≤ 4096 := fun x hx => wordsB_text (by rw [hw]; exact hx)
    have HTX := Lib.hid hTX
    have HTL := Lib.hid htl
    have HVAL := Lib.hid hval
    obtain ⟨n, hn⟩ : ∃ n, tl.length = n := ⟨_, rfl⟩
    have hwn : ws.length = n + 1 := by rw [htl, List.length_append, hn]; rfl
    have HN := Lib.hid hn
    have HWN := Lib.hid hwn
    have HC0 : Hid (∀ w', Fr No w w' → Calls Tryd.prog 11 #[.string s] w' fun e w'' => ∃ v, e = .returned (.tuple #[v, .agg #[.int .i64 0, .int .i64 (f : Nat)]]) ∧ LW w'' v ws ∧ Fr No w' w'') := HW
    have hnb1 := hz.cap
    clear hw hTX hn HW htl hval hwn h1
    go_enter Tryd.func5, Tryd.ntmps5
    go_wp2_with fail
    refine HAW.out.mono ?_
    rintro e w1 ⟨rfl, f1⟩
    have F1 := Lib.hid f1
    clear f1
    go_wp2_with fail
    refine (HC0.out w1 F1.out).mono ?_
    rintro e w3 ⟨v, rfl, h3, f3⟩
    obtain ⟨A, cc, hv, hl, hA⟩ := h3
    have hlw : LW w3 (.slice A (n + 1) cc) ws := ⟨A, cc, by rw [HWN.out], hl, hA⟩
    have hnb : n + 1 ≤ 100000 := by rw [← HWN.out]; exact hl
    rw [HWN.out] at hv
    subst hv
    obtain ⟨y, hy⟩ : ∃ y, w3.heap.size = y := ⟨_, rfl⟩
    obtain ⟨w4, hw4⟩ : ∃ w4, w3.alloc (.cells #[.int .i64 0, .int .i64 (f : Nat)] 26) = w4 := ⟨_, rfl⟩
    have hb4 : Blk w4 y 26 #[.int .i64 0, .int .i64 (f : Nat)] := by rw [← hw4, ← hy]; exact Blk.new w3 26 _
    have f34 : Fr No w3 w4 := by rw [← hw4]; exact (Fr.refl No w3).alloc _
    have F4 : Hid (Fr No w w4) := Lib.hid (((F1.out.trans f3 fun _ _ h => h)).trans f34 fun _ _ h => h)
    have HLW := Lib.hid (hlw.keep f34)
    have HZ4 := Lib.hid (HZ.out.keep F4.out)
    have HW4 := Lib.hid hw4
    have HY := Lib.hid hy
    have k0 : w4.cell? ⟨y, 0, none⟩ = some (.int .i64 0) := hb4.cell 0
    obtain ⟨y4, hy4⟩ : ∃ y4, w4.heap.size = y4 := ⟨_, rfl⟩
    have HY4 := Lib.hid hy4
    clear hb4 hw4 hy f3 hA hlw f34 hl hy4 hz
    have hn0 : ((n : Int) + 1 == 0) = false := by simp; omega
    go_upto_region 3 with fail
    rw [HW4.out, HY.out]
    go_wp2
    clear k0
    go_loopw [8, 9, 10, 11, 12] (fun sv pv iv nv dv wr => ∃ (i : Nat) (ps : List Pc) (Ap : Option Addr) (cp : Nat), iv = .int .i64 (i : Nat) ∧ i ≤ n ∧ sv = .string ⟨(txt [] ps).toArray⟩ ∧ pv = .slice Ap i cp ∧ Hid (SpI ws i ps) ∧ Hid (wr.ownsRow y4 3 1 (.slice Ap i cp) i ((mkW 0 ps).map posV)) ∧ Hid (Fr No w4 wr)) (fun _ _ iv _ _ _ => n - (intOf iv).toNat)
    case atStart => exact ⟨0, [], none, 0, rfl, Nat.zero_le _, rfl, rfl, Lib.hid (SpI.nil _), Lib.hid ⟨rfl, .inl ⟨rfl, rfl⟩⟩, Lib.hid (Fr.refl _ _)⟩
    case round =>
      obtain ⟨i, ps, Ap, cp, rfl, hi, rfl, rfl, HSP, HROW, HF⟩ := hrel
      by_cases hlt : i < n
      · have hil : i < ws.length := by rw [HWN.out]; omega
        obtain ⟨x, hwi⟩ : ∃ x, ws[i]? = some x := ⟨_, List.getElem?_eq_getElem hil⟩
        obtain ⟨t1, t2, t3⟩ := HTX.out _ (List.mem_of_getElem? hwi)
        have HSN : Hid (∀ m, SpI ws (i + 1) (ps ++ [⟨padN m, x.kind, x.text, wrB x.kind x.text⟩])) := Lib.hid fun m => HSP.out.next hwi t1 m
        have HAT : Hid (∀ wx, Fr No w4 wx → ∃ g, A = some ⟨g, 0, none⟩ ∧ g < w4.heap.size ∧ wx.cell? ⟨g, i * 3, none⟩ = some (.int .i64 (x.kind : Nat)) ∧ wx.cell? ⟨g, i * 3 + 1, none⟩ = some (.string ⟨x.text.toArray⟩) ∧ wx.cell? ⟨g, i * 3 + 2, none⟩ = some (.int .i64 (x.pos : Nat))) := Lib.hid fun wx hf => by
          obtain ⟨_, g, e, _, a0, a1, a2⟩ := (HLW.out.keep hf).at_ hwi
          obtain ⟨_, g', e', hg', _⟩ := HLW.out.at_ hwi
          rw [e] at e'
          injection e' with e'
          injection e' with e'
          subst e'
          exact ⟨g, e, hg', a0, a1, a2⟩
        have HWR : Hid (∀ wx, Fr No w wx → Calls Tryd.prog 19 #[.agg #[.int .i64 (x.kind : Nat), .string ⟨x.text.toArray⟩, .int .i64 (x.pos : Nat)]] wx fun e w' => e = .returned (.string ⟨(wrB x.kind x.text).toArray⟩) ∧ Fr No wx w') := Lib.hid fun wx hf =>
          written_any x.kind ⟨x.text.toArray⟩ (x.pos : Nat) wx (HLR.out wx hf) (by rw [← len_data]; show x.text.length ≤ _; omega) (by omega)
        have hwl : (wrB x.kind x.text).length ≤ 19000 := wrB_len _ _ t1
        have hsl : (txt [] ps).length ≤ 4000000000 := by have := HSP.out.sz; omega
        have HTS : Hid (∀ m, txt [] (ps ++ [⟨padN m, x.kind, x.text, wrB x.kind x.text⟩]) = txt [] ps ++ padN m ++ wrB x.kind x.text) := Lib.hid fun m => txt_snoc _ ps
        have HMS : Hid (∀ m, (mkW 0 (ps ++ [⟨padN m, x.kind, x.text, wrB x.kind x.text⟩])).map posV = (mkW 0 ps).map posV ++ [.int .i64 (((txt [] ps).length + (padN m).length : Nat) : Int)]) := Lib.hid fun m => by
          rw [mkW_snoc, List.map_append]
          show _ ++ [posV _] = _
          unfold posV Pc.wd
          rw [Nat.zero_add]
        generalize wrB x.kind x.text = wb at *
        generalize txt [] ps = S at *
        generalize (mkW 0 ps).map posV = R at *
        generalize ((x.kind : Nat) : Int) = ck at HAT HWR
        generalize (⟨x.text.toArray⟩ : ByteArray) = ct at HAT HWR
        generalize ((x.pos : Nat) : Int) = cpos at HAT HWR
        have hi0 : (0 : Int) ≤ (i : Int) := by omega
        have hi1 : (i : Int) < (n : Int) + 1 := by omega
        clear hwi t1 t2 t3 hil
        go_upto_region 13 with fail
        go_upto_if 44 with fail
        go_cut [11] (fun nv wx => ∃ t : Int, -4 < t ∧ t < 4 ∧ nv = .int .i64 t ∧ wr = wx)
        case first =>
          by_cases hib : i < nb
          · obtain ⟨g, off, rfl, hg, hcell⟩ := (HZ4.out.keep HF.out).at_ (by omega)
            have hzl : i < zs.length := by have := HZ4.out.len; omega
            have ci := hcell i hzl
            have hr := HZ4.out.rng _ (List.getElem_mem hzl)
            generalize zs[i] = b at *
            have hb := tmod4_bd b
            obtain ⟨t, ht⟩ : ∃ t, b.tmod 4 = t := ⟨_, rfl⟩
            rw [ht] at hb
            have hw : IntKind.i64.wrap t = t := IntWalk.i64_in _ (by omega)
            clear hcell
            go_wp2
            go_meet
            exact ⟨t, hb.1, hb.2, rfl, rfl⟩
          · go_wp2
            go_meet
            exact ⟨0, by omega, by omega, rfl, rfl⟩
        case rest =>
          obtain ⟨t, ht1, ht2, rfl, rfl⟩ := hcut
          obtain ⟨bp, hbp⟩ : ∃ bp, wr.heap.size = bp := ⟨_, rfl⟩
          obtain ⟨wp, hwp⟩ : ∃ wp, wr.alloc (.cells #[.string ⟨#[32]⟩, .string ⟨#[10]⟩, .string ⟨#[9, 32]⟩, .string ⟨#[32, 13, 10, 32, 32]⟩] 9) = wp := ⟨_, rfl⟩
          have hbk : Blk wp bp 9 #[.string ⟨#[32]⟩, .string ⟨#[10]⟩, .string ⟨#[9, 32]⟩, .string ⟨#[32, 13, 10, 32, 32]⟩] := by rw [← hwp, ← hbp]; exact Blk.new wr 9 _
          have FP : Hid (Fr No wr wp) := Lib.hid (by rw [← hwp]; exact (Fr.refl No wr).alloc _)
          have HBP := Lib.hid hbp
          have HWP := Lib.hid hwp
          have HPD : Hid (∀ m : Nat, m < 4 → wp.cell? ⟨bp, m, none⟩ = some (.string ⟨(padN m).toArray⟩)) := Lib.hid fun m hm => by
            rw [hbk.cell]
            have : m = 0 ∨ m = 1 ∨ m = 2 ∨ m = 3 := by omega
            rcases this with rfl | rfl | rfl | rfl <;> rfl
          clear hbp hwp hbk
          go_upto_region 16 with fail
          rw [HWP.out, HBP.out]
          go_upto_if 52 with fail
          go_cut [11] (fun nv wx => ∃ m : Nat, m < 4 ∧ nv = .int .i64 (m : Nat) ∧ wp = wx)
          case first =>
            by_cases hneg : t < 0
            · have hw : IntKind.i64.wrap (-t) = -t := IntWalk.i64_in _ (by omega)
              have hm : -t = ((-t).toNat : Int) := by omega
              have HM := Lib.hid hm
              clear hm
              go_wp2
              go_meet
              exact ⟨(-t).toNat, by omega, by rw [← HM.out], rfl⟩
            · have hm : t = (t.toNat : Int) := by omega
              have HM := Lib.hid hm
              clear hm
              go_wp2
              go_meet
              exact ⟨t.toNat, by omega, by rw [← HM.out], rfl⟩
          case rest =>
            obtain ⟨m, hm, rfl, rfl⟩ := hcut
            have hpl := padN_len m
            have HTS2 := Lib.hid (HTS.out m)
            have HMS2 := Lib.hid (HMS.out m)
            have HSN2 := Lib.hid (HSN.out m)
            have pm := HPD.out m hm
            obtain ⟨xb, hxb⟩ : ∃ xb : ByteArray, (⟨(S ++ padN m).toArray⟩ : ByteArray) = xb := ⟨_, rfl⟩
            obtain ⟨yb, hyb⟩ : ∃ yb : ByteArray, (⟨(S ++ padN m ++ wb).toArray⟩ : ByteArray) = yb := ⟨_, rfl⟩
            have hxs : xb.size = S.length + (padN m).length := by rw [← hxb, ← len_data]; exact List.length_append
            have hcat1 : ∀ w0, (Op.stringOp .add ⟨S.toArray⟩ ⟨(padN m).toArray⟩).run Tryd.prog w0 = .ok (.string xb) w0 := fun w0 => by rw [run_cat _ _ (by unfold maxLen; omega), hxb]
            have hcat2 : ∀ w0, (Op.stringOp .add xb ⟨wb.toArray⟩).run Tryd.prog w0 = .ok (.string yb) w0 := fun w0 => by rw [← hxb, run_cat _ _ (by unfold maxLen; rw [List.length_append]; omega), hyb]
            have HYB : Hid (yb = ⟨(txt [] (ps ++ [⟨padN m, x.kind, x.text, wb⟩])).toArray⟩) := Lib.hid (by rw [HTS2.out, hyb])
            have HXS : Hid ((mkW 0 (ps ++ [⟨padN m, x.kind, x.text, wb⟩])).map posV = R ++ [.int .i64 (xb.size : Nat)]) := Lib.hid (by rw [HMS2.out, hxs])
            have hxl : xb.size ≤ 5000000000 := by omega
            have HROWP : Hid (wp.ownsRow y4 3 1 (.slice Ap i cp) i R) := Lib.hid (own_of HROW.out fun k hk => FP.out.block k (HROW.out.lt k hk).2 id)
            have hyp : y4 ≤ wp.heap.size := by have h1 := HF.out.size; have h2 := FP.out.size; have h3 := HY4.out; omega
            have HF6 : Hid (∀ (w6 : World) (o : Obj), (wp.alloc o).grownBy w6 (Value.slice Ap i cp).ownBlock → Fr No w4 w6) := Lib.hid fun w6 o hg =>
              (((HF.out.trans FP.out fun _ _ h => h).alloc o).grown hg fun k hk hkl => by
                have h1 := (HROWP.out.lt k hk).1
                have h2 := HY4.out
                omega)
            obtain ⟨P, hP⟩ : ∃ P, (⟨(padN m).toArray⟩ : ByteArray) = P := ⟨_, rfl⟩
            rw [hP] at pm hcat1
            obtain ⟨i0, hi00, hz0, hz1, hz2⟩ := info_parts info3
            clear hP hxb hyb hxs hsl hwl hpl HTS HMS HSN HPD HTS2 HMS2
            go_upto_region 18 with fail
            go_wp2_with (at_builtin; refine wpList_append_lies _ (by rfl) _ _ 34 (by rfl) y4 3 i0 _ 1 8 Tryd.underlying34 hi00 hz0 hz1 hz2 rfl (by omega) (.slice Ap i cp) _ _ (by rfl) (HROWP.out.alloc _) ⟨wp.heap.size, 0, none⟩ 1 1 [.int .i64 (xb.size : Nat)] (by rfl) (by rfl) (World.news_of_block (cs := #[.int .i64 (xb.size : Nat)]) (t := 3) (fr := (0, 0)) (heap_alloc_new wp _)) (by simp [Value.oneCell']) (by omega) (by unfold maxLen; omega) (by omega) (by simp; omega) (wp.heap.size + 1) (by simp) ?_; intro g2 cap w6 hown6 hgrow6 hat6 hlt6; have f6 := HF6.out _ _ hgrow6; have h6 := HAT.out w6 f6; have HF7 := Lib.hid f6; have HO6 := Lib.hid hown6; clear hgrow6 hat6 f6 hown6; obtain ⟨g, rfl, hg, a0, a1, a2⟩ := h6)
            refine (HWR.out _ (F4.out.trans HF7.out fun _ _ h => h)).mono ?_
            rintro e w7 ⟨rfl, f7⟩
            have HF8 := Lib.hid (HF7.out.trans f7 fun _ _ h => h)
            have HO7 := Lib.hid (own_of HO6.out fun k hk => f7.block k (HO6.out.lt k hk).2 id)
            clear f7 a0 a1 a2
            go_wp2
            go_roundw
            case rel => exact ⟨i + 1, ps ++ [⟨padN m, x.kind, x.text, wb⟩], _, _, by go_num, by omega, by rw [HYB.out], rfl, HSN2, Lib.hid (by rw [HXS.out]; exact HO7.out), HF8⟩
            case measure => simp [intOf]; omega
      · obtain rfl : i = n := by omega
        have hsp := HSP.out
        have hwd := SpI.words (by rw [HN.out]; exact hsp) HTL.out HVAL.out
        have hpl := hsp.len
        have hat := hsp.at_
        have hsz := hsp.sz
        obtain ⟨S, hS⟩ : ∃ S, txt [] ps = S := ⟨_, rfl⟩
        rw [hS] at hwd hsz ⊢
        have hxs : (⟨S.toArray⟩ : ByteArray).size = S.length := by rw [← len_data]
        have HW2 : Hid (∀ l c f, wordsB S = (l, c, f) → Calls Tryd.prog 11 #[.string ⟨S.toArray⟩] wr fun e w'' => ∃ v, e = .returned (.tuple #[v, .agg #[.int .i64 (c : Nat), .int .i64 (f : Nat)]]) ∧ LW w'' v l ∧ Fr No wr w'') := Lib.hid fun l c f he => by
          refine (l_words ⟨S.toArray⟩ wr (HLR.out wr (F4.out.trans HF.out fun _ _ h => h)) (by rw [hxs]; unfold maxLen; omega) he).mono ?_
          rintro e w'' ⟨v, h1, h2, h3, _⟩
          exact ⟨v, h1, h2, h3⟩
        obtain ⟨xb, hxb⟩ : ∃ xb : ByteArray, (⟨S.toArray⟩ : ByteArray) = xb := ⟨_, rfl⟩
        rw [hxb] at HW2 hxs ⊢
        have hq := fun (a b c d : Int) (w : World) => eql26 a b c d w
        have hgd := guard26 .eql (.inl rfl)
        have hlt' : ¬ ((i : Int) + 1 < (i : Int) + 1) := by omega
        by_cases hl : 4096 < S.length
        · rw [if_pos hl] at hwd
          have HC1 : Hid (Calls Tryd.prog 11 #[.string xb] wr fun e w'' => ∃ v, e = .returned (.tuple #[v, .agg #[.int .i64 45, .int .i64 0]]) ∧ LW w'' v [] ∧ Fr No wr w'') := Lib.hid (HW2.out _ _ _ hwd)
          have hxl : (4096 : Int) < (xb.size : Int) := by rw [hxs]; omega
          clear hwd HW2 hxs hxb hS hsp hpl hat hsz
          go_wp2_with fail
          refine HC1.out.mono ?_
          rintro e w5 ⟨v, rfl, h5, f5⟩
          obtain ⟨y5, hy5⟩ : ∃ y5, w5.heap.size = y5 := ⟨_, rfl⟩
          obtain ⟨w6, hw6⟩ : ∃ w6, w5.alloc (.cells #[.int .i64 45, .int .i64 0] 26) = w6 := ⟨_, rfl⟩
          have hb6 : Blk w6 y5 26 #[.int .i64 45, .int .i64 0] := by rw [← hw6, ← hy5]; exact Blk.new w5 26 _
          have F6 : Hid (Fr No w w6) := Lib.hid (by rw [← hw6]; exact ((F4.out.trans HF.out fun _ _ h => h).trans f5 fun _ _ h => h).alloc _)
          have HW6 := Lib.hid hw6
          have HY5 := Lib.hid hy5
          have k0 : w6.cell? ⟨y5, 0, none⟩ = some (.int .i64 45) := hb6.cell 0
          have k1 : w6.cell? ⟨y5, 1, none⟩ = some (.int .i64 0) := hb6.cell 1
          clear hb6 hw6 hy5 f5 h5
          go_upto_region 22 with fail
          rw [HW6.out, HY5.out]
          go_wp2
          go_ret
          exact ⟨rfl, F6.out⟩
        · rw [if_neg hl] at hwd
          obtain ⟨ms, hms⟩ : ∃ ms, mkW 0 ps ++ [⟨6, [], S.length⟩] = ms := ⟨_, rfl⟩
          rw [hms] at hwd
          have hml : ms.length = i + 1 := by rw [← hms, List.length_append, mkW_len, hpl]; rfl
          have HC1 : Hid (Calls Tryd.prog 11 #[.string xb] wr fun e w'' => ∃ v, e = .returned (.tuple #[v, .agg #[.int .i64 0, .int .i64 0]]) ∧ LW w'' v ms ∧ Fr No wr w'') := Lib.hid (HW2.out _ _ _ hwd)
          have hxl : ¬ (4096 : Int) < (xb.size : Int) := by rw [hxs]; omega
          have HXS := Lib.hid hxs
          -- what stands at each place
          have HTOK : Hid (∀ j, j < i → ∃ k t q, ws[j]? = some ⟨k, t, q⟩ ∨ True) := Lib.hid fun j hj => ⟨0, [], 0, .inr trivial⟩
          have HM : Hid (∀ j, j < i → ∃ x q, ws[j]? = some x ∧ ms[j]? = some ⟨x.kind, x.text, q⟩ ∧ ((mkW 0 ps).map posV)[j]? = some (.int .i64 (q : Nat))) := Lib.hid fun j hj => by
            have hjp : j < ps.length := by omega
            obtain ⟨x, m, hx, hc⟩ := hat j _ (List.getElem?_eq_getElem hjp)
            obtain ⟨q, hq⟩ := mkW_at ps 0 j _ (List.getElem?_eq_getElem hjp)
            rw [hc] at hq
            refine ⟨x, q, hx, ?_, ?_⟩
            · rw [← hms, List.getElem?_append_left (by rw [mkW_len]; exact hjp), hq]
            · rw [List.getElem?_map, hq]; rfl
          have HEND : Hid (ms[i]? = some ⟨6, [], S.length⟩) := Lib.hid (by
            rw [← hms, List.getElem?_append_right (by rw [mkW_len]; omega), mkW_len, hpl, Nat.sub_self]; rfl)
          have hsl : S.length ≤ 4096 := by omega
          clear hwd HW2 hxs hxb hS hsp hpl hat hsz hms HTOK
          go_wp2_with fail
          refine HC1.out.mono ?_
          rintro e w5 ⟨v, rfl, h5, f5⟩
          obtain ⟨Am, cm, hv, hlm, hAm⟩ := h5
          have hlw5 : LW w5 (.slice Am (i + 1) cm) ms := ⟨Am, cm, by rw [hml], hlm, hAm⟩
          rw [hml] at hv
          subst hv
          obtain ⟨y5, hy5⟩ : ∃ y5, w5.heap.size = y5 := ⟨_, rfl⟩
          obtain ⟨w6, hw6⟩ : ∃ w6, w5.alloc (.cells #[.int .i64 0, .int .i64 0] 26) = w6 := ⟨_, rfl⟩
          have hb6 : Blk w6 y5 26 #[.int .i64 0, .int .i64 0] := by rw [← hw6, ← hy5]; exact Blk.new w5 26 _
          have f56 : Fr No w5 w6 := by rw [← hw6]; exact (Fr.refl No w5).alloc _
          have F46 : Hid (Fr No wr w6) := Lib.hid (f5.trans f56 fun _ _ h => h)
          have F6 : Hid (Fr No w w6) := Lib.hid ((F4.out.trans HF.out fun _ _ h => h).trans F46.out fun _ _ h => h)
          have HLM := Lib.hid (hlw5.keep f56)
          have HLW6 := Lib.hid (HLW.out.keep (HF.out.trans F46.out fun _ _ h => h))
          have HROW6 : Hid (w6.ownsRow y4 3 1 (.slice Ap i cp) i ((mkW 0 ps).map posV)) := Lib.hid (own_of HROW.out fun k hk => F46.out.block k (HROW.out.lt k hk).2 id)
          have HW6 := Lib.hid hw6
          have HY5 := Lib.hid hy5
          have k0 : w6.cell? ⟨y5, 0, none⟩ = some (.int .i64 0) := hb6.cell 0
          clear hb6 hw6 hy5 f5 hAm hlw5 f56 hlm hml
          go_upto_region 22 with fail
          rw [HW6.out, HY5.out]
          go_wp2
          clear k0
          go_loopw [15] (fun jv wz => ∃ j : Nat, jv = .int .i64 (j : Nat) ∧ j ≤ i ∧ ∃ q, wz = w6.drewN q) (fun jv _ => i - (intOf jv).toNat)
          case atStart => exact ⟨0, rfl, Nat.zero_le _, 0, rfl⟩
          case round =>
            obtain ⟨j, rfl, hj, q, hwz⟩ := hrel
            have HWZ := Lib.hid hwz
            clear hwz
            by_cases hji : j < i
            · obtain ⟨x, q0, hx, hm, hp⟩ := HM.out j hji
              obtain ⟨-, gm, rfl, -, b0, b1, b2⟩ := (HLM.out.keep (w' := w6.drewN q) ((Fr.refl No w6).drewN q)).at_ hm
              obtain ⟨-, gl, rfl, -, a0, a1, a2⟩ := (HLW6.out.keep (w' := w6.drewN q) ((Fr.refl No w6).drewN q)).at_ hx
              obtain ⟨gp, rfl, p0⟩ := own1_cell HROW6.out hp hji
              have p0 : (w6.drewN q).cell? ⟨gp, j, none⟩ = some (.int .i64 (q0 : Nat)) := p0
              rw [← HWZ.out] at b0 b1 b2 a0 a1 a2 p0
              generalize ((x.kind : Nat) : Int) = ck at *
              generalize (⟨x.text.toArray⟩ : ByteArray) = ct at *
              generalize ((q0 : Nat) : Int) = cq at *
              have hj0 : (0 : Int) ≤ (j : Int) := by omega
              have hj1 : (j : Int) < (i : Int) := by omega
              clear hx hm hp a2
              go_upto_region 29 with fail
              go_quiet (fail)
              go_wp2
              go_roundw
              case rel => exact ⟨j + 1, by go_num, by omega, _, by rw [HWZ.out, World.drewN_drewN]⟩
              case measure => simp [intOf]; omega
            · obtain rfl : j = i := by omega
              obtain ⟨-, g, rfl, hg, b0, b1, b2⟩ := (HLM.out.keep (w' := w6.drewN q) ((Fr.refl No w6).drewN q)).at_ HEND.out
              rw [← HWZ.out, ← HXS.out] at b2
              rw [← HWZ.out] at b0 b1
              have hq3 := fun (w : World) => eql31 6 (xb.size : Nat) ⟨#[]⟩ w
              have hgd3 := guard31 .eql (.inl rfl)
              have HF9 := Lib.hid (F6.out.drewN q)
              rw [← HWZ.out] at HF9
              have hj0 : (0 : Int) ≤ (j : Int) := by omega
              go_wp2
              go_ret
              exact ⟨rfl, HF9.out⟩
  · have hfl := words_fault (r := s.data.toList) (by rw [hw]; exact hc)
    rw [hw] at hfl
    obtain ⟨_, _, q3⟩ := hfl
    have q3 : ws = [] := q3
    subst q3
    have hc0 : ((c : Int) != 0) = true := by simp; omega
    clear hw
    go_enter Tryd.func5, Tryd.ntmps5
    go_wp2_with fail
    refine HAW.out.mono ?_
    rintro e w1 ⟨rfl, f1⟩
    have F1 := Lib.hid f1
    clear f1
    go_wp2_with fail
    refine (HW.out w1 F1.out).mono ?_
    rintro e w3 ⟨v, rfl, h3, f3⟩
    obtain ⟨A, cc, rfl, _, _⟩ := h3
    obtain ⟨y, hy⟩ : ∃ y, w3.heap.size = y := ⟨_, rfl⟩
    obtain ⟨w4, hw4⟩ : ∃ w4, w3.alloc (.cells #[.int .i64 (c : Nat), .int .i64 (f : Nat)] 26) = w4 := ⟨_, rfl⟩
    have hb4 : Blk w4 y 26 #[.int .i64 (c : Nat), .int .i64 (f : Nat)] := by rw [← hw4, ← hy]; exact Blk.new w3 26 _
    have F4 : Hid (Fr No w w4) := Lib.hid (by rw [← hw4]; exact (F1.out.trans f3 fun _ _ h => h).alloc _)
    have HW4 := Lib.hid hw4
    have HY := Lib.hid hy
    have k0 : w4.cell? ⟨y, 0, none⟩ = some (.int .i64 (c : Nat)) := hb4.cell 0
    clear hb4 hw4 hy f3
    go_upto_region 3 with fail
    rw [HW4.out, HY.out]
    go_wp2
    go_ret
    exact ⟨rfl, F4.out⟩
end Go.Proofs.YtaaleodffghbdaaDoor
