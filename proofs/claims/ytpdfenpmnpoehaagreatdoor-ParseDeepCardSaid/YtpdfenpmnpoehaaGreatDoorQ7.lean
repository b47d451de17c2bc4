/- Reading a query: a value. -/
import Derived.Test.YtpdfenpmnpoehaaGreatDoorQ6
namespace Go.Proofs.YtpdfenpmnpoehaaGreatDoor
open Go.RowKit Go.Maps
set_option linter.unusedVariables false

set_option maxRecDepth 100000 in
set_option maxHeartbeats 4000000 in
theorem val_any {C : Cx} {w : World} {r : List Wd} {b : Bool} (h : Rd C w r b) (he : Ended r) : Calls Tryz.prog 177 #[rp C] w (RdP C w vlR (valW r b)) := by
  have hd := h.lt
  have hg := h.glt
  obtain ⟨y, hy⟩ : ∃ y, w.heap.size = y := ⟨_, rfl⟩
  obtain ⟨w0, hw0⟩ : ∃ w0, w.alloc (.cells #[.bool false, .string ⟨#[]⟩, .int .i64 0] 47) = w0 := ⟨_, rfl⟩
  have f0 : Fr No w w0 := by rw [← hw0]; exact (Fr.refl No w).alloc _
  have hb0 : Blk w0 y 47 #[.bool false, .string ⟨#[]⟩, .int .i64 0] := by rw [← hw0, ← hy]; exact Blk.new w 47 _
  have hyd : y ≠ C.d := by omega
  have h0 := ((St.start h he).no f0).more hb0 (stable_blk hyd)
  have HS0 := Lib.hid h0
  have HD := Lib.hid hd
  have HG := Lib.hid hg
  have HY := Lib.hid hy
  have HW0 := Lib.hid hw0
  have HYL : Hid (w.heap.size ≤ y) := Lib.hid (by omega)
  clear h he hd hg hy hw0 f0 hb0 hyd h0
  unfold rp
  go_enter Tryz.func177, Tryz.ntmps177
  go_upto_region 1 with fail
  rw [HW0.out, HY.out]
  go_wp2_with fail
  refine (of_any 4 w0).mono ?_
  rintro e w1 ⟨⟨mv, rfl, hm⟩, f1⟩
  have HC := Lib.hid (sees_s (HS0.out.no f1) hm)
  unfold rp at HC
  clear hm f1
  go_wp2_with fail
  refine HC.out.mono ?_
  rintro e w2 ⟨rfl, hs, -⟩
  have HS2 := Lib.hid hs
  clear hs HC
  cases h4 : seesW (ofW 4) r with
  | true =>
    have E1 := Lib.hid h4
    clear h4
    go_wp2_with fail
    refine (of_any 4 w2).mono ?_
    rintro e w3 ⟨⟨mv, rfl, hm⟩, f3⟩
    have HC := Lib.hid (need_s (HS2.out.no f3) hm (inner_of (by decide)))
    unfold rp at HC
    clear hm f3
    go_wp2_with fail
    refine HC.out.mono ?_
    clear HC
    rintro e w4 hp
    cases hR : needW (ofW 4) r b with
    | bad c p =>
      rw [hR] at hp
      obtain ⟨rfl, f⟩ := hp
      have HF := Lib.hid f
      have HV : Hid (valW r b = .bad c p) := Lib.hid (by have := E1.out; simp only [valW, this, hR, if_true, PR.map, PR.then])
      clear hR f
      go_wp2_with fail
      exact ⟨rfl, St.bad HV.out HF.out⟩
    | ok x r' b' =>
      rw [hR] at hp
      obtain ⟨⟨v, rfl, rfl, x1, x2, x3⟩, hs, -⟩ := hp
      have HS4 := Lib.hid hs
      have HV : Hid (valW r b = .ok ⟨true, x.text, 0⟩ r' b') := Lib.hid (by have := E1.out; simp only [valW, this, hR, if_true, PR.map, PR.then])
      obtain ⟨-, hb⟩ := hs.j
      have z0 : w4.cell? ⟨y, 0, none⟩ = some (.bool false) := hb.cell 0
      have z1 : w4.cell? ⟨y, 1, none⟩ = some (.string ⟨#[]⟩) := hb.cell 1
      have z2 : w4.cell? ⟨y, 2, none⟩ = some (.int .i64 0) := hb.cell 2
      have y0 := hb.frozen 0
      have y1 := hb.frozen 1
      have y2 := hb.frozen 2
      obtain ⟨xk, xt, xp⟩ := x
      have hfd := fun w => field42 (.int .i64 (xk : Nat)) (sv xt) (.int .i64 (xp : Nat)) w
      clear hR hs hb
      go_wp2
      refine bodyPost_ret (v := .agg #[.bool true, sv xt, .int .i64 0]) (by simp [results, Tryz.results177, go_sem, z0, z1, z2]) rfl ?_
      exact HS4.out.okc (fr_set (fr_set (fr_set (Fr.refl _ w4)))) HYL.out HD.out HG.out HV.out ⟨rfl, x1, show i64 0 by unfold i64; omega⟩
  | false =>
    have E1 := Lib.hid h4
    clear h4
    go_wp2_with fail
    refine (says_any [45] w2).mono ?_
    rintro e w3 ⟨⟨mv, rfl, hm⟩, f3⟩
    have HC := Lib.hid (takes_s (HS2.out.no f3) hm (inner_says _))
    unfold rp at HC
    clear hm f3
    go_wp2_with fail
    refine HC.out.mono ?_
    clear HC
    rintro e w4 ⟨rfl, ht, hf, -⟩
    cases hn : seesW (saysW [45]) r with
    | true =>
      have HS4 := Lib.hid (ht hn)
      have E2 := Lib.hid hn
      clear ht hf hn
      go_wp2_with fail
      refine (of_any 3 w4).mono ?_
      rintro e w5 ⟨⟨mv, rfl, hm⟩, f5⟩
      have HC := Lib.hid (need_s (HS4.out.no f5) hm (inner_of (by decide)))
      unfold rp at HC
      clear hm f5
      go_wp2_with fail
      refine HC.out.mono ?_
      clear HC
      rintro e w6 hp
      cases hR : needW (ofW 3) r.tail b with
      | bad c p =>
        rw [hR] at hp
        obtain ⟨rfl, f⟩ := hp
        have HF := Lib.hid f
        have HV : Hid (valW r b = .bad c p) := Lib.hid (by have q1 := E1.out; have q2 := E2.out; simp only [valW, q1, q2, hR, if_true, if_false, Bool.false_eq_true, PR.then])
        clear hR f
        go_wp2_with fail
        exact ⟨rfl, St.bad HV.out HF.out⟩
      | ok x r' b' =>
        rw [hR] at hp
        obtain ⟨⟨v, rfl, rfl, x1, x2, x3⟩, hs, -⟩ := hp
        have HS6 := Lib.hid hs
        obtain ⟨xk, xt, xp⟩ := x
        simp only at x1 x2 x3
        have HV : Hid (valW r b = match numW ([45] ++ xt) with | some n => .ok ⟨false, [], n⟩ r' b' | none => .bad 45 xp) := Lib.hid (by have q1 := E1.out; have q2 := E2.out; simp only [valW, q1, q2, hR, if_true, if_false, Bool.false_eq_true, PR.then]; rfl)
        -- the word's box
        obtain ⟨z, hz⟩ : ∃ z, w6.heap.size = z := ⟨_, rfl⟩
        obtain ⟨w7, hw7⟩ : ∃ w7, w6.alloc (.cells #[.int .i64 (xk : Nat), sv xt, .int .i64 (xp : Nat)] 42) = w7 := ⟨_, rfl⟩
        have f7 : Fr No w6 w7 := by rw [← hw7]; exact (Fr.refl No w6).alloc _
        have hb7 : Blk w7 z 42 #[.int .i64 (xk : Nat), sv xt, .int .i64 (xp : Nat)] := by rw [← hw7, ← hz]; exact Blk.new w6 42 _
        have hzd : z ≠ C.d := by have := HS6.out.rd.lt; omega
        have hs7 := (HS6.out.no f7).more hb7 (stable_blk hzd)
        have HS7 := Lib.hid hs7
        have c1 : w7.cell? ⟨z, 1, none⟩ = some (sv xt) := hb7.cell 1
        have c2 : w7.cell? ⟨z, 2, none⟩ = some (.int .i64 (xp : Nat)) := hb7.cell 2
        have HP := Lib.hid (pint_any ([45] ++ xt) w7 hs7.rd.pv (by simp; omega))
        have HZ := Lib.hid hz
        have HW7 := Lib.hid hw7
        have hcat : ∀ w0, (Op.stringOp .add ⟨([45] : Tx).toArray⟩ ⟨xt.toArray⟩).run Tryz.prog w0 = .ok (.string ⟨(([45] : Tx) ++ xt).toArray⟩) w0 := fun w0 => run_cat _ xt (by unfold maxLen; simp; omega) w0
        have hcat : ∀ w0, (Op.stringOp .add ⟨#[45]⟩ ⟨xt.toArray⟩).run Tryz.prog w0 = .ok (.string ⟨(([45] : Tx) ++ xt).toArray⟩) w0 := hcat
        generalize hT : ([45] : Tx) ++ xt = T at *
        clear hs hs7 hb7 f7 hw7 hz hzd hR
        go_upto_region 7 with fail
        rw [HW7.out, HZ.out]
        go_wp2_with fail
        refine HP.out.mono ?_
        rintro e w8 ⟨p1, p2, f8⟩
        have HS8 := Lib.hid (HS7.out.no f8)
        obtain ⟨⟨-, hb⟩, hbz⟩ := HS8.out.j
        have d2 : w8.cell? ⟨z, 2, none⟩ = some (.int .i64 (xp : Nat)) := hbz.cell 2
        clear f8 HP c1 c2
        cases hN : numW T with
        | none =>
          obtain ⟨za, aa, ba, rfl⟩ := p2 hN
          have HV2 : Hid (valW r b = .bad 45 xp) := Lib.hid (by rw [HV.out, hN])
          have HGU := Lib.hid (giveUp_any 45 xp w8)
          have hne : ∀ W, (binOp .neq 116 (.iface aa ba) .nilIface).run Tryz.prog W = .ok (.bool true) W := fun W => by simp [go_sem]
          clear p1 p2 hb hbz hN hT
          go_wp2_with fail
          refine HGU.out.mono ?_
          rintro e w9 ⟨rfl, rfl⟩
          go_wp2_with fail
          exact ⟨rfl, St.bad HV2.out HS8.out.fr⟩
        | some n =>
          obtain rfl := p1 n hN
          have HV2 : Hid (valW r b = .ok ⟨false, [], n⟩ r' b') := Lib.hid (by rw [HV.out, hN])
          have HI : Hid (i64 n) := Lib.hid (numW_bd hN)
          have z0 : w8.cell? ⟨y, 0, none⟩ = some (.bool false) := hb.cell 0
          have z1 : w8.cell? ⟨y, 1, none⟩ = some (.string ⟨#[]⟩) := hb.cell 1
          have z2 : w8.cell? ⟨y, 2, none⟩ = some (.int .i64 0) := hb.cell 2
          have y0 := hb.frozen 0
          have y1 := hb.frozen 1
          have y2 := hb.frozen 2
          clear p1 p2 hb hbz hN hT d2
          go_wp2
          refine bodyPost_ret (v := .agg #[.bool false, sv [], .int .i64 n]) (by simp [results, Tryz.results177, go_sem, z0, z1, z2]) rfl ?_
          exact HS8.out.okc (fr_set (fr_set (fr_set (Fr.refl _ w8)))) HYL.out HD.out HG.out HV2.out ⟨rfl, by simp, HI.out⟩
    | false =>
      have HS4 := Lib.hid (hf hn)
      have E2 := Lib.hid hn
      clear ht hf hn
      go_wp2_with fail
      refine (of_any 3 w4).mono ?_
      rintro e w5 ⟨⟨mv, rfl, hm⟩, f5⟩
      have HC := Lib.hid (need_s (HS4.out.no f5) hm (inner_of (by decide)))
      unfold rp at HC
      clear hm f5
      go_wp2_with fail
      refine HC.out.mono ?_
      clear HC
      rintro e w6 hp
      cases hR : needW (ofW 3) r b with
      | bad c p =>
        rw [hR] at hp
        obtain ⟨rfl, f⟩ := hp
        have HF := Lib.hid f
        have HV : Hid (valW r b = .bad c p) := Lib.hid (by have q1 := E1.out; have q2 := E2.out; simp only [valW, q1, q2, hR, if_false, Bool.false_eq_true, PR.then])
        clear hR f
        go_wp2_with fail
        exact ⟨rfl, St.bad HV.out HF.out⟩
      | ok x r' b' =>
        rw [hR] at hp
        obtain ⟨⟨v, rfl, rfl, x1, x2, x3⟩, hs, -⟩ := hp
        have HS6 := Lib.hid hs
        obtain ⟨xk, xt, xp⟩ := x
        simp only at x1 x2 x3
        have HV : Hid (valW r b = match numW (([] : Tx) ++ xt) with | some n => .ok ⟨false, [], n⟩ r' b' | none => .bad 45 xp) := Lib.hid (by have q1 := E1.out; have q2 := E2.out; simp only [valW, q1, q2, hR, if_false, Bool.false_eq_true, PR.then]; rfl)
        -- the word's box
        obtain ⟨z, hz⟩ : ∃ z, w6.heap.size = z := ⟨_, rfl⟩
        obtain ⟨w7, hw7⟩ : ∃ w7, w6.alloc (.cells #[.int .i64 (xk : Nat), sv xt, .int .i64 (xp : Nat)] 42) = w7 := ⟨_, rfl⟩
        have f7 : Fr No w6 w7 := by rw [← hw7]; exact (Fr.refl No w6).alloc _
        have hb7 : Blk w7 z 42 #[.int .i64 (xk : Nat), sv xt, .int .i64 (xp : Nat)] := by rw [← hw7, ← hz]; exact Blk.new w6 42 _
        have hzd : z ≠ C.d := by have := HS6.out.rd.lt; omega
        have hs7 := (HS6.out.no f7).more hb7 (stable_blk hzd)
        have HS7 := Lib.hid hs7
        have c1 : w7.cell? ⟨z, 1, none⟩ = some (sv xt) := hb7.cell 1
        have c2 : w7.cell? ⟨z, 2, none⟩ = some (.int .i64 (xp : Nat)) := hb7.cell 2
        have HP := Lib.hid (pint_any (([] : Tx) ++ xt) w7 hs7.rd.pv (by simp; omega))
        have HZ := Lib.hid hz
        have HW7 := Lib.hid hw7
        have hcat : ∀ w0, (Op.stringOp .add ⟨(([] : Tx) : Tx).toArray⟩ ⟨xt.toArray⟩).run Tryz.prog w0 = .ok (.string ⟨((([] : Tx) : Tx) ++ xt).toArray⟩) w0 := fun w0 => run_cat _ xt (by unfold maxLen; simp; omega) w0
        have hcat : ∀ w0, (Op.stringOp .add ⟨#[]⟩ ⟨xt.toArray⟩).run Tryz.prog w0 = .ok (.string ⟨((([] : Tx) : Tx) ++ xt).toArray⟩) w0 := hcat
        generalize hT : (([] : Tx) : Tx) ++ xt = T at *
        clear hs hs7 hb7 f7 hw7 hz hzd hR
        go_upto_region 7 with fail
        rw [HW7.out, HZ.out]
        go_wp2_with fail
        refine HP.out.mono ?_
        rintro e w8 ⟨p1, p2, f8⟩
        have HS8 := Lib.hid (HS7.out.no f8)
        obtain ⟨⟨-, hb⟩, hbz⟩ := HS8.out.j
        have d2 : w8.cell? ⟨z, 2, none⟩ = some (.int .i64 (xp : Nat)) := hbz.cell 2
        clear f8 HP c1 c2
        cases hN : numW T with
        | none =>
          obtain ⟨za, aa, ba, rfl⟩ := p2 hN
          have HV2 : Hid (valW r b = .bad 45 xp) := Lib.hid (by rw [HV.out, hN])
          have HGU := Lib.hid (giveUp_any 45 xp w8)
          have hne : ∀ W, (binOp .neq 116 (.iface aa ba) .nilIface).run Tryz.prog W = .ok (.bool true) W := fun W => by simp [go_sem]
          clear p1 p2 hb hbz hN hT
          go_wp2_with fail
          refine HGU.out.mono ?_
          rintro e w9 ⟨rfl, rfl⟩
          go_wp2_with fail
          exact ⟨rfl, St.bad HV2.out HS8.out.fr⟩
        | some n =>
          obtain rfl := p1 n hN
          have HV2 : Hid (valW r b = .ok ⟨false, [], n⟩ r' b') := Lib.hid (by rw [HV.out, hN])
          have HI : Hid (i64 n) := Lib.hid (numW_bd hN)
          have z0 : w8.cell? ⟨y, 0, none⟩ = some (.bool false) := hb.cell 0
          have z1 : w8.cell? ⟨y, 1, none⟩ = some (.string ⟨#[]⟩) := hb.cell 1
          have z2 : w8.cell? ⟨y, 2, none⟩ = some (.int .i64 0) := hb.cell 2
          have y0 := hb.frozen 0
          have y1 := hb.frozen 1
          have y2 := hb.frozen 2
          clear p1 p2 hb hbz hN hT d2
          go_wp2
          refine bodyPost_ret (v := .agg #[.bool false, sv [], .int .i64 n]) (by simp [results, Tryz.results177, go_sem, z0, z1, z2]) rfl ?_
          exact HS8.out.okc (fr_set (fr_set (fr_set (Fr.refl _ w8)))) HYL.out HD.out HG.out HV2.out ⟨rfl, by simp, HI.out⟩
end Go.Proofs.YtpdfenpmnpoehaaGreatDoor
