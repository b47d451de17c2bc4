/- Two things that are the same. -/
import Derived.Test.YtjhjcdfhfjeogaaH2
import Derived.Laws.StructEq
namespace Go.Proofs.Ytjhjcdfhfjeogaa
open Go.RowKit Go.Maps Go.Sort
set_option linter.unusedVariables false

theorem neq93 (a b : Int) (s : List UInt8) (w : World) : (binOp .neq 93 (.agg #[.int .i64 a, .int .i64 b, sv s]) (.agg #[.int .i64 a, .int .i64 b, sv s])).run Try.prog w = .ok (.bool false) w := by
  have hS : Try.prog.underlying 93 = some (.struct (Try.prog.fieldsOf 93)) := by kernel_rfl
  have hp : Try.prog.stoodInHeld 93 = false := by kernel_rfl
  rw [run_neq_struct, show (10000 : Nat) = 9999 + 1 from rfl, run_equalIn_agg w 9999 93 _ _ hS hp]
  simp only [Program.fieldsOf, Try.underlying93]
  simp [Op.eqFields, go_sem]

/-- The cells of element j of a row, in any world that has its block. -/
theorem RowE.at_ {α : Type} {K : Nat → Prop} {w : World} {size : Nat} {E : α → List Value → Prop} {A : Option Addr} {n c : Nat} {l : List α} (hn : l.length = n) (h : RowE K w size E (.slice A n c) l) (j : Nat) (hj : j < l.length) :
    ∃ g off cs, A = some ⟨g, off, none⟩ ∧ K g ∧ E l[j] cs ∧ cs.length = size ∧ ∀ w' : World, w'.heap[g]? = w.heap[g]? → ∀ i, i < size → w'.cell? ⟨g, off + j * size + i, none⟩ = cs[i]? := by
  obtain ⟨A', c', e, hm, hel⟩ := h
  injection e with e1 e2 e3
  subst e1
  obtain ⟨g, off, rfl, hg, hcell⟩ := hel (by omega)
  obtain ⟨cs, hl, hc, hE⟩ := hcell j hj
  exact ⟨g, off, cs, rfl, hg, hE, hl, fun w' hw i hi => (cell_of_heap hw).trans (hc i hi)⟩
theorem RowE.len_ {α : Type} {K : Nat → Prop} {w : World} {size : Nat} {E : α → List Value → Prop} {v : Value} {l : List α} (h : RowE K w size E v l) : ∃ A c, v = .slice A l.length c ∧ l.length ≤ maxLen := by
  obtain ⟨A, c, e, hm, _⟩ := h
  exact ⟨A, c, e, hm⟩

set_option maxRecDepth 100000 in
set_option maxHeartbeats 4000000 in
theorem dsame_any (t : ThingP) (lv cv fv mv lv' cv' fv' mv' : Value) (w : World) (h1 : ThingAt (fun k => k < w.heap.size) w t lv cv fv mv) (h2 : ThingAt (fun k => k < w.heap.size) w t lv' cv' fv' mv')
    (hb : ∀ f ∈ t.facts, (bFact f).length ≤ 1152921504606846976) :
    Calls Try.prog 26 #[.agg (tcells t lv cv fv mv).toArray, .agg (tcells t lv' cv' fv' mv').toArray] w fun e w' => e = .returned (.bool true) ∧ Below w.heap.size w w' := by
  obtain ⟨k, n, s, l, cl, fl, ml⟩ := t
  obtain ⟨A1, c1, rfl, m1⟩ := h1.l.len_
  obtain ⟨A2, c2, rfl, m2⟩ := h1.c.len_
  obtain ⟨A3, c3, rfl, m3⟩ := h1.f.len_
  obtain ⟨A4, c4, rfl, m4⟩ := h1.m.len_
  obtain ⟨B1, d1, rfl, _⟩ := h2.l.len_
  obtain ⟨B2, d2, rfl, _⟩ := h2.c.len_
  obtain ⟨B3, d3, rfl, _⟩ := h2.f.len_
  obtain ⟨B4, d4, rfl, _⟩ := h2.m.len_
  unfold maxLen at m1 m2 m3 m4
  simp only [tcells] at m1 m2 m3 m4 ⊢
  obtain ⟨n1, e1⟩ : ∃ n1, l.length = n1 := ⟨_, rfl⟩
  obtain ⟨n2, e2⟩ : ∃ n2, cl.length = n2 := ⟨_, rfl⟩
  obtain ⟨n3, e3⟩ : ∃ n3, fl.length = n3 := ⟨_, rfl⟩
  obtain ⟨n4, e4⟩ : ∃ n4, ml.length = n4 := ⟨_, rfl⟩
  have R1 := h1.l
  have R2 := h1.c
  have R3 := h1.f
  have R4 := h1.m
  have S1 := h2.l
  have S2 := h2.c
  have S3 := h2.f
  have S4 := h2.m
  simp only at R1 R2 R3 R4 S1 S2 S3 S4
  rw [e1] at m1 R1 S1
  rw [e2] at m2 R2 S2
  rw [e3] at m3 R3 S3
  rw [e4] at m4 R4 S4
  simp only [e1, e2, e3, e4]
  obtain ⟨wx, hwx⟩ : ∃ wx, w.alloc (.cells #[.int .i64 k, .int .i64 n, sv s, .slice A1 n1 c1, .slice A2 n2 c2, .slice A3 n3 c3, .slice A4 n4 c4] 58) = wx := ⟨_, rfl⟩
  obtain ⟨wy, hwy⟩ : ∃ wy, wx.alloc (.cells #[.int .i64 k, .int .i64 n, sv s, .slice B1 n1 d1, .slice B2 n2 d2, .slice B3 n3 d3, .slice B4 n4 d4] 58) = wy := ⟨_, rfl⟩
  obtain ⟨ga, hga⟩ : ∃ ga, w.heap.size = ga := ⟨_, rfl⟩
  obtain ⟨gb, hgb⟩ : ∃ gb, wx.heap.size = gb := ⟨_, rfl⟩
  have bx : Blk wx ga 58 #[.int .i64 k, .int .i64 n, sv s, .slice A1 n1 c1, .slice A2 n2 c2, .slice A3 n3 c3, .slice A4 n4 c4] := by rw [← hwx, ← hga]; exact Blk.new w 58 _
  have by_ : Blk wy gb 58 #[.int .i64 k, .int .i64 n, sv s, .slice B1 n1 d1, .slice B2 n2 d2, .slice B3 n3 d3, .slice B4 n4 d4] := by rw [← hwy, ← hgb]; exact Blk.new wx 58 _
  have fx : Fr No w wx := by rw [← hwx]; exact (Fr.refl _ w).alloc _
  have fy : Fr No wx wy := by rw [← hwy]; exact (Fr.refl _ wx).alloc _
  have fw := fx.then fy
  have bxy := bx.of (fy.block ga bx.lt id)
  have HS1 : Hid (RowE (fun k => k < wy.heap.size) wy 1 strE (.slice A1 n1 c1) l) := Lib.hid ((R1.of (fun k hk => fw.block k hk id) fun _ _ h => h).up fw.size)
  have HS2 : Hid (RowE (fun k => k < wy.heap.size) wy 1 strE (.slice B1 n1 d1) l) := Lib.hid ((S1.of (fun k hk => fw.block k hk id) fun _ _ h => h).up fw.size)
  have HS3 : Hid (RowE (fun k => k < wy.heap.size) wy 1 strE (.slice A4 n4 c4) ml) := Lib.hid ((R4.of (fun k hk => fw.block k hk id) fun _ _ h => h).up fw.size)
  have HS4 : Hid (RowE (fun k => k < wy.heap.size) wy 1 strE (.slice B4 n4 d4) ml) := Lib.hid ((S4.of (fun k hk => fw.block k hk id) fun _ _ h => h).up fw.size)
  have HR2 := Lib.hid R2
  have HR3 := Lib.hid R3
  have HT2 := Lib.hid S2
  have HT3 := Lib.hid S3
  have HFW := Lib.hid fw
  have HX := Lib.hid bxy
  have HY := Lib.hid by_
  have HWX := Lib.hid hwx
  have HWY := Lib.hid hwy
  have HGA := Lib.hid hga
  have HGB : Hid (ga + 1 = gb) := Lib.hid (by rw [← hgb, ← hwx, ← hga]; simp)
  have E2 := Lib.hid e2
  have E3 := Lib.hid e3
  have HBF := Lib.hid hb
  clear h1 h2 R1 R2 R3 R4 S1 S2 S3 S4 hwx hwy hga hgb bx by_ bxy fx fy fw e1 e2 e3 e4 hb
  go_enter Try.func26, Try.ntmps26
  have x3 : wy.cell? ⟨ga, 3, none⟩ = some (.slice A1 n1 c1) := HX.out.cell 3
  have y3 : wy.cell? ⟨gb, 3, none⟩ = some (.slice B1 n1 d1) := HY.out.cell 3
  go_wp2_with fail
  rw [HWX.out, HWY.out, HGA.out, HGB.out]
  refine (dsame_texts _ _ l wy HS1.out HS2.out).mono ?_
  rintro e w3 ⟨rfl, f3⟩
  have hx3 := HX.out.of (f3.block ga HX.out.lt id)
  have hy3 := HY.out.of (f3.block gb HY.out.lt id)
  have x6 : w3.cell? ⟨ga, 6, none⟩ = some (.slice A4 n4 c4) := hx3.cell 6
  have y6 : w3.cell? ⟨gb, 6, none⟩ = some (.slice B4 n4 d4) := hy3.cell 6
  have F3 := Lib.hid f3
  have X3 := Lib.hid hx3
  have Y3 := Lib.hid hy3
  clear f3 hx3 hy3 x3 y3
  go_wp2_with fail
  refine (dsame_texts _ _ ml w3 ((HS3.out.of (fun k hk => F3.out.block k hk id) fun _ _ h => h).up F3.out.size) ((HS4.out.of (fun k hk => F3.out.block k hk id) fun _ _ h => h).up F3.out.size)).mono ?_
  rintro e w4 ⟨rfl, f4⟩
  have hx4 := X3.out.of (f4.block ga X3.out.lt id)
  have hy4 := Y3.out.of (f4.block gb Y3.out.lt id)
  have F4 : Hid (Fr No w w4) := Lib.hid ((HFW.out.then F3.out).then f4)
  have p0 : w4.cell? ⟨ga, 0, none⟩ = some (.int .i64 k) := hx4.cell 0
  have p1 : w4.cell? ⟨ga, 1, none⟩ = some (.int .i64 n) := hx4.cell 1
  have p2 : w4.cell? ⟨ga, 2, none⟩ = some (sv s) := hx4.cell 2
  have p4 : w4.cell? ⟨ga, 4, none⟩ = some (.slice A2 n2 c2) := hx4.cell 4
  have p5 : w4.cell? ⟨ga, 5, none⟩ = some (.slice A3 n3 c3) := hx4.cell 5
  have q0 : w4.cell? ⟨gb, 0, none⟩ = some (.int .i64 k) := hy4.cell 0
  have q1 : w4.cell? ⟨gb, 1, none⟩ = some (.int .i64 n) := hy4.cell 1
  have q2 : w4.cell? ⟨gb, 2, none⟩ = some (sv s) := hy4.cell 2
  have q4 : w4.cell? ⟨gb, 4, none⟩ = some (.slice B2 n2 d2) := hy4.cell 4
  have q5 : w4.cell? ⟨gb, 5, none⟩ = some (.slice B3 n3 d3) := hy4.cell 5
  have X4 := Lib.hid hx4
  have Y4 := Lib.hid hy4
  clear f4 hx4 hy4 x6 y6 X3 Y3 F3
  go_wp2
  clear p0 p1 p2 p4 p5 q0 q1 q2 q4 q5
  go_loopw [7] (fun i wr => ∃ j : Nat, j ≤ n2 ∧ i = .int .i64 j ∧ Fr No w4 wr) (fun i _ => n2 - (intOf i).toNat)
  case atStart => exact ⟨0, by omega, rfl, Fr.refl _ _⟩
  case round =>
    obtain ⟨j, hj, rfl, hf⟩ := hrel
    have HF := Lib.hid hf
    have hx := X4.out.of (hf.block ga X4.out.lt id)
    have hy := Y4.out.of (hf.block gb Y4.out.lt id)
    have p4 : wr.cell? ⟨ga, 4, none⟩ = some (.slice A2 n2 c2) := hx.cell 4
    have q4 : wr.cell? ⟨gb, 4, none⟩ = some (.slice B2 n2 d2) := hy.cell 4
    by_cases hlt : j < n2
    · have hjl : j < cl.length := by rw [E2.out]; exact hlt
      obtain ⟨g, off, cs, rfl, hg, ⟨rfl, _⟩, _, hc⟩ := RowE.at_ E2.out HR2.out j hjl
      obtain ⟨g', off', cs', rfl, hg', ⟨rfl, _⟩, _, hc'⟩ := RowE.at_ E2.out HT2.out j hjl
      have hgw := (F4.out.then HF.out).block g hg id
      have hgw' := (F4.out.then HF.out).block g' hg' id
      have a0 : wr.cell? ⟨g, off + j * 3, none⟩ = some (.int .i64 cl[j].kind) := by simpa using hc wr hgw 0 (by omega)
      have a1 : wr.cell? ⟨g, off + j * 3 + 1, none⟩ = some (.int .i64 cl[j].int) := by simpa using hc wr hgw 1 (by omega)
      have a2 : wr.cell? ⟨g, off + j * 3 + 2, none⟩ = some (sv cl[j].text) := by simpa using hc wr hgw 2 (by omega)
      have b0 : wr.cell? ⟨g', off' + j * 3, none⟩ = some (.int .i64 cl[j].kind) := by simpa using hc' wr hgw' 0 (by omega)
      have b1 : wr.cell? ⟨g', off' + j * 3 + 1, none⟩ = some (.int .i64 cl[j].int) := by simpa using hc' wr hgw' 1 (by omega)
      have b2 : wr.cell? ⟨g', off' + j * 3 + 2, none⟩ = some (sv cl[j].text) := by simpa using hc' wr hgw' 2 (by omega)
      have hq := fun (w : World) => neq93 cl[j].kind cl[j].int cl[j].text w
      have hgd : ∀ x y xs ys (w : World), (eqGuard .neq 93 x y (.agg xs) (.agg ys)).run Try.prog w = .ok () w := fun x y xs ys w => run_eqGuard_agg w .neq 93 x y xs ys (by kernel_rfl)
      have hi0 : (0 : Int) ≤ (j : Int) := by omega
      have hi1 : (j : Int) < (n2 : Int) := by omega
      generalize cl[j].kind = ck at *
      generalize cl[j].int = ci at *
      generalize cl[j].text = ct at *
      clear hf hx hy hgw hgw' hc hc'
      go_wp2_with fail
      go_quiet (fail)
      have hfq := HF.out.drewN nq
      go_wp2
      go_roundw
      case rel => exact ⟨j + 1, by omega, by go_num, hfq⟩
      case measure => simp [intOf]; omega
    · obtain rfl : j = n2 := by omega
      clear hf hx hy
      have B5 := Lib.hid HF.out.below
      clear HF
      go_wp2
      clear p4 q4
      go_loopw [8] (fun i wz => ∃ q : Nat, q ≤ n3 ∧ i = .int .i64 q ∧ Below w4.heap.size w4 wz) (fun i _ => n3 - (intOf i).toNat)
      case atStart => exact ⟨0, by omega, rfl, B5.out⟩
      case round =>
        obtain ⟨q, hq, rfl, hb⟩ := hrel
        have HB := Lib.hid hb
        obtain ⟨wz, hwz⟩ : ∃ wz, wz = wr := ⟨_, rfl⟩
        have hx := X4.out.of (hb.block ga X4.out.lt)
        have hy := Y4.out.of (hb.block gb Y4.out.lt)
        clear hwz wz
        by_cases hlq : q < n3
        · have hql : q < fl.length := by rw [E3.out]; exact hlq
          obtain ⟨g, off, cs, rfl, hg, ⟨dv, mv, rfl, rd, rm⟩, _, hc⟩ := RowE.at_ E3.out HR3.out q hql
          obtain ⟨g', off', cs', rfl, hg', ⟨dv', mv', rfl, rd', rm'⟩, _, hc'⟩ := RowE.at_ E3.out HT3.out q hql
          have hsame : ∀ k, k < w.heap.size → wr.heap[k]? = w.heap[k]? := fun k hk => (hb.block k (Nat.lt_of_lt_of_le hk F4.out.size)).trans (F4.out.block k hk id)
          have hsz : w.heap.size ≤ wr.heap.size := Nat.le_trans F4.out.size hb.size
          obtain ⟨U1, u1, v1, rfl⟩ := rd.slice
          obtain ⟨U2, u2, v2, rfl⟩ := rm.slice
          obtain ⟨U3, u3, v3, rfl⟩ := rd'.slice
          obtain ⟨U4, u4, v4, rfl⟩ := rm'.slice
          have a0 : wr.cell? ⟨g, off + q * 2, none⟩ = some (.slice U1 u1 v1) := by simpa using hc wr (hsame g hg) 0 (by omega)
          have a1 : wr.cell? ⟨g, off + q * 2 + 1, none⟩ = some (.slice U2 u2 v2) := by simpa using hc wr (hsame g hg) 1 (by omega)
          have b0 : wr.cell? ⟨g', off' + q * 2, none⟩ = some (.slice U3 u3 v3) := by simpa using hc' wr (hsame g' hg') 0 (by omega)
          have b1 : wr.cell? ⟨g', off' + q * 2 + 1, none⟩ = some (.slice U4 u4 v4) := by simpa using hc' wr (hsame g' hg') 1 (by omega)
          have K1 : Hid (∀ dd os, Calls Try.prog 57 #[.agg #[.slice U1 u1 v1, .slice U2 u2 v2]] (grow (redrawn wr dd) os) fun e w'' => e = .returned (sv (bFact fl[q])) ∧ ∃ p : Regrown, w'' = grow (redrawn wr p.d) p.os) := Lib.hid fun dd os => Calls.regrown_of (dfact_any _ _ fl[q] _ (((rd.of hsame fun _ _ h => h).regrown hsz dd os).up (Nat.le_trans hsz (below_regrown wr dd os).size)) (((rm.of hsame fun _ _ h => h).regrown hsz dd os).up (Nat.le_trans hsz (below_regrown wr dd os).size)) (HBF.out _ (List.getElem_mem hql)))
          have K2 : Hid (∀ dd os, Calls Try.prog 57 #[.agg #[.slice U3 u3 v3, .slice U4 u4 v4]] (grow (redrawn wr dd) os) fun e w'' => e = .returned (sv (bFact fl[q])) ∧ ∃ p : Regrown, w'' = grow (redrawn wr p.d) p.os) := Lib.hid fun dd os => Calls.regrown_of (dfact_any _ _ fl[q] _ (((rd'.of hsame fun _ _ h => h).regrown hsz dd os).up (Nat.le_trans hsz (below_regrown wr dd os).size)) (((rm'.of hsame fun _ _ h => h).regrown hsz dd os).up (Nat.le_trans hsz (below_regrown wr dd os).size)) (HBF.out _ (List.getElem_mem hql)))
          generalize bFact fl[q] = T at *
          have x5 : wr.cell? ⟨ga, 5, none⟩ = some (.slice (some ⟨g, off, none⟩) n3 c3) := hx.cell 5
          have i0 : (0 : Int) ≤ (q : Int) := by omega
          have i1 : (q : Int) < (n3 : Int) := by omega
          have z5 : ∀ dd os, (grow (redrawn wr dd) os).cell? ⟨ga, 5, none⟩ = some (.slice (some ⟨g, off, none⟩) n3 c3) := fun dd os => cell_regrown (hx.cell 5) dd os
          have z6 : ∀ dd os, (grow (redrawn wr dd) os).cell? ⟨gb, 5, none⟩ = some (.slice (some ⟨g', off', none⟩) n3 d3) := fun dd os => cell_regrown (hy.cell 5) dd os
          have r0 : ∀ dd os, (grow (redrawn wr dd) os).cell? ⟨g, off + q * 2, none⟩ = some (.slice U1 u1 v1) := fun dd os => cell_regrown a0 dd os
          have r1 : ∀ dd os, (grow (redrawn wr dd) os).cell? ⟨g, off + q * 2 + 1, none⟩ = some (.slice U2 u2 v2) := fun dd os => cell_regrown a1 dd os
          have s0 : ∀ dd os, (grow (redrawn wr dd) os).cell? ⟨g', off' + q * 2, none⟩ = some (.slice U3 u3 v3) := fun dd os => cell_regrown b0 dd os
          have s1 : ∀ dd os, (grow (redrawn wr dd) os).cell? ⟨g', off' + q * 2 + 1, none⟩ = some (.slice U4 u4 v4) := fun dd os => cell_regrown b1 dd os
          clear hb hx hy hc hc' hsame hsz a0 a1 b0 b1 rd rm rd' rm'
          go_wp2_with fail
          go_upto_region 14 with fail
          go_cut [101] (fun bv wx => bv = .bool false ∧ Below wr.heap.size wr wx)
          case first =>
            refine wp_region_quiet_below mixed (by kernel_rfl) ?_
            repeat (first | go_big_quiet_step (first | (with_reducible exact K1.out _ _) | (with_reducible exact K2.out _ _)) | quiet_step (first | (with_reducible exact K1.out _ _) | (with_reducible exact K2.out _ _)))
            refine wpQuiet_nil ?_
            intro wx hp
            have hbw : Below wr.heap.size wr wx := by obtain ⟨p, rfl⟩ := hp; exact below_regrown _ _ _
            go_wp2_with fail
            go_meet
            exact ⟨rfl, hbw⟩
          case rest =>
            obtain ⟨rfl, hbw⟩ := hcut
            have BW := Lib.hid (HB.out.trans (hbw.mono HB.out.size))
            clear hbw
            go_wp2
            refine ⟨⟨q + 1, by omega, by go_num, BW.out⟩, by simp [intOf]; omega⟩
        · obtain rfl : q = n3 := by omega
          have x5 : wr.cell? ⟨ga, 5, none⟩ = some (.slice A3 q c3) := hx.cell 5
          clear hb hx hy
          go_wp2
          go_ret
          exact ⟨rfl, F4.out.below.trans (HB.out.mono F4.out.size)⟩
end Go.Proofs.Ytjhjcdfhfjeogaa
