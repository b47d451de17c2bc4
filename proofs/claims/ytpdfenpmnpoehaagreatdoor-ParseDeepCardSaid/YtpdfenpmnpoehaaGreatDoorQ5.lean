/- Reading a query: needing a word, a name, words one behind the other. -/
import Derived.Test.YtpdfenpmnpoehaaGreatDoorQ4
namespace Go.Proofs.YtpdfenpmnpoehaaGreatDoor
open Go.RowKit Go.Maps
set_option linter.unusedVariables false
attribute [local go_sem ↓] Go.wp_at_zero Go.wp_at_succ

theorem needW_cons {m : Wd → Bool} {x : Wd} {r : List Wd} {b : Bool} : needW m (x :: r) b = if m x then .ok x r b else .bad 41 x.pos := rfl
theorem elem38 : Tryz.prog.elem 38 = 42 := by kernel_rfl
theorem idx38 (g n c a : Nat) (h : a < n) (w : World) : (Instr.indexAt 38 (.slice (some ⟨g, 0, none⟩) n c) (.int .i64 (a : Nat))).run Tryz.prog w = .ok (.pointer (some ⟨g, a * 3, none⟩)) w := by
  rw [run_indexAt_slice w 38 ⟨g, 0, none⟩ n c .i64 (a : Nat) (by rw [elem38]; exact Tryz.underlying38), if_pos (by omega), elem38]
  rw [Tryz.sizeOf42]
  simp [Result.andThen, Addr.add_lit]
set_option maxRecDepth 100000 in
set_option maxHeartbeats 4000000 in
theorem need_any {C : Cx} {w : World} {x : Wd} {r : List Wd} {b : Bool} {mv : Value} {m : Wd → Bool} (h : Rd C w (x :: r) b) (hm : Mt w mv m) : Calls Tryz.prog 67 #[rp C, mv] w (RdP C w wdR (needW m (x :: r) b)) := by
  rw [needW_cons]
  obtain ⟨h1, h2, h3, h4, h5, h6, h7⟩ := h.at
  obtain ⟨k0, k1, k2⟩ := h.cells _ _ h1
  have hl := h.len
  have hb := h.blk
  have HR := Lib.hid h
  have hsz := h.lt
  generalize C.ws.length - (x :: r).length = a at *
  unfold Cx.val at hb
  obtain ⟨d, g, c, ws⟩ := C
  unfold rp
  simp only at *
  obtain ⟨xk, xt, xp⟩ := x
  simp only at k0 k1 k2 h5 h6 h7
  -- the result's cell
  obtain ⟨y, hy⟩ : ∃ y, w.heap.size = y := ⟨_, rfl⟩
  obtain ⟨w1, hw1⟩ : ∃ w1, w.alloc (.cells #[.int .i64 0, .string ⟨#[]⟩, .int .i64 0] 42) = w1 := ⟨_, rfl⟩
  have f1 : Fr No w w1 := by rw [← hw1]; exact (Fr.refl No w).alloc _
  have hb1 : Blk w1 y 42 #[.int .i64 0, .string ⟨#[]⟩, .int .i64 0] := by rw [← hw1, ← hy]; exact Blk.new w 42 _
  have hz1 : w1.heap.size = y + 1 := by rw [← hw1, ← hy]; simp
  have hdlt : d < w.heap.size := hsz
  have hglt : g < w.heap.size := cell_lt k0
  have z0 : w1.cell? ⟨d, 0, none⟩ = some (.slice (some ⟨g, 0, none⟩) ws.length c) := by rw [cell_of_heap (f1.block d hdlt id)]; exact hb.cell 0
  have z1 : w1.cell? ⟨d, 1, none⟩ = some (.int .i64 (a : Nat)) := by rw [cell_of_heap (f1.block d hdlt id)]; exact hb.cell 1
  have y0 : w1.cell? ⟨g, a * 3, none⟩ = some (.int .i64 (xk : Nat)) := by rw [cell_of_heap (f1.block g hglt id)]; exact k0
  have y1 : w1.cell? ⟨g, a * 3 + 1, none⟩ = some (sv xt) := by rw [cell_of_heap (f1.block g hglt id)]; exact k1
  have y2 : w1.cell? ⟨g, a * 3 + 2, none⟩ = some (.int .i64 (xp : Nat)) := by rw [cell_of_heap (f1.block g hglt id)]; exact k2
  have al : ∀ (o : Obj) (k i : Nat) (v : Value), w1.cell? ⟨k, i, none⟩ = some v → (w1.alloc o).cell? ⟨k, i, none⟩ = some v := fun o k i v hv => by
    rw [cell_of_heap (Below.heap_alloc w1 o k (cell_lt hv))]; exact hv
  have z0' := fun o => al o _ _ _ z0
  have z1' := fun o => al o _ _ _ z1
  have y0' := fun o => al o _ _ _ y0
  have y1' := fun o => al o _ _ _ y1
  have y2' := fun o => al o _ _ _ y2
  clear al
  have F1 := Lib.hid f1
  have HW1 := Lib.hid hw1
  have HY := Lib.hid hy
  have HZ1 := Lib.hid hz1
  have HB1 := Lib.hid hb1
  have HM := Lib.hid hm
  have HD : Hid (d < y) := Lib.hid (by omega)
  obtain ⟨n, hn⟩ : ∃ n, ws.length = n := ⟨_, rfl⟩
  rw [hn] at z0 h2 hl
  simp only [hn] at z0'
  clear hb k0 k1 k2 h f1 hw1 hz1 hb1 hm hy h1 h3 h4 hn hsz
  go_enter Tryz.func67, Tryz.ntmps67
  go_upto_region 1 with fail
  rw [HW1.out, HY.out]
  go_cut [5] (fun yv wx => yv = .pointer (some ⟨y + 1, 0, none⟩) ∧ Fr No w1 wx ∧ Blk wx (y + 1) 42 #[.int .i64 (xk : Nat), sv xt, .int .i64 (xp : Nat)])
  case first =>
    have hz1 := HZ1.out
    have hlt : (a : Int) < (n : Int) := by omega
    have ha0 : (0 : Int) ≤ (a : Int) := by omega
    have hnb : (n : Int) ≤ 1000000000 := by omega
    have hz1 := HZ1.out
    have hix := fun w => idx38 g n c a (by omega) w
    go_region_with (fail)
    all_goals
      go_wp2_with fail
      go_meet
      refine ⟨rfl, ?_, ?_⟩
      · first | exact ((Fr.refl No w1).alloc _).drew | exact (Fr.refl No w1).alloc _
      · first | (rw [← hz1]; exact Blk.new w1 42 _) | (rw [← hz1]; exact (Blk.new w1 42 _ : Blk (w1.alloc _) _ _ _))
  case rest =>
    obtain ⟨rfl, f2, hb2⟩ := hcut
    have F2 := Lib.hid (F1.out.trans f2 fun _ _ h => h)
    have HB := HB1.out.of (f2.block y HB1.out.lt id)
    have HT := Lib.hid (takes_any (HR.out.keep F2.out) (HM.out.keep F2.out))
    have HEND : Hid (∀ w3, Fr (Only d) wc w3 → Blk w3 y 42 #[.int .i64 0, .string ⟨#[]⟩, .int .i64 0] ∧ Blk w3 (y + 1) 42 #[.int .i64 (xk : Nat), sv xt, .int .i64 (xp : Nat)]) := Lib.hid fun w3 f3 =>
      ⟨HB.of (f3.block y HB.lt (fun e => by have := HD.out; have e : y = d := e; omega)), hb2.of (f3.block (y + 1) hb2.lt (fun e => by have := HD.out; have e : y + 1 = d := e; omega))⟩
    have HY2 := HY.out
    unfold rp at HT
    simp only at HT
    clear f2 hb2 HB z0 z1 y0 y1 y2 z0' z1' y0' y1' y2'
    cases hmx : m ⟨xk, xt, xp⟩ with
    | true =>
      rw [hmx] at HT
      go_wp2_with fail
      refine HT.out.mono ?_
      rintro e w3 ⟨rfl, hr3, f3⟩
      rw [if_pos rfl] at hr3
      obtain ⟨b1, b2⟩ := HEND.out w3 f3
      have e0 : w3.cell? ⟨y + 1, 0, none⟩ = some (.int .i64 (xk : Nat)) := b2.cell 0
      have e1 : w3.cell? ⟨y + 1, 1, none⟩ = some (sv xt) := b2.cell 1
      have e2 : w3.cell? ⟨y + 1, 2, none⟩ = some (.int .i64 (xp : Nat)) := b2.cell 2
      have g0 : w3.cell? ⟨y, 0, none⟩ = some (.int .i64 0) := b1.cell 0
      have g1 : w3.cell? ⟨y, 1, none⟩ = some (.string ⟨#[]⟩) := b1.cell 1
      have g2 : w3.cell? ⟨y, 2, none⟩ = some (.int .i64 0) := b1.cell 2
      have x0 := b1.frozen 0
      have x1 := b1.frozen 1
      have x2 := b1.frozen 2
      have HR3 := Lib.hid hr3
      have HF3 := Lib.hid (F2.out.any.trans f3 fun _ _ h => h)
      have HYL : Hid (w.heap.size ≤ y) := Lib.hid (by omega)
      have hdy : d < y := HD.out
      have hgy : g < y := by omega
      clear hr3 f3 b1 b2
      go_wp2
      refine bodyPost_ret (v := .agg #[.int .i64 (xk : Nat), sv xt, .int .i64 (xp : Nat)]) (by simp [results, Tryz.results67, go_sem, g0, g1, g2]) rfl ?_
      refine ⟨?_, ⟨_, rfl, rfl, h5, h6, h7⟩, ?_⟩
      · exact fr_new (fr_new (fr_new HF3.out HYL.out) HYL.out) HYL.out
      · refine HR3.out.past (y := y) ?_ hdy hgy
        exact fr_set (fr_set (fr_set (Fr.refl _ w3)))
    | false =>
      rw [hmx] at HT
      go_wp2_with fail
      refine HT.out.mono ?_
      rintro e w3 ⟨rfl, hr3, f3⟩
      obtain ⟨b1, b2⟩ := HEND.out w3 f3
      have e2 : w3.cell? ⟨y + 1, 2, none⟩ = some (.int .i64 (xp : Nat)) := b2.cell 2
      have HF3 := Lib.hid (F2.out.any.trans f3 fun _ _ h => h)
      have HG := Lib.hid (giveUp_any 41 xp w3)
      clear hr3 f3 b1 b2
      go_wp2_with fail
      refine HG.out.mono ?_
      rintro e w4 ⟨rfl, rfl⟩
      go_wp2_with fail
      exact ⟨rfl, HF3.out, rfl⟩
theorem field42 (a b c : Value) (w : World) : (Instr.field 42 (.agg #[a, b, c]) 1).run Tryz.prog w = .ok b w := by
  simp [Instr.field, run_underlying Tryz.underlying42, go_sem, asAgg]
set_option maxRecDepth 100000 in
theorem name_any {C : Cx} {w : World} {r : List Wd} {b : Bool} (h : Rd C w r b) (he : Ended r) : Calls Tryz.prog 61 #[rp C] w (RdP C w strR (nameW r b)) := by
  obtain ⟨x, l, rfl⟩ := he.cons
  have HO := Lib.hid (of_any 1 w)
  have HN : Hid (∀ w1 mv, Fr No w w1 → Mt w1 mv (ofW 1) → Calls Tryz.prog 67 #[rp C, mv] w1 (RdP C w1 wdR (needW (ofW 1) (x :: l) b))) := Lib.hid fun w1 mv f hm => need_any (h.keep f) hm
  have HV : Hid (nameW (x :: l) b = (needW (ofW 1) (x :: l) b).map Wd.text) := Lib.hid rfl
  rw [HV.out]
  generalize needW (ofW 1) (x :: l) b = R at *
  unfold rp at *
  clear h
  go_enter Tryz.func61, Tryz.ntmps61
  go_wp2_with fail
  refine HO.out.mono ?_
  rintro e w1 ⟨⟨mv, rfl, hm⟩, f1⟩
  have HN1 := Lib.hid (HN.out w1 mv f1 hm)
  have F1 := Lib.hid f1
  clear hm f1
  go_wp2_with fail
  refine HN1.out.mono ?_
  rintro e w2 ⟨f2, hp⟩
  have F2 := Lib.hid (F1.out.any.trans f2 fun _ _ h => h)
  clear f2
  cases R with
  | bad c p =>
    obtain rfl := hp
    go_wp2_with fail
    exact ⟨rfl, F2.out, rfl⟩
  | ok x r m =>
    obtain ⟨⟨v, rfl, rfl, h1, h2, h3⟩, hr⟩ := hp
    have HR := Lib.hid hr
    obtain ⟨xk, xt, xp⟩ := x
    clear hr
    have hfd := fun w => field42 (.int .i64 (xk : Nat)) (sv xt) (.int .i64 (xp : Nat)) w
    go_wp2
    go_ret
    exact ⟨F2.out, ⟨_, rfl, rfl, h1⟩, HR.out⟩
/-- A row of fixed texts. -/
def FixT (w : World) (v : Value) (ts : List Tx) : Prop := ∃ g c, v = .slice (some ⟨g, 0, none⟩) ts.length c ∧ ts.length ≤ 100 ∧ ∀ k (h : k < ts.length), w.cell? ⟨g, k, none⟩ = some (sv ts[k])
set_option maxRecDepth 100000 in
set_option maxHeartbeats 2000000 in
theorem all_any {C : Cx} {w : World} {r : List Wd} {b : Bool} {v : Value} {ts : List Tx} (h : Rd C w r b) (hv : FixT w v ts) (hg : ∀ g n c, v = .slice (some ⟨g, 0, none⟩) n c → g ≠ C.d) (he : Ended r) : Calls Tryz.prog 58 #[rp C, v] w (RdP C w unitR (allW ts r b)) := by
  obtain ⟨g, c, rfl, hl, hc⟩ := hv
  have hgd := hg g _ _ rfl
  have HC : Hid (∀ w1, Fr (Only C.d) w w1 → ∀ k (h : k < ts.length), w1.cell? ⟨g, k, none⟩ = some (sv ts[k])) := Lib.hid fun w1 f k hk => by
    rw [cell_of_heap (f.block g (cell_lt (hc k hk)) hgd)]; exact hc k hk
  have HS : Hid (∀ t w1, Calls Tryz.prog 63 #[sv t] w1 fun e w2 => (∃ mv, e = .returned mv ∧ Mt w2 mv (saysW t)) ∧ Fr No w1 w2) := Lib.hid fun t w1 => says_any t w1
  have HN : Hid (∀ x l b w1 mv m, Rd C w1 (x :: l) b → Mt w1 mv m → Calls Tryz.prog 67 #[rp C, mv] w1 (RdP C w1 wdR (needW m (x :: l) b))) := Lib.hid fun x l b w1 mv m h hm => need_any h hm
  have HR := Lib.hid h
  have HE := Lib.hid he
  have HL : Hid (allW ts r b = allW (ts.drop 0) r b) := Lib.hid (by rw [List.drop_zero])
  obtain ⟨n, hn⟩ : ∃ n, ts.length = n := ⟨_, rfl⟩
  rw [hn] at hl
  have HTN := Lib.hid hn
  simp only [hn]
  unfold rp at *
  obtain ⟨d, hd⟩ : ∃ d, C.d = d := ⟨_, rfl⟩
  rw [hd]
  have HD := Lib.hid hd
  clear h hc hg hgd he hn hd
  go_enter Tryz.func58, Tryz.ntmps58
  go_wp2
  go_loopw [5, 8] (fun _ iv wr => ∃ k : Nat, k ≤ n ∧ iv = .int .i64 k ∧ Hid (∃ r1 b1, Rd C wr r1 b1 ∧ Ended r1 ∧ allW ts r b = allW (ts.drop k) r1 b1) ∧ Hid (Fr (Only C.d) w wr)) (fun _ iv _ => n - (intOf iv).toNat)
  case atStart => exact ⟨0, Nat.zero_le _, rfl, Lib.hid ⟨r, b, HR.out, HE.out, HL.out⟩, Lib.hid (Fr.refl _ w)⟩
  case round =>
    obtain ⟨k, hk, rfl, HI, HF⟩ := hrel
    obtain ⟨r1, b1, hR1, hE1, hA⟩ := HI.out
    by_cases hlt : k < n
    · have hkt : k < ts.length := by rw [HTN.out]; exact hlt
      have hcell := HC.out _ HF.out k hkt
      have hdrop : ts.drop k = ts[k] :: ts.drop (k + 1) := List.drop_eq_getElem_cons hkt
      obtain ⟨x, l, rfl⟩ := hE1.cons
      rw [hdrop] at hA
      obtain ⟨t, ht⟩ : ∃ t, ts[k] = t := ⟨_, rfl⟩
      rw [ht] at hcell hA
      have HA : Hid (allW ts r b = (needW (saysW t) (x :: l) b1).then fun _ => allW (ts.drop (k + 1))) := Lib.hid hA
      have HE1 := Lib.hid hE1
      have HN1 : Hid (∀ w1 mv, Fr No wr w1 → Mt w1 mv (saysW t) → Calls Tryz.prog 67 #[.pointer (some ⟨d, 0, none⟩), mv] w1 (RdP C w1 wdR (needW (saysW t) (x :: l) b1))) := Lib.hid fun w1 mv f hm => by
        rw [← HD.out]; exact HN.out x l b1 w1 mv _ (hR1.keep f) hm
      have HNK : Hid (∀ x' r2 b2, needW (saysW t) (x :: l) b1 = .ok x' r2 b2 → r2 = l ∧ b2 = b1 ∧ x.kind ≠ 6) := Lib.hid fun x' r2 b2 e => by
        rw [needW_cons] at e
        split at e
        · rename_i hs
          cases e
          refine ⟨rfl, rfl, fun h6 => ?_⟩
          unfold saysW fixW at hs
          rw [h6] at hs
          simp at hs
        · cases e
      have HS1 := Lib.hid (HS.out t wr)
      clear hR1 hE1 hA hdrop ht HI
      go_wp2_with fail
      refine HS1.out.mono ?_
      rintro e w1 ⟨⟨mv, rfl, hm⟩, f1⟩
      have HN2 := Lib.hid (HN1.out w1 mv f1 hm)
      have F1 := Lib.hid (HF.out.trans f1.any fun _ _ h => h)
      clear hm f1 hcell
      go_wp2_with fail
      refine HN2.out.mono ?_
      rintro e w2 ⟨f2, hp⟩
      have F2 := Lib.hid (F1.out.trans f2 fun _ _ h => h)
      clear f2
      generalize hR : needW (saysW t) (x :: l) b1 = R at *
      cases R with
      | bad c p =>
        obtain rfl := hp
        have HV : Hid (allW ts r b = .bad c p) := Lib.hid (by rw [HA.out]; rfl)
        go_wp2_with fail
        rw [HV.out]
        exact ⟨rfl, F2.out, rfl⟩
      | ok x' r2 b2 =>
        obtain ⟨⟨v, rfl, rfl, _, _, _⟩, hr⟩ := hp
        obtain ⟨e1, e2, h6⟩ := HNK.out x' r2 b2 rfl
        subst e1; subst e2
        have HI2 : Hid (∃ r1 b1, Rd C w2 r1 b1 ∧ Ended r1 ∧ allW ts r b = allW (ts.drop (k + 1)) r1 b1) := Lib.hid ⟨r2, b2, hr, HE1.out.tail h6, HA.out⟩
        clear hr hR
        go_wp2
        exact ⟨⟨k + 1, by omega, by go_num, HI2, F2⟩, by simp [intOf]; omega⟩
    · obtain rfl : k = n := by omega
      have HV : Hid (allW ts r b = .ok () r1 b1) := Lib.hid (by rw [hA, List.drop_of_length_le (Nat.le_of_eq HTN.out)]; rfl)
      have HR1 := Lib.hid hR1
      clear hA hR1 hE1 HI
      go_wp2
      refine bodyPost_ret (v := .tuple #[]) (by simp [results, Tryz.results58, go_sem]) rfl ?_
      rw [HV.out]
      exact ⟨HF.out, ⟨_, rfl, rfl⟩, HR1.out⟩
end Go.Proofs.YtpdfenpmnpoehaaGreatDoor
