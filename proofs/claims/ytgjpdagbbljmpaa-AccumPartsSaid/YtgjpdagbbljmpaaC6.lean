/- AccumOrder, walked. -/
import Derived.Test.YtgjpdagbbljmpaaC5
import Derived.Deep.RegionWith
namespace Go.Proofs.Ytgjpdagbbljmpaa
open Go.RowKit Go.Maps Go.Sort
set_option linter.unusedVariables false

theorem chunk_lok {l : List Int} (h : ∀ x ∈ l, i64 x) : Lok [foldP l] := lok1 _ (foldP_ok h)
/-- One number more, behind a list: what Take tells. -/
theorem take_one (j : Nat) (hj : j ≤ 1000) (l : List Int) (x : Int) : (⟨w64 ((j : Int) + 1), takeL [foldP l] [x]⟩ : Ac) = ⟨((j + 1 : Nat) : Int), [foldP (l ++ [x])]⟩ := by
  have e1 : w64 ((j : Int) + 1) = ((j + 1 : Nat) : Int) := by unfold w64; omega
  have e2 : takeL [foldP l] [x] = [withP (foldP l) x] := by simp [takeL]
  rw [foldP_append, e1, e2]
theorem Bx.cast {w : World} {y : Nat} {c c' : Int} {l : List Pt} (h : Bx w y c l) (e : c = c') : Bx w y c' l := e ▸ h
/-- A number more in the accumulator of a variable, ahead of its store. -/
theorem take_box {w : World} {y j J : Nat} {l l' : List Int} {x : Int} {A1 : Option Addr} {c1 : Nat} (h1 : Blk w y 39 #[.int .i64 (j : Int), .slice A1 1 c1]) (h2 : PO 0 w (.slice A1 1 c1) [foldP l]) (hl : ∀ x ∈ l, i64 x) (hx : i64 x) (hj : j ≤ 1000) (hJ : j + 1 = J) (hl' : l' = l ++ [x]) :
    Calls Try.prog 22 #[.agg #[.int .i64 (j : Int), .slice A1 1 c1], .slice (some ⟨w.heap.size, 0, none⟩) 1 1] (w.alloc (.cells #[.int .i64 x] 2)) fun e w' => ∃ A c, e = .returned (.agg #[.int .i64 (J : Int), .slice A 1 c]) ∧
      w'.cell? ⟨y, 0, none⟩ = some (.int .i64 (j : Int)) ∧ w'.cell? ⟨y, 1, none⟩ = some (.slice A1 1 c1) ∧ w'.frozen? ⟨y, 0, none⟩ = false ∧ w'.frozen? ⟨y, 1, none⟩ = false ∧
      Bx ((w'.setCell ⟨y, 0, none⟩ (.int .i64 (J : Int))).setCell ⟨y, 1, none⟩ (.slice A 1 c)) y (J : Int) [foldP l'] ∧ Blk w' y 39 #[.int .i64 (j : Int), .slice A1 1 c1] ∧ Fr No w w' := by
  subst hJ
  subst hl'
  refine (take_lit h2 (chunk_lok hl) (j : Int) x hx _ (take_one j hj l x)).mono ?_
  rintro e w' ⟨v', rfl, hp, f⟩
  obtain ⟨A, c, rfl, -⟩ := hp.pr.form
  have hb := h1.no f
  exact ⟨A, c, rfl, hb.cell 0, hb.cell 1, hb.frozen 0, hb.frozen 1, Bx.store hb hp, hb, f⟩
set_option maxRecDepth 100000 in
set_option maxHeartbeats 4000000 in
theorem order_law {K : Nat → Prop} (ns : List Int) (turn : Int) (ht : i64 turn) (v : Value) (w : World) (hr : RowE K w 1 (intG K w) v ns) : Calls Try.prog 9 #[v, .int .i64 turn] w (TellsB true w) := by
  have HAW : Hid (∀ w', Calls Try.prog 10 #[] w' (TellsB true w')) := Lib.hid fun w' => awake_any w'
  have HN : Hid (∀ w', Calls Try.prog 27 #[.int .i64 1] w' (TellsA ⟨0, [foldP []]⟩ w')) := Lib.hid fun w' => new_any 1 w'
  obtain ⟨A, c, rfl, h1, h2, hrow⟩ := row_int hr
  obtain ⟨N, hN⟩ : ∃ N, ns.length = N := ⟨_, rfl⟩
  obtain ⟨n, hn⟩ : ∃ n, min N 200 = n := ⟨_, rfl⟩
  obtain ⟨L, hL⟩ : ∃ L, ns.take n = L := ⟨_, rfl⟩
  have hLl : L.length = n := by rw [← hL, List.length_take]; omega
  have hLi : ∀ x ∈ L, i64 x := fun x hx => by
    rw [← hL] at hx
    obtain ⟨j, hj, rfl⟩ := List.getElem_of_mem (List.mem_of_mem_take hx)
    obtain ⟨g, o, _, _, _, h⟩ := hrow j hj
    exact h
  have hrow2 : ∀ i, i < n → ∃ g o, A = some ⟨g, o, none⟩ ∧ g < w.heap.size ∧ ∃ x, w.cell? ⟨g, o + i, none⟩ = some (.int .i64 x) ∧ L[i]? = some x ∧ i64 x := fun i hi => by
    obtain ⟨g, o, e, hg, hc, hx⟩ := hrow i (by omega)
    exact ⟨g, o, e, hg, _, hc, by have h0 : (ns.take n)[i]? = some ns[i] := by rw [List.getElem?_take, if_pos hi, List.getElem?_eq_getElem (by omega)]
                                  rw [hL] at h0; exact h0, hx⟩
  have HROW := Lib.hid hrow2
  have HLL := Lib.hid hLl
  have HLI := Lib.hid hLi
  obtain ⟨k, hk⟩ : ∃ k : Nat, (if turn < 0 then -(turn + 1) else turn) = (k : Int) := by
    unfold i64 i64' at ht
    exact ⟨(if turn < 0 then -(turn + 1) else turn).toNat, by split <;> omega⟩
  have hkb : k ≤ 9223372036854775807 := by unfold i64 i64' at ht; split at hk <;> omega
  have hn2 : n ≤ 200 := by omega
  have hnN : n ≤ N := by omega
  have hNb : N ≤ 9223372036854775807 := by unfold maxLen at h2; omega
  rw [hN]
  unfold maxLen at h2
  rw [hN] at h1
  have hcase : ((200 < N) = True ∧ n = 200) ∨ ((200 < N) = False ∧ N = n) := by
    by_cases h : 200 < N
    · exact .inl ⟨eq_true h, by omega⟩
    · exact .inr ⟨eq_false h, by omega⟩
  have HCASE := Lib.hid hcase
  have HK := Lib.hid hk
  have HT := Lib.hid ht
  clear hr hrow hN hn hL hLl hLi hrow2 hcase hk ht
  go_enter Try.func9, Try.ntmps9
  go_upto_region 2 with (go_at_call 10; refine (HAW.out _).mono ?_; rintro e w2 ⟨rfl, f2⟩; have HF2 := Lib.hid f2; clear f2)
  go_upto_if 18 with fail
  go_cut [6] (fun r6 wx => r6 = .int .i64 (n : Int) ∧ w2 = wx)
  case first =>
    rcases HCASE.out with ⟨e1, e2⟩ | ⟨e1, e2⟩
    · have k1 : (200 : Int) < (N : Int) := by have := of_eq_true e1; omega
      have E2 := Lib.hid e2
      clear e2
      go_wp2_with fail
      go_meet
      exact ⟨by rw [E2.out]; rfl, rfl⟩
    · have k1 : ¬ (200 : Int) < (N : Int) := by have := of_eq_false e1; omega
      have E2 := Lib.hid e2
      clear e2
      go_wp2_with fail
      go_meet
      exact ⟨by rw [E2.out], rfl⟩
  case rest =>
  obtain ⟨rfl, rfl⟩ := hcut
  clear HCASE
  go_upto_region 6 with (go_at_call 27; refine (HN.out _).mono ?_; rintro e w3 ⟨v3, rfl, hp3, f3⟩; obtain ⟨A3, c3, rfl, -⟩ := hp3.pr.form; have HP3 := Lib.hid hp3; have HF3 := Lib.hid (HF2.out.trans f3 fun _ _ h => h); clear hp3 f3)
  obtain ⟨y1, hy1⟩ : ∃ y, w3.heap.size = y := ⟨_, rfl⟩
  obtain ⟨w4, hw4⟩ : ∃ wa, w3.alloc (.cells #[.int .i64 0, .slice A3 1 c3] 39) = wa := ⟨_, rfl⟩
  rw [hw4, hy1]
  have HB1 : Hid (Bx w4 y1 0 [foldP []]) := Lib.hid (by
    have fa : Fr No w3 w4 := by rw [← hw4]; exact (Fr.refl No w3).alloc _
    exact ⟨_, by rw [← hw4, ← hy1]; exact Blk.new w3 39 _, (HP3.out.no fa).low (Nat.zero_le _)⟩)
  have HF4 : Hid (Fr No w w4) := Lib.hid (by rw [← hw4]; exact HF3.out.alloc _)
  have HY1 : Hid (w.heap.size ≤ y1 ∧ y1 < w4.heap.size) := Lib.hid ⟨by rw [← hy1]; exact HF3.out.size, HB1.out.lt⟩
  clear hy1 hw4 HP3 HF3 HF2
  go_upto_region 7 with (go_at_call 27; refine (HN.out _).mono ?_; rintro e w3 ⟨v3, rfl, hp3, f3⟩; obtain ⟨A3, c3, rfl, -⟩ := hp3.pr.form; have HP3 := Lib.hid hp3; have HF3 := Lib.hid f3; clear hp3 f3)
  obtain ⟨y2, hy2⟩ : ∃ y, w3.heap.size = y := ⟨_, rfl⟩
  obtain ⟨w5, hw5⟩ : ∃ wa, w3.alloc (.cells #[.int .i64 0, .slice A3 1 c3] 39) = wa := ⟨_, rfl⟩
  rw [hw5, hy2]
  have HF45 : Hid (Fr No w4 w5) := Lib.hid (by rw [← hw5]; exact HF3.out.alloc _)
  have HB2 : Hid (Bx w5 y2 0 [foldP []]) := Lib.hid (by
    have fa : Fr No w3 w5 := by rw [← hw5]; exact (Fr.refl No w3).alloc _
    exact ⟨_, by rw [← hw5, ← hy2]; exact Blk.new w3 39 _, (HP3.out.no fa).low (Nat.zero_le _)⟩)
  have HY2 : Hid (y1 < y2 ∧ y2 < w5.heap.size) := Lib.hid ⟨by rw [← hy2]; exact Nat.lt_of_lt_of_le HY1.out.2 HF3.out.size, HB2.out.lt⟩
  clear hy2 hw5 HP3 HF3
  go_upto_region 8 with (go_at_call 27; refine (HN.out _).mono ?_; rintro e w3 ⟨v3, rfl, hp3, f3⟩; obtain ⟨A3, c3, rfl, -⟩ := hp3.pr.form; have HP3 := Lib.hid hp3; have HF3 := Lib.hid f3; clear hp3 f3)
  obtain ⟨y3, hy3⟩ : ∃ y, w3.heap.size = y := ⟨_, rfl⟩
  obtain ⟨w6, hw6⟩ : ∃ wa, w3.alloc (.cells #[.int .i64 0, .slice A3 1 c3] 39) = wa := ⟨_, rfl⟩
  rw [hw6, hy3]
  have HF56 : Hid (Fr No w5 w6) := Lib.hid (by rw [← hw6]; exact HF3.out.alloc _)
  have HB3 : Hid (Bx w6 y3 0 [foldP []]) := Lib.hid (by
    have fa : Fr No w3 w6 := by rw [← hw6]; exact (Fr.refl No w3).alloc _
    exact ⟨_, by rw [← hw6, ← hy3]; exact Blk.new w3 39 _, (HP3.out.no fa).low (Nat.zero_le _)⟩)
  have HY3 : Hid (y2 < y3) := Lib.hid (by rw [← hy3]; exact Nat.lt_of_lt_of_le HY2.out.2 HF3.out.size)
  have HB26 : Hid (Bx w6 y2 0 [foldP []]) := Lib.hid (HB2.out.no HF56.out)
  have HB16 : Hid (Bx w6 y1 0 [foldP []]) := Lib.hid (HB1.out.no (HF45.out.trans HF56.out fun _ _ h => h))
  have HF6 : Hid (Fr No w w6) := Lib.hid (HF4.out.trans (HF45.out.trans HF56.out fun _ _ h => h) fun _ _ h => h)
  clear hy3 hw6 HP3 HF3 HB1 HB2 HF45 HF56 HF4
  go_upto_if 24 with fail
  go_cut [10] (fun r10 wx => r10 = .int .i64 (k : Int) ∧ w6 = wx)
  case first =>
    have ht := HT.out
    unfold i64 i64' at ht
    by_cases h : turn < 0
    · have e1 : (turn < 0) = True := eq_true h
      have e0 : decide (turn < 0) = true := decide_eq_true h
      have hk := HK.out
      rw [if_pos h] at hk
      obtain ⟨t, ht1⟩ : ∃ t, turn + 1 = t := ⟨_, rfl⟩
      have e2 : IntKind.i64.wrap (turn + 1) = t := by rw [IntKind.wrap_i64]; omega
      have e3 : IntKind.i64.wrap (-t) = (k : Int) := by rw [IntKind.wrap_i64]; omega
      clear ht hk ht1
      go_wp2_with fail
      go_meet
      exact ⟨rfl, rfl⟩
    · have e1 : (turn < 0) = False := eq_false h
      have e0 : decide (turn < 0) = false := decide_eq_false h
      have hk := HK.out
      rw [if_neg h] at hk
      have HKE := Lib.hid hk
      clear ht hk
      go_wp2_with fail
      go_meet
      exact ⟨by rw [HKE.out], rfl⟩
  case rest =>
  obtain ⟨rfl, rfl⟩ := hcut
  clear HT HK
  go_wp2_with fail
  rename World => wo
  go_loopg [11] n (fun g r11 wr => Hid (∃ (j : Nat), r11 = .int .i64 (j : Nat) ∧ j + g = n ∧ Bx wr y1 (j : Nat) [foldP (L.take j)] ∧ Bx wr y2 (j : Nat) [foldP (L.reverse.take j)] ∧ Bx wr y3 (j : Nat) [foldP ((rotL L (k % n)).take j)] ∧ Fr No w wr))
  case atStart => exact Lib.hid ⟨0, rfl, by omega, HB16.out, HB26.out, HB3.out, HF6.out⟩
  case round =>
  obtain ⟨j, rfl, hjn, hB1, hB2, hB3, hf⟩ := hrel.out
  clear hrel
  by_cases hj : j < n
  · have hji : (j : Int) < (n : Int) := by omega
    have hLn := HLL.out
    have HJ := Lib.hid hj
    have hjN : (j : Int) < (N : Int) := by omega
    -- the three numbers
    obtain ⟨g, o, rfl, hg, xa, hca, hxa, hia⟩ := HROW.out j hj
    obtain ⟨m1, hm1⟩ : ∃ z, n - 1 - j = z := ⟨_, rfl⟩
    obtain ⟨g', o', e, -, xb, hcb, hxb, hib⟩ := HROW.out (n - 1 - j) (by omega)
    injection e with e
    injection e with e1 e2
    subst e1
    subst e2
    obtain ⟨r, hr⟩ : ∃ r, k % n = r := ⟨_, rfl⟩
    have hrn : r < n := by rw [← hr]; exact Nat.mod_lt _ (by omega)
    obtain ⟨q, hq⟩ : ∃ q, (j + r) % n = q := ⟨_, rfl⟩
    have hqn : q < n := by rw [← hq]; exact Nat.mod_lt _ (by omega)
    obtain ⟨g', o', e, -, xc, hcc, hxc, hic⟩ := HROW.out q hqn
    injection e with e
    injection e with e1 e2
    subst e1
    subst e2
    have HTA : Hid (L.take (j + 1) = L.take j ++ [xa]) := Lib.hid (by
      rw [take_snoc (by omega)]
      rw [List.getElem?_eq_getElem (by omega)] at hxa
      injection hxa with hxa
      rw [hxa])
    have HTB : Hid (L.reverse.take (j + 1) = L.reverse.take j ++ [xb]) := Lib.hid (by
      rw [take_snoc (by rw [List.length_reverse]; omega)]
      have h0 : L.reverse[j]? = some xb := by rw [List.getElem?_reverse (by omega), hLn]; exact hxb
      rw [List.getElem?_eq_getElem (by rw [List.length_reverse]; omega)] at h0
      injection h0 with h0
      rw [h0])
    have HTC : Hid ((rotL L r).take (j + 1) = (rotL L r).take j ++ [xc]) := Lib.hid (by
      have hl := rotL_len L r (by omega)
      rw [take_snoc (by omega)]
      have h0 := rotL_at L r j (by omega) (by omega)
      rw [hLn, hq, hxc, List.getElem?_eq_getElem (by omega)] at h0
      injection h0 with h0
      rw [h0])
    have HPA := Lib.hid (fun x (hx : x ∈ L.take j) => HLI.out x (List.mem_of_mem_take hx))
    have HPB := Lib.hid (fun x (hx : x ∈ L.reverse.take j) => HLI.out x (by simpa using List.mem_of_mem_take hx))
    have HPC := Lib.hid (fun x (hx : x ∈ (rotL L r).take j) => HLI.out x ((rotL_perm L r).mem_iff.1 (List.mem_of_mem_take hx)))
    have HW : Hid (∀ wx, Fr No w wx → wx.cell? ⟨g, o + j, none⟩ = some (.int .i64 xa) ∧ wx.cell? ⟨g, o + m1, none⟩ = some (.int .i64 xb) ∧ wx.cell? ⟨g, o + q, none⟩ = some (.int .i64 xc)) := Lib.hid fun wx fx => ⟨(cell_of_heap (fx.block g hg id)).trans hca, (cell_of_heap (fx.block g hg id)).trans (by rw [← hm1]; exact hcb), (cell_of_heap (fx.block g hg id)).trans hcc⟩
    obtain ⟨J, hJ⟩ : ∃ J, j + 1 = J := ⟨_, rfl⟩
    have HJ2 := Lib.hid hJ
    have HYY : Hid (w.heap.size ≤ y1 ∧ y1 < y2 ∧ y2 < y3) := Lib.hid ⟨HY1.out.1, HY2.out.1, HY3.out⟩
    rw [hr] at hB3
    have HS0 : Hid (Bx wr y1 (j : Int) [foldP (L.take j)] ∧ Bx wr y2 (j : Int) [foldP (L.reverse.take j)] ∧ Bx wr y3 (j : Int) [foldP ((rotL L r).take j)] ∧ Fr No w wr) := Lib.hid ⟨hB1, hB2, hB3, hf⟩
    obtain ⟨n1, hn1⟩ : ∃ z, n - 1 = z := ⟨_, rfl⟩
    obtain ⟨sq, hsq⟩ : ∃ z, j + r = z := ⟨_, rfl⟩
    have e1 : IntKind.i64.wrap ((n : Int) - 1) = (n1 : Int) := by rw [IntKind.wrap_i64]; omega
    have e2 : IntKind.i64.wrap ((n1 : Int) - (j : Int)) = (m1 : Int) := by rw [IntKind.wrap_i64]; omega
    have e3 : Int.tmod (k : Int) (n : Int) = (r : Int) := by rw [← hr]; rfl
    have e4 : IntKind.i64.wrap ((j : Int) + (r : Int)) = (sq : Int) := by rw [IntKind.wrap_i64]; omega
    have e5 : Int.tmod (sq : Int) (n : Int) = (q : Int) := by rw [← hq, ← hsq]; rfl
    have e6 : ((n : Int) == 0) = false := by simp; omega
    have e7 : (m1 : Int) < (N : Int) := by omega
    have e8 : (q : Int) < (N : Int) := by omega
    have HR := Lib.hid hr
    clear hxa hxb hxc hca hcb hcc hf hq hLn hJ hB1 hB2 hB3 hn1 hm1 hr hsq
    obtain ⟨va, ha1, ha2⟩ := HS0.out.1
    obtain ⟨A0, cc0, rfl, -⟩ := ha2.pr.form
    have HT0 : Hid (Calls Try.prog 22 #[.agg #[.int .i64 (j : Int), .slice A0 1 cc0], .slice (some ⟨wr.heap.size, 0, none⟩) 1 1] (wr.alloc (.cells #[.int .i64 xa] 2)).drew fun e w' => ∃ A c, e = .returned (.agg #[.int .i64 (J : Int), .slice A 1 c]) ∧
      w'.cell? ⟨y1, 0, none⟩ = some (.int .i64 (j : Int)) ∧ w'.cell? ⟨y1, 1, none⟩ = some (.slice A0 1 cc0) ∧ w'.frozen? ⟨y1, 0, none⟩ = false ∧ w'.frozen? ⟨y1, 1, none⟩ = false ∧
      Bx ((w'.setCell ⟨y1, 0, none⟩ (.int .i64 (J : Int))).setCell ⟨y1, 1, none⟩ (.slice A 1 c)) y1 (J : Int) [foldP (L.take (j + 1))] ∧ Blk w' y1 39 #[.int .i64 (j : Int), .slice A0 1 cc0] ∧ Fr No wr.drew w') := Lib.hid (take_box (w := wr.drew) ha1 (ha2.no (Fr.refl No wr).drew) HPA.out hia (by omega) HJ2.out HTA.out)
    have x0 : wr.drew.cell? ⟨g, o + j, none⟩ = some (.int .i64 xa) := (HW.out _ HS0.out.2.2.2).1
    have a0 : wr.drew.cell? ⟨y1, 0, none⟩ = some (.int .i64 (j : Int)) := ha1.cell 0
    have a1 : wr.drew.cell? ⟨y1, 1, none⟩ = some (.slice A0 1 cc0) := ha1.cell 1
    have b0 : ∀ O, (wr.alloc O).drew.cell? ⟨y1, 0, none⟩ = some (.int .i64 (j : Int)) := fun O => (ha1.no ((Fr.refl No wr).alloc O).drew).cell 0
    have b1 : ∀ O, (wr.alloc O).drew.cell? ⟨y1, 1, none⟩ = some (.slice A0 1 cc0) := fun O => (ha1.no ((Fr.refl No wr).alloc O).drew).cell 1
    clear ha1 ha2
    go_upto_region 14 with fail
    go_cut [] from 28 to 62 (fun wx => Hid (Bx wx y1 (J : Int) [foldP (L.take (j + 1))] ∧ Bx wx y2 (j : Int) [foldP (L.reverse.take j)] ∧ Bx wx y3 (j : Int) [foldP ((rotL L r).take j)] ∧ Fr No w wx))
    case first =>
      go_region_with (go_at_call 22; refine HT0.out.mono ?_; rintro e w7 ⟨A7, c7, rfl, q0, q1, z0, z1, hbx, hbk, f7⟩; have HBX := Lib.hid hbx; have HBK := Lib.hid hbk; have HF7 := Lib.hid ((Fr.refl No wr).drew.trans f7 fun _ _ h => h); clear hbx hbk f7)
      all_goals
        go_simp
        go_wp2_with fail
        go_meet
        exact Lib.hid ⟨HBX.out, (HS0.out.2.1.no HF7.out).other2 HBK.out (by have := HYY.out; omega) _ _, (HS0.out.2.2.1.no HF7.out).other2 HBK.out (by have := HYY.out; omega) _ _, ((HS0.out.2.2.2.trans HF7.out fun _ _ h => h).set_new (by have := HYY.out; omega) _).set_new (by have := HYY.out; omega) _⟩
    case rest =>
    have HS1 := hcut
    clear hcut x0 a0 a1 b0 b1 HT0 HS0
    rename World => wc0
    obtain ⟨va, ha1, ha2⟩ := HS1.out.2.1
    obtain ⟨A1, cc1, rfl, -⟩ := ha2.pr.form
    have HT1 : Hid (Calls Try.prog 22 #[.agg #[.int .i64 (j : Int), .slice A1 1 cc1], .slice (some ⟨wc0.heap.size, 0, none⟩) 1 1] (wc0.alloc (.cells #[.int .i64 xb] 2)).drew fun e w' => ∃ A c, e = .returned (.agg #[.int .i64 (J : Int), .slice A 1 c]) ∧
      w'.cell? ⟨y2, 0, none⟩ = some (.int .i64 (j : Int)) ∧ w'.cell? ⟨y2, 1, none⟩ = some (.slice A1 1 cc1) ∧ w'.frozen? ⟨y2, 0, none⟩ = false ∧ w'.frozen? ⟨y2, 1, none⟩ = false ∧
      Bx ((w'.setCell ⟨y2, 0, none⟩ (.int .i64 (J : Int))).setCell ⟨y2, 1, none⟩ (.slice A 1 c)) y2 (J : Int) [foldP (L.reverse.take (j + 1))] ∧ Blk w' y2 39 #[.int .i64 (j : Int), .slice A1 1 cc1] ∧ Fr No wc0.drew w') := Lib.hid (take_box (w := wc0.drew) ha1 (ha2.no (Fr.refl No wc0).drew) HPB.out hib (by omega) HJ2.out HTB.out)
    have x0 : wc0.drew.cell? ⟨g, o + m1, none⟩ = some (.int .i64 xb) := (HW.out _ HS1.out.2.2.2).2.1
    have a0 : wc0.drew.cell? ⟨y2, 0, none⟩ = some (.int .i64 (j : Int)) := ha1.cell 0
    have a1 : wc0.drew.cell? ⟨y2, 1, none⟩ = some (.slice A1 1 cc1) := ha1.cell 1
    have b0 : ∀ O, (wc0.alloc O).drew.cell? ⟨y2, 0, none⟩ = some (.int .i64 (j : Int)) := fun O => (ha1.no ((Fr.refl No wc0).alloc O).drew).cell 0
    have b1 : ∀ O, (wc0.alloc O).drew.cell? ⟨y2, 1, none⟩ = some (.slice A1 1 cc1) := fun O => (ha1.no ((Fr.refl No wc0).alloc O).drew).cell 1
    clear ha1 ha2
    go_upto_region 15 with fail
    go_cut [] from 28 to 62 (fun wx => Hid (Bx wx y1 (J : Int) [foldP (L.take (j + 1))] ∧ Bx wx y2 (J : Int) [foldP (L.reverse.take (j + 1))] ∧ Bx wx y3 (j : Int) [foldP ((rotL L r).take j)] ∧ Fr No w wx))
    case first =>
      go_region_with (go_at_call 22; refine HT1.out.mono ?_; rintro e w7 ⟨A7, c7, rfl, q0, q1, z0, z1, hbx, hbk, f7⟩; have HBX := Lib.hid hbx; have HBK := Lib.hid hbk; have HF7 := Lib.hid ((Fr.refl No wc0).drew.trans f7 fun _ _ h => h); clear hbx hbk f7)
      all_goals
        go_simp
        go_wp2_with fail
        go_meet
        exact Lib.hid ⟨(HS1.out.1.no HF7.out).other2 HBK.out (by have := HYY.out; omega) _ _, HBX.out, (HS1.out.2.2.1.no HF7.out).other2 HBK.out (by have := HYY.out; omega) _ _, ((HS1.out.2.2.2.trans HF7.out fun _ _ h => h).set_new (by have := HYY.out; omega) _).set_new (by have := HYY.out; omega) _⟩
    case rest =>
    have HS2 := hcut
    clear hcut x0 a0 a1 b0 b1 HT1 HS1
    rename World => wc1
    obtain ⟨va, ha1, ha2⟩ := HS2.out.2.2.1
    obtain ⟨A2, cc2, rfl, -⟩ := ha2.pr.form
    have HT2 : Hid (Calls Try.prog 22 #[.agg #[.int .i64 (j : Int), .slice A2 1 cc2], .slice (some ⟨wc1.heap.size, 0, none⟩) 1 1] (wc1.alloc (.cells #[.int .i64 xc] 2)).drew fun e w' => ∃ A c, e = .returned (.agg #[.int .i64 (J : Int), .slice A 1 c]) ∧
      w'.cell? ⟨y3, 0, none⟩ = some (.int .i64 (j : Int)) ∧ w'.cell? ⟨y3, 1, none⟩ = some (.slice A2 1 cc2) ∧ w'.frozen? ⟨y3, 0, none⟩ = false ∧ w'.frozen? ⟨y3, 1, none⟩ = false ∧
      Bx ((w'.setCell ⟨y3, 0, none⟩ (.int .i64 (J : Int))).setCell ⟨y3, 1, none⟩ (.slice A 1 c)) y3 (J : Int) [foldP ((rotL L r).take (j + 1))] ∧ Blk w' y3 39 #[.int .i64 (j : Int), .slice A2 1 cc2] ∧ Fr No wc1.drew w') := Lib.hid (take_box (w := wc1.drew) ha1 (ha2.no (Fr.refl No wc1).drew) HPC.out hic (by omega) HJ2.out HTC.out)
    have x0 : wc1.drew.cell? ⟨g, o + q, none⟩ = some (.int .i64 xc) := (HW.out _ HS2.out.2.2.2).2.2
    have a0 : wc1.drew.cell? ⟨y3, 0, none⟩ = some (.int .i64 (j : Int)) := ha1.cell 0
    have a1 : wc1.drew.cell? ⟨y3, 1, none⟩ = some (.slice A2 1 cc2) := ha1.cell 1
    have b0 : ∀ O, (wc1.alloc O).drew.cell? ⟨y3, 0, none⟩ = some (.int .i64 (j : Int)) := fun O => (ha1.no ((Fr.refl No wc1).alloc O).drew).cell 0
    have b1 : ∀ O, (wc1.alloc O).drew.cell? ⟨y3, 1, none⟩ = some (.slice A2 1 cc2) := fun O => (ha1.no ((Fr.refl No wc1).alloc O).drew).cell 1
    clear ha1 ha2
    go_upto_region 16 with fail
    go_region_with (go_at_call 22; refine HT2.out.mono ?_; rintro e w7 ⟨A7, c7, rfl, q0, q1, z0, z1, hbx, hbk, f7⟩; have HBX := Lib.hid hbx; have HBK := Lib.hid hbk; have HF7 := Lib.hid ((Fr.refl No wc1).drew.trans f7 fun _ _ h => h); clear hbx hbk f7)
    all_goals
      go_simp
      go_wp2_with fail
      have HS3 : Hid (Bx ((w7.setCell ⟨y3, 0, none⟩ (.int .i64 (J : Int))).setCell ⟨y3, 1, none⟩ (.slice A7 1 c7)) y1 (J : Int) [foldP (L.take (j + 1))] ∧ Bx ((w7.setCell ⟨y3, 0, none⟩ (.int .i64 (J : Int))).setCell ⟨y3, 1, none⟩ (.slice A7 1 c7)) y2 (J : Int) [foldP (L.reverse.take (j + 1))] ∧
        Bx ((w7.setCell ⟨y3, 0, none⟩ (.int .i64 (J : Int))).setCell ⟨y3, 1, none⟩ (.slice A7 1 c7)) y3 (J : Int) [foldP ((rotL L r).take (j + 1))] ∧ Fr No w ((w7.setCell ⟨y3, 0, none⟩ (.int .i64 (J : Int))).setCell ⟨y3, 1, none⟩ (.slice A7 1 c7))) :=
        Lib.hid ⟨(HS2.out.1.no HF7.out).other2 HBK.out (by have := HYY.out; omega) _ _, (HS2.out.2.1.no HF7.out).other2 HBK.out (by have := HYY.out; omega) _ _, HBX.out, ((HS2.out.2.2.2.trans HF7.out fun _ _ h => h).set_new (by have := HYY.out; omega) _).set_new (by have := HYY.out; omega) _⟩
      obtain ⟨g1, rfl⟩ : ∃ g1, gk = g1 + 1 := ⟨gk - 1, by omega⟩
      go_roundg g1
      case rel =>
        have hs := HS3.out
        rw [← HR.out] at hs
        exact Lib.hid ⟨j + 1, by go_num, by omega, hs.1.cast (by rw [← HJ2.out]), hs.2.1.cast (by rw [← HJ2.out]), hs.2.2.1.cast (by rw [← HJ2.out]), hs.2.2.2⟩
      all_goals omega
  · have hjn' : j = n := by omega
    subst hjn'
    have hLn := HLL.out
    obtain ⟨p, hp⟩ : ∃ p, foldP L = p := ⟨_, rfl⟩
    rw [List.take_of_length_le (by omega), hp] at hB1
    rw [List.take_of_length_le (by rw [List.length_reverse]; omega), show foldP L.reverse = p by rw [← hp]; exact foldP_perm (List.reverse_perm L) _] at hB2
    rw [List.take_of_length_le (by unfold rotL; rw [List.length_append, List.length_drop, List.length_take]; omega), show foldP (rotL L (k % j)) = p by rw [← hp]; exact foldP_perm (rotL_perm L _) _] at hB3
    obtain ⟨va, ha1, ha2⟩ := hB1
    obtain ⟨vb, hb1, hb2⟩ := hB2
    obtain ⟨vc, hc1, hc2⟩ := hB3
    obtain ⟨A1, d1, rfl, -⟩ := ha2.pr.form
    obtain ⟨A2, d2, rfl, -⟩ := hb2.pr.form
    obtain ⟨A3, d3, rfl, -⟩ := hc2.pr.form
    have HS17 : Hid (∀ w', Fr No wr w' → Calls Try.prog 24 #[.agg #[.int .i64 (j : Int), .slice A1 1 d1], .agg #[.int .i64 (j : Int), .slice A2 1 d2]] w' (TellsB true w')) := Lib.hid fun w' f' => by
      have := rsame_any (j : Int) (j : Int) [p] [p] _ _ w' (ha2.no f').pr (hb2.no f').pr
      rw [show sameA ⟨(j : Int), [p]⟩ ⟨(j : Int), [p]⟩ = true from sameA_iff.2 rfl] at this
      exact this
    have HS18 : Hid (∀ w', Fr No wr w' → Calls Try.prog 24 #[.agg #[.int .i64 (j : Int), .slice A1 1 d1], .agg #[.int .i64 (j : Int), .slice A3 1 d3]] w' (TellsB true w')) := Lib.hid fun w' f' => by
      have := rsame_any (j : Int) (j : Int) [p] [p] _ _ w' (ha2.no f').pr (hc2.no f').pr
      rw [show sameA ⟨(j : Int), [p]⟩ ⟨(j : Int), [p]⟩ = true from sameA_iff.2 rfl] at this
      exact this
    have HA1 := Lib.hid ha1
    have HA2 := Lib.hid ha2
    have HC1 := Lib.hid hc1
    have HF := Lib.hid hf
    have HP := Lib.hid hp
    obtain ⟨a0, a1, -, -⟩ := blk2 ha1
    obtain ⟨b0, b1, -, -⟩ := blk2 hb1
    have hjj : ¬ (j : Int) < (j : Int) := by omega
    clear ha1 ha2 hb1 hb2 hc1 hc2 hf hp hLn hjn hj
    go_upto_region 18 with (go_at_call 24; refine (HS17.out _ (Fr.refl _ _)).mono ?_; rintro e w8 ⟨rfl, f8⟩; have HF8 := Lib.hid f8; clear f8)
    clear a0 a1 b0 b1 hjj
    obtain ⟨a0, a1, -, -⟩ := blk2 (HA1.out.no HF8.out)
    obtain ⟨b0, b1, -, -⟩ := blk2 (HC1.out.no HF8.out)
    go_upto_region 19 with (go_at_call 24; refine (HS18.out _ HF8.out).mono ?_; rintro e w9 ⟨rfl, f9⟩; have HF9 := Lib.hid (HF8.out.trans f9 fun _ _ h => h); clear f9)
    clear a0 a1 b0 b1
    obtain ⟨a0, a1, -, -⟩ := blk2 (HA1.out.no HF9.out)
    by_cases hz : j = 0
    · subst hz
      go_upto_region 21 with fail
      go_quiet (fail)
      go_wp2_with fail
      go_ret
      exact ⟨by first | rfl | simp, (HF.out.trans HF9.out fun _ _ h => h).drewN _⟩
    · have hpos : (0 : Int) < (j : Int) := by omega
      obtain ⟨g, o, rfl, hg, x, hcx, hLx, -⟩ := HROW.out 0 (by omega)
      have hcx9 : w9.cell? ⟨g, o, none⟩ = some (.int .i64 x) := (cell_of_heap ((HF.out.trans HF9.out fun _ _ h => h).block g hg id)).trans hcx
      obtain ⟨pg, po, rfl, -, -, h5⟩ := (HA2.out.no HF9.out).pr.at_ (j := 0) (by simp)
      have h5 : Five w9 pg po p := by have := h5 0 (by simp); simpa using this
      obtain ⟨q0, q1, q2, q3, q4⟩ := h5
      have hbd : p.mn ≤ x ∧ x ≤ p.mx := by
        have hL0 : ∃ tl, L = x :: tl := by
          cases L with
          | nil => simp at hLx
          | cons y tl => simp at hLx; exact ⟨tl, by rw [hLx]⟩
        obtain ⟨tl, e⟩ := hL0
        have := foldP_first x tl
        rw [← e, HP.out] at this
        exact this
      obtain ⟨pa, ⟨ph, pl⟩, pn, px⟩ := p
      have g1 : (x < pn) = False := eq_false (by have := hbd.1; simp only at this; omega)
      have g2 : (px < x) = False := eq_false (by have := hbd.2; simp only at this; omega)
      have hN0 : (0 : Int) < (N : Int) := by omega
      clear hbd hLx hcx
      go_upto_region 21 with fail
      go_quiet (fail)
      go_wp2_with fail
      go_ret
      exact ⟨by first | rfl | simp, (HF.out.trans HF9.out fun _ _ h => h).drewN _⟩
end Go.Proofs.Ytgjpdagbbljmpaa
