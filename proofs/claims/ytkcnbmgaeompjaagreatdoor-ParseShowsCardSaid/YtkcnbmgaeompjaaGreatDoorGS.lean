/- Reading a query: an element of a GROUP BY. -/
import Derived.Test.YtkcnbmgaeompjaaGreatDoorGE
import Derived.Deep.LoopGhost
import Derived.Recover
import Derived.Deep.RegionHeld
import Derived.Test.YtkcnbmgaeompjaaGreatDoorGF
import Derived.Deep.RegionHeld3
namespace Go.Proofs.YtkcnbmgaeompjaaGreatDoor
open Go.RowKit Go.Maps
set_option linter.unusedVariables false

theorem row_put {α : Type} {E : EG α} (hE : Elem E) {wi x x' : World} {size y : Nat} {v : Value} {l : List α} (h : RowJ wi size E v l x) (f : Fr (fun k => k = y) x x') (hy : y < wi.heap.size) : RowJ wi size E v l x' :=
  RowE.mono h (fun k hk hkl => ⟨hk, f.block k hkl (fun e => by have e : k = y := e; omega)⟩) fun u cs hx => hE.mono _ _ _ _ _ _ hx fun k hk hkl => ⟨hk, f.block k hkl (fun e => by have e : k = y := e; omega)⟩
def ze66 : Array Value := #[.int .i64 0, .slice none 0 0, .slice none 0 0]
set_option maxRecDepth 100000 in
set_option maxHeartbeats 8000000 in
theorem elt_any {C : Cx} {w : World} {r : List Wd} {b : Bool} (h : Rd C w r b) (he : Ended r) : Calls Tryz.prog 66 #[rp C] w (RdP C w gpR (eltW r b)) := by
  have hd := h.lt
  have hg := h.glt
  obtain ⟨y, hy⟩ : ∃ y, w.heap.size = y := ⟨_, rfl⟩
  obtain ⟨w0, hw0⟩ : ∃ w0, w.alloc (.cells #[.int .i64 0, .slice none 0 0, .slice none 0 0] 66) = w0 := ⟨_, rfl⟩
  have f0 : Fr No w w0 := by rw [← hw0]; exact (Fr.refl No w).alloc _
  have hb0 : Blk w0 y 66 ze66 := by rw [← hw0, ← hy]; exact Blk.new w 66 _
  have hyd : y ≠ C.d := by omega
  have HS0 := Lib.hid (((St.start h he).no f0).more hb0 (stable_blk hyd))
  have HD := Lib.hid hd
  have HG := Lib.hid hg
  have HY := Lib.hid hy
  have HW0 := Lib.hid hw0
  have HYD := Lib.hid hyd
  have HYL : Hid (w.heap.size ≤ y) := Lib.hid (by omega)
  clear h he hd hg hy hw0 f0 hb0 hyd
  unfold rp
  go_enter Tryz.func66, Tryz.ntmps66
  go_upto_region 1 with fail
  rw [HW0.out, HY.out]
  go_wp2_with fail
  refine (of_any 1 w0).mono ?_
  rintro e wx ⟨⟨mv, rfl, hm⟩, f1⟩
  have HC := Lib.hid (sees_s (HS0.out.no f1) hm)
  unfold rp at HC
  clear hm f1
  go_wp2_with fail
  refine HC.out.mono ?_
  rintro e w2 ⟨rfl, hs, -⟩
  have HS2 := Lib.hid hs
  clear hs HC
  cases h4 : seesW (ofW 1) r with
  | true =>
    have E1 := Lib.hid h4
    clear h4
    have CA := Lib.hid (name_s HS2.out)
    unfold rp at CA
    go_wp2_with fail
    refine CA.out.mono ?_
    clear CA
    rintro e w4 hp
    cases hR : nameW r b with
    | bad cc p =>
      rw [hR] at hp
      obtain ⟨rfl, f⟩ := hp
      have HF := Lib.hid f
      have HV : Hid (eltW r b = .bad cc p) := Lib.hid (by have q0 := E1.out; simp only [eltW, q0, hR, if_true, PR.map, PR.then])
      clear hR f
      go_wp2_with fail
      exact ⟨rfl, St.bad HV.out HF.out⟩
    | ok t r1 b1 =>
      rw [hR] at hp
      obtain ⟨⟨v, rfl, rfl, ht8⟩, hs9, f9⟩ := hp
      have HS4 := Lib.hid hs9
      have E2 := Lib.hid hR
      have HV : Hid (eltW r b = .ok ⟨1, [t], []⟩ r1 b1) := Lib.hid (by have q0 := E1.out; simp only [eltW, q0, hR, if_true, PR.map, PR.then])
      obtain ⟨w5, hw5⟩ : ∃ w5, w4.alloc (.cells #[sv t] 9) = w5 := ⟨_, rfl⟩
      obtain ⟨z, hz⟩ : ∃ z, w4.heap.size = z := ⟨_, rfl⟩
      have f5 : Fr No w4 w5 := by rw [← hw5]; exact (Fr.refl No w4).alloc _
      have hg5 : Grow w4.heap.size 9 1 strG w5 (.slice (some ⟨z, 0, none⟩) 1 1) [t] := by
        rw [← hw5, ← hz]
        exact Grow.single strG_elem (w0 := w4) (Nat.le_refl _) (Nat.le_refl _) t [sv t] rfl ⟨rfl, by unfold maxLen; omega⟩ (by decide)
      have HROW : Hid (RowJ w4 1 strG (.slice (some ⟨z, 0, none⟩) 1 1) [t] w5) := Lib.hid (hg5.row strG_elem)
      have HYW : Hid (y < w4.heap.size) := Lib.hid HS4.out.j.2.lt
      have HWL : Hid (w.heap.size ≤ w4.heap.size) := Lib.hid HS4.out.fr.size
      have HS5 := Lib.hid (HS4.out.no f5)
      have HW5 := Lib.hid hw5
      have HZ := Lib.hid hz
      have q0 : (w4.alloc (.cells #[sv t] 9)).cell? ⟨y, 0, none⟩ = some (.int .i64 0) := by rw [hw5]; exact HS5.out.j.2.cell 0
      have q1 : (w4.alloc (.cells #[sv t] 9)).cell? ⟨y, 1, none⟩ = some (.slice none 0 0) := by rw [hw5]; exact HS5.out.j.2.cell 1
      have q2 : (w4.alloc (.cells #[sv t] 9)).cell? ⟨y, 2, none⟩ = some (.slice none 0 0) := by rw [hw5]; exact HS5.out.j.2.cell 2
      have p0 : (w4.alloc (.cells #[sv t] 9)).frozen? ⟨y, 0, none⟩ = false := by rw [hw5]; exact HS5.out.j.2.frozen 0
      have p1 : (w4.alloc (.cells #[sv t] 9)).frozen? ⟨y, 1, none⟩ = false := by rw [hw5]; exact HS5.out.j.2.frozen 1
      have p2 : (w4.alloc (.cells #[sv t] 9)).frozen? ⟨y, 2, none⟩ = false := by rw [hw5]; exact HS5.out.j.2.frozen 2
      clear hw5 hz f5 hg5 ht8
      clear hR hs9 f9
      go_wp2_with fail
      rw [HW5.out, HZ.out]
      have z0 : w5.cell? ⟨y, 0, none⟩ = some (.int .i64 0) := HS5.out.j.2.cell 0
      have z1 : w5.cell? ⟨y, 1, none⟩ = some (.slice none 0 0) := HS5.out.j.2.cell 1
      have z2 : w5.cell? ⟨y, 2, none⟩ = some (.slice none 0 0) := HS5.out.j.2.cell 2
      refine bodyPost_ret (v := .agg #[.int .i64 1, .slice (some ⟨z, 0, none⟩) 1 1, .slice none 0 0]) (by simp [results, Tryz.results66, go_sem, z0, z1, z2]) rfl ?_
      have FZ := fr_set (i := 2) (u := .slice none 0 0) (fr_set (i := 1) (u := .slice (some ⟨z, 0, none⟩) 1 1) (fr_set (i := 0) (u := .int .i64 1) (Fr.refl (fun k => k = y) w5)))
      exact HS5.out.okc FZ HYL.out HD.out HG.out HV.out ⟨_, _, rfl, i64_of 1 (by decide), row_up strG_elem (row_put strG_elem HROW.out FZ HYW.out) HWL.out, RowE.nil _ _ _ _⟩
  | false =>
    have E1 := Lib.hid h4
    clear h4
    go_wp2_with fail
    refine (says_any [82, 79, 76, 76, 85, 80] w2).mono ?_
    rintro e wx ⟨⟨mv, rfl, hm⟩, f1⟩
    have HC := Lib.hid (takes_s (HS2.out.no f1) hm (inner_says _))
    unfold rp at HC
    clear hm f1
    go_wp2_with fail
    refine HC.out.mono ?_
    clear HC
    rintro e w5 ⟨rfl, ht, hf, -⟩
    cases hn : seesW (saysW [82, 79, 76, 76, 85, 80]) r with
    | true =>
      have HS5 := Lib.hid (ht hn)
      have E5 := Lib.hid hn
      clear ht hf hn
      have CA := Lib.hid (plist_s HS5.out)
      unfold rp at CA
      go_wp2_with fail
      refine CA.out.mono ?_
      clear CA
      rintro e w6 hp
      cases hR : lstW r.tail b with
      | bad cc p =>
        rw [hR] at hp
        obtain ⟨rfl, f⟩ := hp
        have HF := Lib.hid f
        have HV : Hid (eltW r b = .bad cc p) := Lib.hid (by have q0 := E1.out; have q1 := E5.out; simp only [eltW, q0, q1, hR, PR.then, PR.map, Bool.false_eq_true, if_false, if_true])
        clear hR f
        go_wp2_with fail
        exact ⟨rfl, St.bad HV.out HF.out⟩
      | ok l r1 b1 =>
        rw [hR] at hp
        obtain ⟨⟨v, rfl, hv⟩, hs9, f9⟩ := hp
        have HSL := Lib.hid hs9
        have EL := Lib.hid hR
        have HV : Hid (eltW r b = .ok ⟨2, l, []⟩ r1 b1) := Lib.hid (by have q0 := E1.out; have q1 := E5.out; simp only [eltW, q0, q1, hR, PR.then, PR.map, Bool.false_eq_true, if_false, if_true])
        obtain ⟨A, nn, cc, rfl, hnn⟩ := row_form hv
        have HROW : Hid (RowJ w5 1 strG (.slice A nn cc) l w6) := Lib.hid hv
        have HYW : Hid (y < w5.heap.size) := Lib.hid HS5.out.j.2.lt
        have HWL : Hid (w.heap.size ≤ w5.heap.size) := Lib.hid HS5.out.fr.size
        clear hv hnn
        clear hR hs9 f9
        have hbn := HSL.out.j.2
        have z0 : w6.cell? ⟨y, 0, none⟩ = some (.int .i64 0) := hbn.cell 0
        have z1 : w6.cell? ⟨y, 1, none⟩ = some (.slice none 0 0) := hbn.cell 1
        have z2 : w6.cell? ⟨y, 2, none⟩ = some (.slice none 0 0) := hbn.cell 2
        have x0 := hbn.frozen 0
        have x1 := hbn.frozen 1
        have x2 := hbn.frozen 2
        clear hbn
        go_wp2
        refine bodyPost_ret (v := .agg #[.int .i64 2, .slice A nn cc, .slice none 0 0]) (by simp [results, Tryz.results66, go_sem, z0, z1, z2]) rfl ?_
        have FZ := fr_set (i := 2) (u := .slice none 0 0) (fr_set (i := 1) (u := .slice A nn cc) (fr_set (i := 0) (u := .int .i64 2) (Fr.refl (fun k => k = y) w6)))
        exact HSL.out.okc FZ HYL.out HD.out HG.out HV.out ⟨_, _, rfl, i64_of 2 (by decide), row_up strG_elem (row_put strG_elem HROW.out FZ HYW.out) HWL.out, RowE.nil _ _ _ _⟩
    | false =>
      have HS5 := Lib.hid (hf hn)
      have E5 := Lib.hid hn
      clear ht hf hn
      go_wp2_with fail
      refine (says_any [67, 85, 66, 69] w5).mono ?_
      rintro e wx ⟨⟨mv, rfl, hm⟩, f1⟩
      have HC := Lib.hid (takes_s (HS5.out.no f1) hm (inner_says _))
      unfold rp at HC
      clear hm f1
      go_wp2_with fail
      refine HC.out.mono ?_
      clear HC
      rintro e w7 ⟨rfl, ht, hf, -⟩
      cases hn : seesW (saysW [67, 85, 66, 69]) r with
      | true =>
        have HS7 := Lib.hid (ht hn)
        have E7 := Lib.hid hn
        clear ht hf hn
        have CA := Lib.hid (plist_s HS7.out)
        unfold rp at CA
        go_wp2_with fail
        refine CA.out.mono ?_
        clear CA
        rintro e w8 hp
        cases hR : lstW r.tail b with
        | bad cc p =>
          rw [hR] at hp
          obtain ⟨rfl, f⟩ := hp
          have HF := Lib.hid f
          have HV : Hid (eltW r b = .bad cc p) := Lib.hid (by have q0 := E1.out; have q1 := E5.out; have q2 := E7.out; simp only [eltW, q0, q1, q2, hR, PR.then, PR.map, Bool.false_eq_true, if_false, if_true])
          clear hR f
          go_wp2_with fail
          exact ⟨rfl, St.bad HV.out HF.out⟩
        | ok l r1 b1 =>
          rw [hR] at hp
          obtain ⟨⟨v, rfl, hv⟩, hs9, f9⟩ := hp
          have HSL := Lib.hid hs9
          have EL := Lib.hid hR
          have HV : Hid (eltW r b = .ok ⟨3, l, []⟩ r1 b1) := Lib.hid (by have q0 := E1.out; have q1 := E5.out; have q2 := E7.out; simp only [eltW, q0, q1, q2, hR, PR.then, PR.map, Bool.false_eq_true, if_false, if_true])
          obtain ⟨A, nn, cc, rfl, hnn⟩ := row_form hv
          have HROW : Hid (RowJ w7 1 strG (.slice A nn cc) l w8) := Lib.hid hv
          have HYW : Hid (y < w7.heap.size) := Lib.hid HS7.out.j.2.lt
          have HWL : Hid (w.heap.size ≤ w7.heap.size) := Lib.hid HS7.out.fr.size
          clear hv hnn
          clear hR hs9 f9
          have hbn := HSL.out.j.2
          have z0 : w8.cell? ⟨y, 0, none⟩ = some (.int .i64 0) := hbn.cell 0
          have z1 : w8.cell? ⟨y, 1, none⟩ = some (.slice none 0 0) := hbn.cell 1
          have z2 : w8.cell? ⟨y, 2, none⟩ = some (.slice none 0 0) := hbn.cell 2
          have x0 := hbn.frozen 0
          have x1 := hbn.frozen 1
          have x2 := hbn.frozen 2
          clear hbn
          go_wp2
          refine bodyPost_ret (v := .agg #[.int .i64 3, .slice A nn cc, .slice none 0 0]) (by simp [results, Tryz.results66, go_sem, z0, z1, z2]) rfl ?_
          have FZ := fr_set (i := 2) (u := .slice none 0 0) (fr_set (i := 1) (u := .slice A nn cc) (fr_set (i := 0) (u := .int .i64 3) (Fr.refl (fun k => k = y) w8)))
          exact HSL.out.okc FZ HYL.out HD.out HG.out HV.out ⟨_, _, rfl, i64_of 3 (by decide), row_up strG_elem (row_put strG_elem HROW.out FZ HYW.out) HWL.out, RowE.nil _ _ _ _⟩
      | false =>
        have HS7 := Lib.hid (hf hn)
        have E7 := Lib.hid hn
        clear ht hf hn
        have CA := Lib.hid (all_s HS7.out [[71, 82, 79, 85, 80, 73, 78, 71], [83, 69, 84, 83], [40]] 3 rfl (by decide) #[sv [71, 82, 79, 85, 80, 73, 78, 71], sv [83, 69, 84, 83], sv [40]] rfl)
        unfold rp at CA
        go_wp2_with fail
        refine CA.out.mono ?_
        clear CA
        rintro e wp hp
        cases hR : allW [[71, 82, 79, 85, 80, 73, 78, 71], [83, 69, 84, 83], [40]] r b with
        | bad cc p =>
          rw [hR] at hp
          obtain ⟨rfl, f⟩ := hp
          have HF := Lib.hid f
          have HV : Hid (eltW r b = .bad cc p) := Lib.hid (by have q0 := E1.out; have q1 := E5.out; have q2 := E7.out; simp only [eltW, q0, q1, q2, hR, PR.then, Bool.false_eq_true, if_false])
          clear hR f
          go_wp2_with fail
          exact ⟨rfl, St.bad HV.out HF.out⟩
        | ok u r1 b1 =>
          rw [hR] at hp
          obtain ⟨⟨v, rfl, rfl⟩, hs9, -⟩ := hp
          have HSP := Lib.hid hs9
          have EP := Lib.hid hR
          clear hR hs9
          have CA := Lib.hid (HSP.out.call (lsets_any HSP.out.rd HSP.out.en) (keeps_list keeps_set))
          unfold rp at CA
          go_wp2_with fail
          refine CA.out.mono ?_
          clear CA
          rintro e wq hp
          cases hR : listW 64 setW r1 b1 with
          | bad cc p =>
            rw [hR] at hp
            obtain ⟨rfl, f⟩ := hp
            have HF := Lib.hid f
            have HV : Hid (eltW r b = .bad cc p) := Lib.hid (by have q0 := E1.out; have q1 := E5.out; have q2 := E7.out; have q3 := EP.out; simp only [eltW, q0, q1, q2, q3, hR, PR.then, Bool.false_eq_true, if_false])
            clear hR f
            go_wp2_with fail
            exact ⟨rfl, St.bad HV.out HF.out⟩
          | ok ss r2 b2 =>
            rw [hR] at hp
            obtain ⟨⟨v, rfl, hv⟩, hs9, f9⟩ := hp
            have HSQ0 := Lib.hid hs9
            have EQ := Lib.hid hR
            obtain ⟨A, nn, cc, rfl, hnn⟩ := row_form hv
            have HSQ := Lib.hid (HSQ0.out.more (J' := RowJ wp 1 lsG (.slice A nn cc) ss) hv (stable_row lsG_elem (Nat.lt_of_lt_of_le HD.out HSP.out.fr.size)))
            have HYW : Hid (y < wp.heap.size) := Lib.hid HSP.out.j.2.lt
            have HWL : Hid (w.heap.size ≤ wp.heap.size) := Lib.hid HSP.out.fr.size
            clear hv hnn
            clear hR hs9 f9
            have CA := Lib.hid (all_s HSQ.out [[41]] 1 rfl (by decide) #[sv [41]] rfl)
            unfold rp at CA
            go_wp2_with fail
            refine CA.out.mono ?_
            clear CA
            rintro e wr hp
            cases hR : allW [[41]] r2 b2 with
            | bad cc p =>
              rw [hR] at hp
              obtain ⟨rfl, f⟩ := hp
              have HF := Lib.hid f
              have HV : Hid (eltW r b = .bad cc p) := Lib.hid (by have q0 := E1.out; have q1 := E5.out; have q2 := E7.out; have q3 := EP.out; have q4 := EQ.out; simp only [eltW, q0, q1, q2, q3, q4, hR, PR.then, PR.map, Bool.false_eq_true, if_false])
              clear hR f
              go_wp2_with fail
              exact ⟨rfl, St.bad HV.out HF.out⟩
            | ok u r3 b3 =>
              rw [hR] at hp
              obtain ⟨⟨v, rfl, rfl⟩, hs9, -⟩ := hp
              have HSR := Lib.hid hs9
              have ER := Lib.hid hR
              clear hR hs9
              have HV : Hid (eltW r b = .ok ⟨4, [], ss⟩ r3 b3) := Lib.hid (by have q0 := E1.out; have q1 := E5.out; have q2 := E7.out; have q3 := EP.out; have q4 := EQ.out; have q5 := ER.out; simp only [eltW, q0, q1, q2, q3, q4, q5, PR.then, PR.map, Bool.false_eq_true, if_false])
              have hbn := HSR.out.j.1.2
              have z0 : wr.cell? ⟨y, 0, none⟩ = some (.int .i64 0) := hbn.cell 0
              have z1 : wr.cell? ⟨y, 1, none⟩ = some (.slice none 0 0) := hbn.cell 1
              have z2 : wr.cell? ⟨y, 2, none⟩ = some (.slice none 0 0) := hbn.cell 2
              have x0 := hbn.frozen 0
              have x1 := hbn.frozen 1
              have x2 := hbn.frozen 2
              clear hbn
              go_wp2
              refine bodyPost_ret (v := .agg #[.int .i64 4, .slice none 0 0, .slice A nn cc]) (by simp [results, Tryz.results66, go_sem, z0, z1, z2]) rfl ?_
              have FZ := fr_set (i := 2) (u := .slice A nn cc) (fr_set (i := 1) (u := .slice none 0 0) (fr_set (i := 0) (u := .int .i64 4) (Fr.refl (fun k => k = y) wr)))
              exact HSR.out.okc FZ HYL.out HD.out HG.out HV.out ⟨_, _, rfl, i64_of 4 (by decide), RowE.nil _ _ _ _, row_up lsG_elem (row_put lsG_elem HSR.out.j.2 FZ HYW.out) HWL.out⟩
end Go.Proofs.YtkcnbmgaeompjaaGreatDoor
/- Reading a query: a list of groups. -/
namespace Go.Proofs.YtkcnbmgaeompjaaGreatDoor
open Go.RowKit Go.Maps
set_option linter.unusedVariables false

set_option maxRecDepth 100000 in
set_option maxHeartbeats 4000000 in
theorem lgroups_any {C : Cx} {w : World} {r : List Wd} {b : Bool} (h : Rd C w r b) (he : Ended r) : Calls Tryz.prog 65 #[rp C, .int .i64 16, .func (.func 66) #[rp C] #[]] w (RdP C w (rowR 3 gpG) (listW 16 eltW r b)) := by
  have hdl := h.lt
  obtain ⟨B, hB⟩ : ∃ B, w.heap.size = B := ⟨_, rfl⟩
  rw [hB] at hdl
  have HB := Lib.hid hB
  have HD := Lib.hid hdl
  have HRL : Hid (r.length ≤ 100000) := Lib.hid (by obtain ⟨a, e⟩ := h.suf; have := h.len.2.2; rw [e, List.length_append] at this; omega)
  have HK : Hid (Keeps eltW) := Lib.hid keeps_elt
  have HS0 := Lib.hid (St.start h he)
  have HONE : Hid (∀ wi J r b, St C w J wi r b → Calls Tryz.prog 66 #[rp C] wi (SP C w J wi gpR (eltW r b))) := Lib.hid fun wi J r b hs => hs.call (elt_any hs.rd hs.en) keeps_elt
  have C0 := Lib.hid (HONE.out w Tr r b HS0.out)
  unfold rp at *
  clear h he hdl hB
  go_enter Tryz.func65, Tryz.ntmps65
  go_wp2_with fail
  refine C0.out.mono ?_
  clear C0
  rintro e w1 hp
  cases hR : eltW r b with
  | bad c p =>
    rw [hR] at hp
    obtain ⟨rfl, f⟩ := hp
    have HF := Lib.hid f
    have HV : Hid (listW 16 eltW r b = .bad c p) := Lib.hid (by simp only [listW, hR, PR.then])
    clear hR f
    go_wp2_with fail
    exact ⟨rfl, St.bad HV.out HF.out⟩
  | ok x r1 b1 =>
    rw [hR] at hp
    obtain ⟨⟨v, rfl, hv⟩, hs, f1⟩ := hp
    have hkl := (HK.out _ _ _ _ _ HS0.out.en hR).2
    have HV : Hid (listW 16 eltW r b = (moreW eltW (r1.length + 1) [x] r1 b1).then fun l r2 b2 => .ok l r2 (b2 || decide (16 < l.length))) := Lib.hid (by simp only [listW, hR, PR.then])
    obtain ⟨v1, A1, n1, c1, A2, n2, c2, rfl, hE⟩ := form_gp hv
    -- the row of one
    obtain ⟨w2, hw2⟩ : ∃ w2, w1.alloc (.cells #[.int .i64 v1, .slice A1 n1 c1, .slice A2 n2 c2] 66) = w2 := ⟨_, rfl⟩
    have f2 : Fr No w1 w2 := by rw [← hw2]; exact (Fr.refl No w1).alloc _
    have hg2 : Grow B 66 3 gpG w2 (.slice (some ⟨w1.heap.size, 0, none⟩) 1 1) [x] := by
      rw [← hw2]
      exact Grow.single gpG_elem (w0 := w) (Nat.le_of_eq HB.out.symm) f1.size x [.int .i64 v1, .slice A1 n1 c1, .slice A2 n2 c2] rfl hE (by decide)
    have HS2 := Lib.hid (hs.no f2)
    have HG2 := Lib.hid hg2
    have HW2 := Lib.hid hw2
    have HR1 : Hid (r1.length ≤ 100000) := Lib.hid (by have := HRL.out; omega)
    obtain ⟨y1, hy1⟩ : ∃ y1, w1.heap.size = y1 := ⟨_, rfl⟩
    rw [hy1] at HG2
    have HY1 := Lib.hid hy1
    clear hR hs f1 hv hE hw2 f2 hg2 hkl hy1
    go_wp2_with fail
    rw [HW2.out, HY1.out]
    go_loopg [7] r1.length (fun k r7 wr => Hid (∃ acc r2 b2, Grow B 66 3 gpG wr r7 acc ∧ St C w Tr wr r2 b2 ∧ r2.length ≤ k ∧ acc.length + r2.length ≤ 100001 ∧ moreW eltW (r1.length + 1) [x] r1 b1 = moreW eltW (k + 1) acc r2 b2))
    case atStart => exact Lib.hid ⟨[x], r1, b1, HG2.out, HS2.out, Nat.le_refl _, by have := HR1.out; simp; omega, rfl⟩
    case round =>
      obtain ⟨acc, r2, b2, hg, hs, hle, hlen, hm⟩ := hrel.out
      obtain ⟨A, c, rfl⟩ := hg.len
      have HM := Lib.hid hm
      have HG := Lib.hid hg
      have HSR := Lib.hid hs
      obtain ⟨n, hn⟩ : ∃ n, acc.length = n := ⟨_, rfl⟩
      rw [hn] at HG hlen
      have HN := Lib.hid hn
      simp only [hn]
      clear hg hs hm hrel hn
      go_wp2_with fail
      refine (says_any [44] wr).mono ?_
      rintro e w3 ⟨⟨mv, rfl, hmt⟩, f3⟩
      have HC := Lib.hid (takes_s (HSR.out.no f3) hmt (inner_says _))
      unfold rp at HC
      have HG3 := Lib.hid (HG.out.keep gpG_elem f3 (fun _ h => h.elim))
      clear hmt f3
      go_wp2_with fail
      refine HC.out.mono ?_
      clear HC
      rintro e w4 ⟨rfl, ht, hf, f4⟩
      have HG4 := Lib.hid (HG3.out.keep gpG_elem f4 (fun k h => by have := HD.out; have h : k = C.d := h; omega))
      clear f4 HG3 HG
      cases hc : seesW (saysW [44]) r2 with
      | true =>
        have HS4 := Lib.hid (ht hc)
        have htl := (HSR.out.en.sees (inner_says _) hc).2
        have HM2 : Hid (moreW eltW (r1.length + 1) [x] r1 b1 = (eltW r2.tail b2).then fun a => moreW eltW gk (acc ++ [a])) := Lib.hid (by
          rw [HM.out]
          show (if seesW (saysW [44]) r2 = true then _ else _) = _
          rw [if_pos hc])
        have C1 := Lib.hid (HONE.out w4 Tr r2.tail b2 HS4.out)
        clear ht hf hc HM HSR
        go_wp2_with fail
        refine C1.out.mono ?_
        clear C1
        rintro e w5 hp
        cases hR : eltW r2.tail b2 with
        | bad c p =>
          rw [hR] at hp
          obtain ⟨rfl, f⟩ := hp
          have HF := Lib.hid f
          have HV2 : Hid (listW 16 eltW r b = .bad c p) := Lib.hid (by rw [HV.out, HM2.out, hR]; rfl)
          clear hR f
          go_wp2_with fail
          exact ⟨rfl, St.bad HV2.out HF.out⟩
        | ok x' r3 b3 =>
          rw [hR] at hp
          obtain ⟨⟨v, rfl, hv⟩, hs5, f5⟩ := hp
          have hkl := (HK.out _ _ _ _ _ HS4.out.en hR).2
          have HM3 : Hid (moreW eltW (r1.length + 1) [x] r1 b1 = moreW eltW gk (acc ++ [x']) r3 b3) := Lib.hid (by rw [HM2.out, hR]; rfl)
          obtain ⟨v1, A1, n1, c1, A2, n2, c2, rfl, hE⟩ := form_gp hv
          have hg5 := HG4.out.keep gpG_elem f5 (fun k h => by have := HD.out; have h : k = C.d := h; omega)
          rw [← HN.out] at hg5
          obtain ⟨A', c', w6, hrun, hg6, hfr6, hlt6⟩ := Grow.more (bytes := 56) gpG_elem (w0 := w4) hg5 (by have := HS4.out.fr.size; rw [← HB.out]; exact this) f5.size (fun k hk => (HG4.out.lt k (by rw [← HN.out]; exact hk)).2) 25 Tryz.underlying25 (.agg #[.int .i64 0, .slice none 0 0, .slice none 0 0]) (by kernel_rfl) rfl (by decide) x' [.int .i64 v1, .slice A1 n1 c1, .slice A2 n2 c2] rfl (by simp [Value.oneCell']) hE (by rw [HN.out]; omega) (by rw [HN.out]; unfold maxLen; omega)
          have hrdy : Rd C w6 r3 b3 := hs5.rd.own (v := .slice A acc.length c) hfr6 (fun k hk => (HG4.out.lt k (by rw [← HN.out]; exact hk)).1) (by have := HD.out; omega) (by have h1 := HS0.out.rd.glt; rw [HB.out] at h1; exact h1)
          have hfr : Fr (Only C.d) w w6 := hs5.fr.own hfr6 (fun k hk => by rw [HB.out]; exact (HG4.out.lt k (by rw [← HN.out]; exact hk)).1)
          have HS6 : Hid (St C w Tr w6 r3 b3) := Lib.hid ⟨hrdy, hfr, hs5.en, trivial, stable_tr C⟩
          have HG6 := Lib.hid hg6
          have HRUN := Lib.hid hrun
          rw [HN.out] at HG6 HRUN
          clear hR hs5 f5 hv hE hg5 hg6 hfr6 hlt6 hrdy hfr
          go_wp2_with (at_builtin; refine wpList_add rfl _ _ _ _ rfl _ _ _ _ rfl rfl (HRUN.out _) ?_)
          obtain ⟨g1, rfl⟩ : ∃ g1, gk = g1 + 1 := ⟨gk - 1, by omega⟩
          go_roundg g1
          case rel => exact Lib.hid ⟨acc ++ [x'], r3, b3, HG6.out, HS6.out, by omega, by simp [HN.out]; omega, HM3.out⟩
          all_goals omega
      | false =>
        have HS4 := Lib.hid (hf hc)
        have HM2 : Hid (moreW eltW (r1.length + 1) [x] r1 b1 = .ok acc r2 b2) := Lib.hid (by
          rw [HM.out]
          show (if seesW (saysW [44]) r2 = true then _ else _) = _
          rw [if_neg (by rw [hc]; decide)])
        have hrow := HG4.out
        rw [← HN.out] at hrow
        have hrow2 := hrow.row gpG_elem
        rw [HN.out] at hrow2
        have HROW : Hid (RowE (fun k => w.heap.size ≤ k) w4 3 (gpG (fun k => w.heap.size ≤ k) w4) (.slice A n c) acc) := Lib.hid (by rw [HB.out]; exact hrow2)
        have HV2 : Hid (listW 16 eltW r b = .ok acc r2 (b2 || decide (16 < n))) := Lib.hid (by rw [HV.out, HM2.out, ← HN.out]; rfl)
        have hrd := HS4.out.rd
        have c2 : w4.cell? ⟨C.d, 2, none⟩ = some (.bool b2) := hrd.blk.cell 2
        have x2 := hrd.blk.frozen 2
        have HEND : Hid (∀ bb, bb = (b2 || decide (16 < n)) → RdP C w (rowR 3 gpG) (listW 16 eltW r b) (.returned (.slice A n c)) (w4.setCell ⟨C.d, 2, none⟩ (.bool bb))) := Lib.hid fun bb hbb => by
          have f5 : Fr (Only C.d) w4 (w4.setCell ⟨C.d, 2, none⟩ (.bool bb)) := (Fr.refl (Only C.d) w4).setCell (p := ⟨C.d, 2, none⟩) (fun _ => rfl) _
          rw [HV2.out, ← hbb]
          refine ⟨HS4.out.fr.trans f5 fun _ _ h => h, ⟨_, rfl, ?_⟩, hrd.turn f5 (hrd.blk.set_ 2 _) hrd.suf⟩
          exact HROW.out.mono (fun k hk hkl => ⟨hk, f5.block k hkl (fun e => by have h1 := HD.out; have h2 := HB.out; have e : k = C.d := e; omega)⟩) fun y ys h => gpG_elem.mono _ _ _ _ _ _ h (fun k hk hkl => ⟨hk, f5.block k hkl (fun e => by have h1 := HD.out; have h2 := HB.out; have e : k = C.d := e; omega)⟩)
        clear ht hf hc HM HSR hrow hrow2 hrd hlen
        cases b2 with
        | true =>
          have HX := Lib.hid (HEND.out true (by rw [Bool.true_or]))
          go_wp2
          go_ret
          exact HX.out
        | false =>
          have HX := Lib.hid (HEND.out (decide ((16 : Int) < (n : Int))) (by rw [Bool.false_or]; exact decide_eq_decide.2 (by omega)))
          go_wp2
          all_goals
            go_ret
            exact HX.out
end Go.Proofs.YtkcnbmgaeompjaaGreatDoor
/- Reading a query: conditions. -/
namespace Go.Proofs.YtkcnbmgaeompjaaGreatDoor
open Go.RowKit Go.Maps
set_option linter.unusedVariables false

theorem cd_form {K : Nat → Prop} {w : World} {c : Cd} {v : Value} (h : CdAt K w c v) : ∃ p, v = .pointer p := by
  cases c with
  | none => exact ⟨none, h⟩
  | node k l r col op vals => obtain ⟨g, o, L, R, V, e, _⟩ := h; exact ⟨_, e⟩
theorem cd_up {w wi wj : World} {c : Cd} {v : Value} (h : CdAt (fun k => wi.heap.size ≤ k) wj c v) (hw : w.heap.size ≤ wi.heap.size) : CdAt (fun k => w.heap.size ≤ k) wj c v := h.mono fun k hk _ => ⟨by omega, rfl⟩
theorem cd_no {B : Nat} {w w' : World} {c : Cd} {v : Value} (h : CdAt (fun k => B ≤ k) w c v) (f : Fr No w w') : CdAt (fun k => B ≤ k) w' c v := h.mono fun k hk hkl => ⟨hk, f.block k hkl id⟩
def CdJ (w : World) (c : Cd) (v : Value) (x : World) : Prop := CdAt (fun k => w.heap.size ≤ k) x c v
theorem stable_cdj {C : Cx} {w : World} {c : Cd} {v : Value} (hB : C.d < w.heap.size) : Stable C (CdJ w c v) := stable_cd hB
set_option maxRecDepth 100000 in
set_option maxHeartbeats 8000000 in
theorem chain150 {C : Cx} {w : World} {r : List Wd} {b : Bool} (P : Pa Cd) (hk : Keeps P) (n : Nat) (hone : ∀ w r b, Rd C w r b → Ended r → r.length ≤ n → Calls Tryz.prog 150 #[rp C] w (RdP C w cdR (P r b))) (k : Int) (hk64 : i64 k) (kw : Tx) (h : Rd C w r b) (he : Ended r) (hn : r.length ≤ n) :
    Calls Tryz.prog 118 #[rp C, .int .i64 k, sv kw, .func (.func 150) #[rp C] #[]] w (RdP C w cdR (chainW k kw P r b)) := by
  have HD := Lib.hid h.lt
  have HG := Lib.hid h.glt
  have HS0 := Lib.hid (St.start h he)
  have HK := Lib.hid hk
  have HK64 := Lib.hid hk64
  have HN := Lib.hid hn
  have HONE : Hid (∀ wi J r b, St C w J wi r b → r.length ≤ n → Calls Tryz.prog 150 #[rp C] wi (SP C w J wi cdR (P r b))) := Lib.hid fun wi J r b hs hl => hs.call (hone wi r b hs.rd hs.en hl) hk
  have C0 := Lib.hid (HONE.out w Tr r b HS0.out hn)
  unfold rp at *
  clear h he hk hk64 hn hone
  go_enter Tryz.func118, Tryz.ntmps118
  go_wp2_with fail
  refine C0.out.mono ?_
  clear C0
  rintro e w1 hp
  cases hR : P r b with
  | bad c p =>
    rw [hR] at hp
    obtain ⟨rfl, f⟩ := hp
    have HF := Lib.hid f
    have HV : Hid (chainW k kw P r b = .bad c p) := Lib.hid (by simp only [chainW, hR, PR.then])
    clear hR f
    go_wp2_with fail
    exact ⟨rfl, St.bad HV.out HF.out⟩
  | ok x r1 b1 =>
    rw [hR] at hp
    obtain ⟨⟨v, rfl, hv⟩, hs, f1⟩ := hp
    have hkl := (HK.out _ _ _ _ _ HS0.out.en hR).2
    have HV : Hid (chainW k kw P r b = linkW k kw P (r1.length + 1) x r1 b1) := Lib.hid (by simp only [chainW, hR, PR.then])
    have hv : CdAt (fun k => w.heap.size ≤ k) w1 x v := hv
    obtain ⟨p, rfl⟩ := cd_form hv
    have HS1 := Lib.hid hs
    have HC1 := Lib.hid hv
    have HR1 : Hid (r1.length ≤ n) := Lib.hid (by have := HN.out; omega)
    clear hR hs f1 hv hkl
    go_wp2_with fail
    go_loopg [9] r1.length (fun g r9 wr => Hid (∃ c r2 b2, CdJ w c r9 wr ∧ St C w Tr wr r2 b2 ∧ r2.length ≤ g ∧ r2.length ≤ n ∧ linkW k kw P (r1.length + 1) x r1 b1 = linkW k kw P (g + 1) c r2 b2))
    case atStart => exact Lib.hid ⟨x, r1, b1, HC1.out, HS1.out, Nat.le_refl _, HR1.out, rfl⟩
    case round =>
      obtain ⟨c, r2, b2, hc, hs, hle, hln, hm⟩ := hrel.out
      obtain ⟨p2, rfl⟩ := cd_form hc
      have HM := Lib.hid hm
      have HSR := Lib.hid (hs.more (J' := CdJ w c (.pointer p2)) hc (stable_cdj HD.out))
      clear hs hm hrel hc
      go_wp2_with fail
      refine (says_any kw wr).mono ?_
      rintro e w3 ⟨⟨mv, rfl, hmt⟩, f3⟩
      have HC := Lib.hid (takes_s (HSR.out.no f3) hmt (inner_says _))
      unfold rp at HC
      clear hmt f3
      go_wp2_with fail
      refine HC.out.mono ?_
      clear HC
      rintro e w4 ⟨rfl, ht, hf, -⟩
      cases hc : seesW (saysW kw) r2 with
      | true =>
        have HS4 := Lib.hid (ht hc)
        have htl := (HSR.out.en.sees (inner_says _) hc).2
        have HM2 : Hid (linkW k kw P (r1.length + 1) x r1 b1 = (P r2.tail b2).then fun d => linkW k kw P gk (.node k c d [] 0 [])) := Lib.hid (by
          rw [HM.out]
          show (if seesW (saysW kw) r2 = true then _ else _) = _
          rw [if_pos hc])
        have C1 := Lib.hid (HONE.out w4 _ r2.tail b2 HS4.out (by omega))
        clear ht hf hc HM HSR
        go_wp2_with fail
        refine C1.out.mono ?_
        clear C1
        rintro e w5 hp
        cases hR : P r2.tail b2 with
        | bad cc pp =>
          rw [hR] at hp
          obtain ⟨rfl, f⟩ := hp
          have HF := Lib.hid f
          have HV2 : Hid (chainW k kw P r b = .bad cc pp) := Lib.hid (by rw [HV.out, HM2.out, hR]; rfl)
          clear hR f
          go_wp2_with fail
          exact ⟨rfl, St.bad HV2.out HF.out⟩
        | ok d r3 b3 =>
          rw [hR] at hp
          obtain ⟨⟨v, rfl, hv⟩, hs5, f5⟩ := hp
          have hkl := (HK.out _ _ _ _ _ HS4.out.en hR).2
          have HM3 : Hid (linkW k kw P (r1.length + 1) x r1 b1 = linkW k kw P gk (.node k c d [] 0 []) r3 b3) := Lib.hid (by rw [HM2.out, hR]; rfl)
          have hv : CdAt (fun k => w4.heap.size ≤ k) w5 d v := hv
          obtain ⟨p5, rfl⟩ := cd_form hv
          obtain ⟨w6, hw6⟩ : ∃ w6, w5.alloc (.cells #[.int .i64 k, .pointer p2, .pointer p5, .string ⟨#[]⟩, .int .i64 0, .slice none 0 0] 50) = w6 := ⟨_, rfl⟩
          obtain ⟨z, hz⟩ : ∃ z, w5.heap.size = z := ⟨_, rfl⟩
          have f6 : Fr No w5 w6 := by rw [← hw6]; exact (Fr.refl No w5).alloc _
          have hb6 : Blk w6 z 50 #[.int .i64 k, .pointer p2, .pointer p5, sv [], .int .i64 0, .slice none 0 0] := by rw [← hw6, ← hz]; exact Blk.new w5 50 _
          have hcd : CdJ w (.node k c d [] 0 []) (.pointer (some ⟨z, 0, none⟩)) w6 := cd_of_blk hb6 (by rw [← hz]; exact hs5.fr.size) (cd_no hs5.j.2 f6) (cd_no (cd_up hv HS4.out.fr.size) f6) (RowE.nil _ _ _ _) (by decide) HK64.out i64_0
          have HCD := Lib.hid hcd
          have HS6 : Hid (St C w Tr w6 r3 b3) := Lib.hid ⟨(hs5.no f6).rd, (hs5.no f6).fr, hs5.en, trivial, stable_tr C⟩
          have HW6 := Lib.hid hw6
          have HZ := Lib.hid hz
          clear hR hs5 f5 hv hw6 hz f6 hb6 hcd
          go_wp2_with fail
          obtain ⟨g1, rfl⟩ : ∃ g1, gk = g1 + 1 := ⟨gk - 1, by omega⟩
          rw [HW6.out, HZ.out]
          go_roundg g1
          case rel => exact Lib.hid ⟨_, r3, b3, HCD.out, HS6.out, by omega, by omega, HM3.out⟩
          all_goals omega
      | false =>
        have HS4 := Lib.hid (hf hc)
        have HM2 : Hid (chainW k kw P r b = .ok c r2 b2) := Lib.hid (by
          rw [HV.out, HM.out]
          show (if seesW (saysW kw) r2 = true then _ else _) = _
          rw [if_neg (by rw [hc]; decide)])
        clear ht hf hc HM HSR
        go_wp2
        go_ret
        exact HS4.out.ok HM2.out HS4.out.j.2
set_option maxRecDepth 100000 in
theorem and_any {C : Cx} {w : World} {r : List Wd} {b : Bool} (P : Pa Cd) (hk : Keeps P) (n : Nat) (hone : ∀ w r b, Rd C w r b → Ended r → r.length ≤ n → Calls Tryz.prog 150 #[rp C] w (RdP C w cdR (P r b))) (h : Rd C w r b) (he : Ended r) (hn : r.length ≤ n) : Calls Tryz.prog 119 #[rp C] w (RdP C w cdR (andW P r b)) := by
  have HC := Lib.hid (chain150 P hk n hone 1 (i64_of 1 (by decide)) [65, 78, 68] h he hn)
  have HV : Hid (andW P r b = chainW 1 [65, 78, 68] P r b) := Lib.hid rfl
  rw [HV.out]
  generalize chainW 1 [65, 78, 68] P r b = X at *
  unfold rp at *
  clear h he hn hone hk HV
  go_enter Tryz.func119, Tryz.ntmps119
  go_wp2_with fail
  refine HC.out.mono ?_
  rintro e w1 hp
  cases X with
  | bad c p =>
    obtain ⟨f, rfl⟩ := hp
    have HF := Lib.hid f
    clear f
    go_wp2_with fail
    exact ⟨rfl, HF.out, rfl⟩
  | ok x r1 b1 =>
    obtain ⟨f, ⟨v, rfl, hv⟩, hr⟩ := hp
    have HF := Lib.hid f
    have HV := Lib.hid hv
    have HR := Lib.hid hr
    clear f hv hr
    go_wp2
    go_ret
    exact ⟨HF.out, ⟨_, rfl, HV.out⟩, HR.out⟩
set_option maxRecDepth 100000 in
set_option maxHeartbeats 8000000 in
theorem chain119 {C : Cx} {w : World} {r : List Wd} {b : Bool} (P : Pa Cd) (hk : Keeps P) (n : Nat) (hone : ∀ w r b, Rd C w r b → Ended r → r.length ≤ n → Calls Tryz.prog 119 #[rp C] w (RdP C w cdR (P r b))) (k : Int) (hk64 : i64 k) (kw : Tx) (h : Rd C w r b) (he : Ended r) (hn : r.length ≤ n) :
    Calls Tryz.prog 118 #[rp C, .int .i64 k, sv kw, .func (.func 119) #[rp C] #[]] w (RdP C w cdR (chainW k kw P r b)) := by
  have HD := Lib.hid h.lt
  have HG := Lib.hid h.glt
  have HS0 := Lib.hid (St.start h he)
  have HK := Lib.hid hk
  have HK64 := Lib.hid hk64
  have HN := Lib.hid hn
  have HONE : Hid (∀ wi J r b, St C w J wi r b → r.length ≤ n → Calls Tryz.prog 119 #[rp C] wi (SP C w J wi cdR (P r b))) := Lib.hid fun wi J r b hs hl => hs.call (hone wi r b hs.rd hs.en hl) hk
  have C0 := Lib.hid (HONE.out w Tr r b HS0.out hn)
  unfold rp at *
  clear h he hk hk64 hn hone
  go_enter Tryz.func118, Tryz.ntmps118
  go_wp2_with fail
  refine C0.out.mono ?_
  clear C0
  rintro e w1 hp
  cases hR : P r b with
  | bad c p =>
    rw [hR] at hp
    obtain ⟨rfl, f⟩ := hp
    have HF := Lib.hid f
    have HV : Hid (chainW k kw P r b = .bad c p) := Lib.hid (by simp only [chainW, hR, PR.then])
    clear hR f
    go_wp2_with fail
    exact ⟨rfl, St.bad HV.out HF.out⟩
  | ok x r1 b1 =>
    rw [hR] at hp
    obtain ⟨⟨v, rfl, hv⟩, hs, f1⟩ := hp
    have hkl := (HK.out _ _ _ _ _ HS0.out.en hR).2
    have HV : Hid (chainW k kw P r b = linkW k kw P (r1.length + 1) x r1 b1) := Lib.hid (by simp only [chainW, hR, PR.then])
    have hv : CdAt (fun k => w.heap.size ≤ k) w1 x v := hv
    obtain ⟨p, rfl⟩ := cd_form hv
    have HS1 := Lib.hid hs
    have HC1 := Lib.hid hv
    have HR1 : Hid (r1.length ≤ n) := Lib.hid (by have := HN.out; omega)
    clear hR hs f1 hv hkl
    go_wp2_with fail
    go_loopg [9] r1.length (fun g r9 wr => Hid (∃ c r2 b2, CdJ w c r9 wr ∧ St C w Tr wr r2 b2 ∧ r2.length ≤ g ∧ r2.length ≤ n ∧ linkW k kw P (r1.length + 1) x r1 b1 = linkW k kw P (g + 1) c r2 b2))
    case atStart => exact Lib.hid ⟨x, r1, b1, HC1.out, HS1.out, Nat.le_refl _, HR1.out, rfl⟩
    case round =>
      obtain ⟨c, r2, b2, hc, hs, hle, hln, hm⟩ := hrel.out
      obtain ⟨p2, rfl⟩ := cd_form hc
      have HM := Lib.hid hm
      have HSR := Lib.hid (hs.more (J' := CdJ w c (.pointer p2)) hc (stable_cdj HD.out))
      clear hs hm hrel hc
      go_wp2_with fail
      refine (says_any kw wr).mono ?_
      rintro e w3 ⟨⟨mv, rfl, hmt⟩, f3⟩
      have HC := Lib.hid (takes_s (HSR.out.no f3) hmt (inner_says _))
      unfold rp at HC
      clear hmt f3
      go_wp2_with fail
      refine HC.out.mono ?_
      clear HC
      rintro e w4 ⟨rfl, ht, hf, -⟩
      cases hc : seesW (saysW kw) r2 with
      | true =>
        have HS4 := Lib.hid (ht hc)
        have htl := (HSR.out.en.sees (inner_says _) hc).2
        have HM2 : Hid (linkW k kw P (r1.length + 1) x r1 b1 = (P r2.tail b2).then fun d => linkW k kw P gk (.node k c d [] 0 [])) := Lib.hid (by
          rw [HM.out]
          show (if seesW (saysW kw) r2 = true then _ else _) = _
          rw [if_pos hc])
        have C1 := Lib.hid (HONE.out w4 _ r2.tail b2 HS4.out (by omega))
        clear ht hf hc HM HSR
        go_wp2_with fail
        refine C1.out.mono ?_
        clear C1
        rintro e w5 hp
        cases hR : P r2.tail b2 with
        | bad cc pp =>
          rw [hR] at hp
          obtain ⟨rfl, f⟩ := hp
          have HF := Lib.hid f
          have HV2 : Hid (chainW k kw P r b = .bad cc pp) := Lib.hid (by rw [HV.out, HM2.out, hR]; rfl)
          clear hR f
          go_wp2_with fail
          exact ⟨rfl, St.bad HV2.out HF.out⟩
        | ok d r3 b3 =>
          rw [hR] at hp
          obtain ⟨⟨v, rfl, hv⟩, hs5, f5⟩ := hp
          have hkl := (HK.out _ _ _ _ _ HS4.out.en hR).2
          have HM3 : Hid (linkW k kw P (r1.length + 1) x r1 b1 = linkW k kw P gk (.node k c d [] 0 []) r3 b3) := Lib.hid (by rw [HM2.out, hR]; rfl)
          have hv : CdAt (fun k => w4.heap.size ≤ k) w5 d v := hv
          obtain ⟨p5, rfl⟩ := cd_form hv
          obtain ⟨w6, hw6⟩ : ∃ w6, w5.alloc (.cells #[.int .i64 k, .pointer p2, .pointer p5, .string ⟨#[]⟩, .int .i64 0, .slice none 0 0] 50) = w6 := ⟨_, rfl⟩
          obtain ⟨z, hz⟩ : ∃ z, w5.heap.size = z := ⟨_, rfl⟩
          have f6 : Fr No w5 w6 := by rw [← hw6]; exact (Fr.refl No w5).alloc _
          have hb6 : Blk w6 z 50 #[.int .i64 k, .pointer p2, .pointer p5, sv [], .int .i64 0, .slice none 0 0] := by rw [← hw6, ← hz]; exact Blk.new w5 50 _
          have hcd : CdJ w (.node k c d [] 0 []) (.pointer (some ⟨z, 0, none⟩)) w6 := cd_of_blk hb6 (by rw [← hz]; exact hs5.fr.size) (cd_no hs5.j.2 f6) (cd_no (cd_up hv HS4.out.fr.size) f6) (RowE.nil _ _ _ _) (by decide) HK64.out i64_0
          have HCD := Lib.hid hcd
          have HS6 : Hid (St C w Tr w6 r3 b3) := Lib.hid ⟨(hs5.no f6).rd, (hs5.no f6).fr, hs5.en, trivial, stable_tr C⟩
          have HW6 := Lib.hid hw6
          have HZ := Lib.hid hz
          clear hR hs5 f5 hv hw6 hz f6 hb6 hcd
          go_wp2_with fail
          obtain ⟨g1, rfl⟩ : ∃ g1, gk = g1 + 1 := ⟨gk - 1, by omega⟩
          rw [HW6.out, HZ.out]
          go_roundg g1
          case rel => exact Lib.hid ⟨_, r3, b3, HCD.out, HS6.out, by omega, by omega, HM3.out⟩
          all_goals omega
      | false =>
        have HS4 := Lib.hid (hf hc)
        have HM2 : Hid (chainW k kw P r b = .ok c r2 b2) := Lib.hid (by
          rw [HV.out, HM.out]
          show (if seesW (saysW kw) r2 = true then _ else _) = _
          rw [if_neg (by rw [hc]; decide)])
        clear ht hf hc HM HSR
        go_wp2
        go_ret
        exact HS4.out.ok HM2.out HS4.out.j.2
set_option maxRecDepth 100000 in
theorem or_any {C : Cx} {w : World} {r : List Wd} {b : Bool} (P : Pa Cd) (hk : Keeps P) (n : Nat) (hone : ∀ w r b, Rd C w r b → Ended r → r.length ≤ n → Calls Tryz.prog 150 #[rp C] w (RdP C w cdR (P r b))) (h : Rd C w r b) (he : Ended r) (hn : r.length ≤ n) : Calls Tryz.prog 64 #[rp C] w (RdP C w cdR (orW P r b)) := by
  have HC := Lib.hid (chain119 (andW P) (keeps_chain hk) n (fun w r b h he hn => and_any P hk n hone h he hn) 2 (i64_of 2 (by decide)) [79, 82] h he hn)
  have HV : Hid (orW P r b = chainW 2 [79, 82] (andW P) r b) := Lib.hid rfl
  rw [HV.out]
  generalize chainW 2 [79, 82] (andW P) r b = X at *
  unfold rp at *
  clear h he hn hone hk HV
  go_enter Tryz.func64, Tryz.ntmps64
  go_wp2_with fail
  refine HC.out.mono ?_
  rintro e w1 hp
  cases X with
  | bad c p =>
    obtain ⟨f, rfl⟩ := hp
    have HF := Lib.hid f
    clear f
    go_wp2_with fail
    exact ⟨rfl, HF.out, rfl⟩
  | ok x r1 b1 =>
    obtain ⟨f, ⟨v, rfl, hv⟩, hr⟩ := hp
    have HF := Lib.hid f
    have HV := Lib.hid hv
    have HR := Lib.hid hr
    clear f hv hr
    go_wp2
    go_ret
    exact ⟨HF.out, ⟨_, rfl, HV.out⟩, HR.out⟩
set_option maxRecDepth 100000 in
set_option maxHeartbeats 8000000 in
theorem not_any (C : Cx) : ∀ (n : Nat) (w : World) (r : List Wd) (b : Bool), Rd C w r b → Ended r → r.length ≤ n → Calls Tryz.prog 150 #[rp C] w (RdP C w cdR (notW n r b))
  | 0, w, r, b, h, he, hn => by obtain ⟨x, l, rfl⟩ := he.cons; simp at hn
  | n + 1, w, r, b, h, he, hn => by
    have ih := not_any C n
    have HD := Lib.hid h.lt
    have HG := Lib.hid h.glt
    have HS0 := Lib.hid (St.start h he)
    have HNOT : Hid (∀ wi J r b, St C w J wi r b → r.length ≤ n → Calls Tryz.prog 150 #[rp C] wi (SP C w J wi cdR (notW n r b))) := Lib.hid fun wi J r b hs hl => hs.call (ih wi r b hs.rd hs.en hl) (keeps_not n)
    have HOR : Hid (∀ wi J r b, St C w J wi r b → r.length ≤ n → Calls Tryz.prog 64 #[rp C] wi (SP C w J wi cdR (orW (notW n) r b))) := Lib.hid fun wi J r b hs hl => hs.call (or_any (notW n) (keeps_not n) n ih hs.rd hs.en hl) (keeps_or n)
    have HN := Lib.hid hn
    clear h he hn ih
    unfold rp at *
    go_enter Tryz.func150, Tryz.ntmps150
    go_wp2_with fail
    refine (says_any [78, 79, 84] w).mono ?_
    rintro e wx ⟨⟨mv, rfl, hm⟩, f1⟩
    have HC := Lib.hid (takes_s (HS0.out.no f1) hm (inner_says _))
    unfold rp at HC
    clear hm f1
    go_wp2_with fail
    refine HC.out.mono ?_
    clear HC
    rintro e w2 ⟨rfl, ht, hf, -⟩
    cases hn : seesW (saysW [78, 79, 84]) r with
    | true =>
      have HS2 := Lib.hid (ht hn)
      have E1 := Lib.hid hn
      have htl := (HS0.out.en.sees (inner_says _) hn).2
      have HT : Hid (r.tail.length ≤ n) := Lib.hid (by have := HN.out; omega)
      clear ht hf hn htl
      have CA := Lib.hid (HNOT.out w2 Tr r.tail b HS2.out HT.out)
      unfold rp at CA
      go_wp2_with fail
      refine CA.out.mono ?_
      clear CA
      rintro e w3 hp
      cases hR : notW n r.tail b with
      | bad cc p =>
        rw [hR] at hp
        obtain ⟨rfl, f⟩ := hp
        have HF := Lib.hid f
        have HV : Hid (notW (n + 1) r b = .bad cc p) := Lib.hid (by have q0 := E1.out; simp only [notW, q0, hR, if_true, PR.map, PR.then])
        clear hR f
        go_wp2_with fail
        exact ⟨rfl, St.bad HV.out HF.out⟩
      | ok c r1 b1 =>
        rw [hR] at hp
        obtain ⟨⟨v, rfl, hv⟩, hs9, f9⟩ := hp
        have HS3 := Lib.hid hs9
        have E2 := Lib.hid hR
        have HV : Hid (notW (n + 1) r b = .ok (.node 3 c .none [] 0 []) r1 b1) := Lib.hid (by have q0 := E1.out; simp only [notW, q0, hR, if_true, PR.map, PR.then])
        have hv : CdAt (fun k => w2.heap.size ≤ k) w3 c v := hv
        obtain ⟨p5, rfl⟩ := cd_form hv
        obtain ⟨w6, hw6⟩ : ∃ w6, w3.alloc (.cells #[.int .i64 3, .pointer p5, .pointer none, .string ⟨#[]⟩, .int .i64 0, .slice none 0 0] 50) = w6 := ⟨_, rfl⟩
        obtain ⟨z, hz⟩ : ∃ z, w3.heap.size = z := ⟨_, rfl⟩
        have f6 : Fr No w3 w6 := by rw [← hw6]; exact (Fr.refl No w3).alloc _
        have hb6 : Blk w6 z 50 #[.int .i64 3, .pointer p5, .pointer none, sv [], .int .i64 0, .slice none 0 0] := by rw [← hw6, ← hz]; exact Blk.new w3 50 _
        have HCD : Hid (CdJ w (.node 3 c .none [] 0 []) (.pointer (some ⟨z, 0, none⟩)) w6) := Lib.hid (cd_of_blk hb6 (by rw [← hz]; exact HS3.out.fr.size) (cd_no (cd_up hv HS2.out.fr.size) f6) rfl (RowE.nil _ _ _ _) (by decide) (i64_of 3 (by decide)) i64_0)
        have HS6 := Lib.hid (HS3.out.no f6)
        have HW6 := Lib.hid hw6
        have HZ := Lib.hid hz
        clear hv hw6 hz f6 hb6
        clear hR hs9 f9
        go_wp2_with fail
        go_ret
        rw [HW6.out, HZ.out]
        exact HS6.out.ok HV.out HCD.out
    | false =>
      have HS2 := Lib.hid (hf hn)
      have E1 := Lib.hid hn
      clear ht hf hn
      go_wp2_with fail
      refine (says_any [40] w2).mono ?_
      rintro e wx ⟨⟨mv, rfl, hm⟩, f1⟩
      have HC := Lib.hid (takes_s (HS2.out.no f1) hm (inner_says _))
      unfold rp at HC
      clear hm f1
      go_wp2_with fail
      refine HC.out.mono ?_
      clear HC
      rintro e w4 ⟨rfl, ht, hf, -⟩
      cases hn : seesW (saysW [40]) r with
      | true =>
        have HS4 := Lib.hid (ht hn)
        have E2 := Lib.hid hn
        have htl := (HS0.out.en.sees (inner_says _) hn).2
        have HT : Hid (r.tail.length ≤ n) := Lib.hid (by have := HN.out; omega)
        clear ht hf hn htl
        have CA := Lib.hid (HOR.out w4 Tr r.tail b HS4.out HT.out)
        unfold rp at CA
        go_wp2_with fail
        refine CA.out.mono ?_
        clear CA
        rintro e w5 hp
        cases hR : orW (notW n) r.tail b with
        | bad cc p =>
          rw [hR] at hp
          obtain ⟨rfl, f⟩ := hp
          have HF := Lib.hid f
          have HV : Hid (notW (n + 1) r b = .bad cc p) := Lib.hid (by have q0 := E1.out; have q1 := E2.out; simp only [notW, q0, q1, hR, if_true, Bool.false_eq_true, if_false, PR.then])
          clear hR f
          go_wp2_with fail
          exact ⟨rfl, St.bad HV.out HF.out⟩
        | ok c r1 b1 =>
          rw [hR] at hp
          obtain ⟨⟨v, rfl, hv⟩, hs9, f9⟩ := hp
          have HS5 := Lib.hid hs9
          have E3 := Lib.hid hR
          have hv : CdAt (fun k => w4.heap.size ≤ k) w5 c v := hv
          obtain ⟨p5, rfl⟩ := cd_form hv
          have HS5b := Lib.hid (HS5.out.more (J' := CdJ w c (.pointer p5)) (cd_up hv HS4.out.fr.size) (stable_cdj HD.out))
          clear hv
          clear hR hs9 f9
          have CA := Lib.hid (all_s HS5b.out [[41]] 1 rfl (by decide) #[sv [41]] rfl)
          unfold rp at CA
          go_wp2_with fail
          refine CA.out.mono ?_
          clear CA
          rintro e w6 hp
          cases hR : allW [[41]] r1 b1 with
          | bad cc p =>
            rw [hR] at hp
            obtain ⟨rfl, f⟩ := hp
            have HF := Lib.hid f
            have HV : Hid (notW (n + 1) r b = .bad cc p) := Lib.hid (by have q0 := E1.out; have q1 := E2.out; have q2 := E3.out; simp only [notW, q0, q1, q2, hR, if_true, Bool.false_eq_true, if_false, PR.then, PR.map])
            clear hR f
            go_wp2_with fail
            exact ⟨rfl, St.bad HV.out HF.out⟩
          | ok u r2 b2 =>
            rw [hR] at hp
            obtain ⟨⟨v, rfl, rfl⟩, hs9, -⟩ := hp
            have HS6 := Lib.hid hs9
            have E4 := Lib.hid hR
            clear hR hs9
            have HV : Hid (notW (n + 1) r b = .ok c r2 b2) := Lib.hid (by have q0 := E1.out; have q1 := E2.out; have q2 := E3.out; have q3 := E4.out; simp only [notW, q0, q1, q2, q3, if_true, Bool.false_eq_true, if_false, PR.then, PR.map])
            go_wp2
            go_ret
            exact HS6.out.ok HV.out HS6.out.j.2
      | false =>
        have HS4 := Lib.hid (hf hn)
        have HVT : Hid (notW (n + 1) r b = testW r b) := Lib.hid (by have q0 := E1.out; simp only [notW, q0, hn, Bool.false_eq_true, if_false])
        clear ht hf hn
        have CA := Lib.hid (HS4.out.call (test_any HS4.out.rd HS4.out.en) keeps_test)
        unfold rp at CA
        go_wp2_with fail
        refine CA.out.mono ?_
        clear CA
        rintro e w5 hp
        cases hR : testW r b with
        | bad cc p =>
          rw [hR] at hp
          obtain ⟨rfl, f⟩ := hp
          have HF := Lib.hid f
          have HV : Hid (notW (n + 1) r b = .bad cc p) := Lib.hid (by rw [HVT.out, hR])
          clear hR f
          go_wp2_with fail
          exact ⟨rfl, St.bad HV.out HF.out⟩
        | ok c r1 b1 =>
          rw [hR] at hp
          obtain ⟨⟨v, rfl, hv⟩, hs9, f9⟩ := hp
          have HS5 := Lib.hid hs9
          have E3 := Lib.hid hR
          have HCD : Hid (CdJ w c v w5) := Lib.hid (cd_up hv HS4.out.fr.size)
          have HV : Hid (notW (n + 1) r b = .ok c r1 b1) := Lib.hid (by rw [HVT.out, hR])
          clear hv
          clear hR hs9 f9
          go_wp2
          go_ret
          exact HS5.out.ok HV.out HCD.out
end Go.Proofs.YtkcnbmgaeompjaaGreatDoor
/- Reading a query: the whole. -/
namespace Go.Proofs.YtkcnbmgaeompjaaGreatDoor
open Go.RowKit Go.Maps
set_option linter.unusedVariables false

def qyR : VR Qy := fun K w v q => QyAt K w q v
def z27 : Array Value := #[.slice none 0 0, .string ⟨#[]⟩, .pointer none, .bool false, .slice none 0 0]
/-- What is kept whatever is stored into the blocks up to z. -/
structure KeepQ (C : Cx) (z : Nat) (R : World → Prop) : Prop where
  st : Stable C R
  pt : ∀ k0, k0 ≤ z → ∀ x x', Fr (fun k => k = k0) x x' → R x → R x'
theorem KeepQ.tr (C : Cx) (z : Nat) : KeepQ C z Tr := ⟨stable_tr C, fun _ _ _ _ _ _ => trivial⟩
theorem KeepQ.row {α : Type} {C : Cx} {z size : Nat} {R : World → Prop} {E : EG α} {wi : World} {v : Value} {l : List α} (h : KeepQ C z R) (hE : Elem E) (hz : z < wi.heap.size) (hd : C.d < wi.heap.size) : KeepQ C z (fun x => R x ∧ RowJ wi size E v l x) :=
  ⟨stable_and h.st (stable_rowj hE hd), fun k0 hk x x' f ⟨a, b⟩ => ⟨h.pt k0 hk x x' f a, row_put hE b f (by omega)⟩⟩
theorem cd_put {wi x x' : World} {c : Cd} {v : Value} {y : Nat} (h : CdJ wi c v x) (f : Fr (fun k => k = y) x x') (hy : y < wi.heap.size) : CdJ wi c v x' :=
  CdAt.mono (fun k hk hkl => ⟨hk, f.block k hkl (fun e => by have e : k = y := e; omega)⟩) h
theorem KeepQ.cd {C : Cx} {z : Nat} {R : World → Prop} {wi : World} {v : Value} {c : Cd} (h : KeepQ C z R) (hz : z < wi.heap.size) (hd : C.d < wi.heap.size) : KeepQ C z (fun x => R x ∧ CdJ wi c v x) :=
  ⟨stable_and h.st (stable_cdj hd), fun k0 hk x x' f ⟨a, b⟩ => ⟨h.pt k0 hk x x' f a, cd_put b f (by omega)⟩⟩
/-- The query under way: its result's block y, its own z. -/
structure QS (C : Cx) (w : World) (y z : Nat) (cs : Array Value) (R : World → Prop) (wi : World) (r : List Wd) (b : Bool) : Prop where
  s : St C w (fun x => (Blk x y 27 z27 ∧ Blk x z 27 cs) ∧ R x) wi r b
  r : KeepQ C z R
  wy : w.heap.size ≤ y
  yz : y < z
  d : C.d < w.heap.size
  g : C.g < w.heap.size
theorem QS.lt {C : Cx} {w : World} {y z : Nat} {cs : Array Value} {R : World → Prop} {wi : World} {r : List Wd} {b : Bool} (h : QS C w y z cs R wi r b) : z < wi.heap.size := h.s.j.1.2.lt
theorem QS.of {C : Cx} {w : World} {y z : Nat} {cs : Array Value} {R : World → Prop} {wi wj : World} {r r' : List Wd} {b b' : Bool} (h : QS C w y z cs R wi r b) (hs : St C w (fun x => (Blk x y 27 z27 ∧ Blk x z 27 cs) ∧ R x) wj r' b') : QS C w y z cs R wj r' b' := ⟨hs, h.r, h.wy, h.yz, h.d, h.g⟩
theorem QS.put {C : Cx} {w : World} {y z : Nat} {cs : Array Value} {R : World → Prop} {wi : World} {r : List Wd} {b : Bool} (h : QS C w y z cs R wi r b) (i : Nat) (u : Value) : QS C w y z (cs.setIfInBounds i u) R (wi.setCell ⟨z, i, none⟩ u) r b := by
  have f : Fr (fun k => k = z) wi (wi.setCell ⟨z, i, none⟩ u) := fr_set (Fr.refl _ wi)
  have h1 := h.wy
  have h2 := h.yz
  have h3 := h.d
  exact ⟨h.s.put (J' := fun x => (Blk x y 27 z27 ∧ Blk x z 27 (cs.setIfInBounds i u)) ∧ R x) f (by omega) h.d h.g ⟨⟨h.s.j.1.1.of (f.block y h.s.j.1.1.lt (fun e => by have e : y = z := e; omega)), h.s.j.1.2.set_ i u⟩, h.r.pt z (Nat.le_refl _) _ _ f h.s.j.2⟩ (stable_and (stable_and (stable_blk (by omega)) (stable_blk (by omega))) h.r.st), h.r, h.wy, h.yz, h.d, h.g⟩
theorem QS.row {α : Type} {C : Cx} {w : World} {y z size : Nat} {cs : Array Value} {R : World → Prop} {E : EG α} {wi wj : World} {v : Value} {l : List α} {r r' : List Wd} {b b' : Bool} (h : QS C w y z cs R wi r b) (hE : Elem E) (hs : St C w (fun x => (Blk x y 27 z27 ∧ Blk x z 27 cs) ∧ R x) wj r' b') (hr : RowJ wi size E v l wj) : QS C w y z cs (fun x => R x ∧ RowJ wi size E v l x) wj r' b' := by
  have hr2 : KeepQ C z (fun x => R x ∧ RowJ wi size E v l x) := h.r.row hE h.lt (Nat.lt_of_lt_of_le h.d h.s.fr.size)
  have h1 := h.wy
  have h2 := h.yz
  have h3 := h.d
  exact ⟨⟨hs.rd, hs.fr, hs.en, ⟨hs.j.1, hs.j.2, hr⟩, stable_and (stable_and (stable_blk (by omega)) (stable_blk (by omega))) hr2.st⟩, hr2, h.wy, h.yz, h.d, h.g⟩
theorem QS.cd {C : Cx} {w : World} {y z : Nat} {cs : Array Value} {R : World → Prop} {wi wj : World} {v : Value} {c : Cd} {r r' : List Wd} {b b' : Bool} (h : QS C w y z cs R wi r b) (hs : St C w (fun x => (Blk x y 27 z27 ∧ Blk x z 27 cs) ∧ R x) wj r' b') (hr : CdJ wi c v wj) : QS C w y z cs (fun x => R x ∧ CdJ wi c v x) wj r' b' := by
  have hr2 : KeepQ C z (fun x => R x ∧ CdJ wi c v x) := h.r.cd h.lt (Nat.lt_of_lt_of_le h.d h.s.fr.size)
  have h1 := h.wy
  have h2 := h.yz
  have h3 := h.d
  exact ⟨⟨hs.rd, hs.fr, hs.en, ⟨hs.j.1, hs.j.2, hr⟩, stable_and (stable_and (stable_blk (by omega)) (stable_blk (by omega))) hr2.st⟩, hr2, h.wy, h.yz, h.d, h.g⟩
def qc (a : Value) (t : Tx) (c : Value) (g : Bool) (G : Value) : Array Value := #[a, sv t, c, .bool g, G]
/-- The end: what was read lies in the result's block. -/
theorem QS.done {C : Cx} {w : World} {y z : Nat} {a c G : Value} {t : Tx} {g : Bool} {R : World → Prop} {wi wj : World} {r r' : List Wd} {b b' : Bool} {q : Qy} {x : PR Qy} (h : QS C w y z (qc a t c g G) R wi r b) (f : Fr (Only C.d) wi wj) (hrd : Rd C wj r' b') (hx : x = .ok q r' b') (hq : ∀ x, R x → QyAt (fun k => w.heap.size ≤ k) x q (.agg #[a, sv t, c, .bool g, G])) :
    RdP C w qyR x (.returned (.agg #[a, sv t, c, .bool g, G])) (((((wj.setCell ⟨y, 0, none⟩ a).setCell ⟨y, 1, none⟩ (sv t)).setCell ⟨y, 2, none⟩ c).setCell ⟨y, 3, none⟩ (.bool g)).setCell ⟨y, 4, none⟩ G) := by
  subst hx
  have f2 : Fr (fun k => k = y) wj (((((wj.setCell ⟨y, 0, none⟩ a).setCell ⟨y, 1, none⟩ (sv t)).setCell ⟨y, 2, none⟩ c).setCell ⟨y, 3, none⟩ (.bool g)).setCell ⟨y, 4, none⟩ G) := fr_set (fr_set (fr_set (fr_set (fr_set (Fr.refl _ wj)))))
  have f1 : Fr (Only C.d) w wj := h.s.fr.trans f fun _ _ h => h
  have h1 := h.wy
  have h2 := h.d
  have h3 := h.g
  have h4 := h.yz
  refine ⟨⟨f2.os.trans f1.os, f2.tape.trans f1.tape, f2.output.trans f1.output, Nat.le_trans f1.size f2.size, fun k hk hn => (f2.block k (Nat.lt_of_lt_of_le hk f1.size) (fun e => by have e : k = y := e; omega)).trans (f1.block k hk hn)⟩, ⟨_, rfl, ?_⟩, hrd.past f2 (by omega) (by omega)⟩
  exact hq _ (h.r.pt y (by omega) _ _ f2 (h.r.st _ _ f h.s.j.2))
set_option maxRecDepth 100000 in
set_option maxHeartbeats 16000000 in
theorem query_any {C : Cx} {w : World} {r : List Wd} {b : Bool} (n : Nat) (h : Rd C w r b) (he : Ended r) (hn : r.length ≤ n) : Calls Tryz.prog 25 #[rp C] w (RdP C w qyR (queryW n r b)) := by
  have hd := h.lt
  have hg := h.glt
  obtain ⟨y, hy⟩ : ∃ y, w.heap.size = y := ⟨_, rfl⟩
  obtain ⟨z, hz⟩ : ∃ z, y + 1 = z := ⟨_, rfl⟩
  obtain ⟨w0, hw0⟩ : ∃ w0, w.alloc (.cells #[.slice none 0 0, .string ⟨#[]⟩, .pointer none, .bool false, .slice none 0 0] 27) = w0 := ⟨_, rfl⟩
  have f0 : Fr No w w0 := by rw [← hw0]; exact (Fr.refl No w).alloc _
  have hb0 : Blk w0 y 27 z27 := by rw [← hw0, ← hy]; exact Blk.new w 27 _
  have hs0 : w0.heap.size = z := by rw [← hw0, ← hz, ← hy]; simp
  obtain ⟨w1, hw1⟩ : ∃ w1, w0.alloc (.cells #[.slice none 0 0, .string ⟨#[]⟩, .pointer none, .bool false, .slice none 0 0] 27) = w1 := ⟨_, rfl⟩
  have f1 : Fr No w0 w1 := by rw [← hw1]; exact (Fr.refl No w0).alloc _
  have hb1 : Blk w1 z 27 (qc (.slice none 0 0) [] (.pointer none) false (.slice none 0 0)) := by rw [← hw1, ← hs0]; exact Blk.new w0 27 _
  have hst := (St.start h he).no (f0.trans f1 fun _ _ h => h)
  have HQ0 : Hid (QS C w y z (qc (.slice none 0 0) [] (.pointer none) false (.slice none 0 0)) Tr w1 r b) := Lib.hid ⟨⟨hst.rd, hst.fr, he, ⟨⟨hb0.of (f1.block y hb0.lt id), hb1⟩, trivial⟩, stable_and (stable_and (stable_blk (by omega)) (stable_blk (by omega))) (stable_tr C)⟩, KeepQ.tr C z, by omega, by omega, hd, hg⟩
  have HY := Lib.hid hy
  have HZ := Lib.hid hz
  have HW0 := Lib.hid hw0
  have HW1 := Lib.hid hw1
  have HS0 := Lib.hid hs0
  have HN := Lib.hid hn
  have HOR : Hid (∀ wi J r b, St C w J wi r b → r.length ≤ n → Calls Tryz.prog 64 #[rp C] wi (SP C w J wi cdR (orW (notW n) r b))) := Lib.hid fun wi J r b hs hl => hs.call (or_any (notW n) (keeps_not n) n (not_any C n) hs.rd hs.en hl) (keeps_or n)
  have HKL : Hid (∀ {α} (p : Pa α) r b a r' b', Keeps p → Ended r → p r b = .ok a r' b' → r'.length ≤ r.length) := Lib.hid fun p r b a r' b' hk he h => (hk _ _ _ _ _ he h).2
  unfold rp at *
  clear h he hd hg hy hz hw0 f0 hb0 hs0 hw1 f1 hb1 hst hn
  go_enter Tryz.func25, Tryz.ntmps25
  go_upto_region 2 with fail
  rw [HW0.out, HY.out, HW1.out, HZ.out]
  have CA := Lib.hid (all_s HQ0.out.s [[83, 69, 76, 69, 67, 84]] 1 rfl (by decide) #[sv [83, 69, 76, 69, 67, 84]] rfl)
  unfold rp at CA
  go_wp2_with fail
  refine CA.out.mono ?_
  clear CA
  rintro e w2 hp
  cases hR : allW [[83, 69, 76, 69, 67, 84]] r b with
  | bad cc p =>
    rw [hR] at hp
    obtain ⟨rfl, f⟩ := hp
    have HF := Lib.hid f
    have HV : Hid (queryW n r b = .bad cc p) := Lib.hid (by simp only [queryW, hR, PR.then])
    clear hR f
    go_wp2_with fail
    exact ⟨rfl, St.bad HV.out HF.out⟩
  | ok u r1 b1 =>
    rw [hR] at hp
    obtain ⟨⟨v, rfl, rfl⟩, hs9, -⟩ := hp
    have HS1 := Lib.hid hs9
    have E1 := Lib.hid hR
    clear hR hs9
    have HQ1 := Lib.hid (HQ0.out.of HS1.out)
    have CA := Lib.hid (HS1.out.call (litems_any HS1.out.rd HS1.out.en) (keeps_list keeps_item))
    unfold rp at CA
    go_wp2_with fail
    refine CA.out.mono ?_
    clear CA
    rintro e w3 hp
    cases hR : listW 16 itemW r1 b1 with
    | bad cc p =>
      rw [hR] at hp
      obtain ⟨rfl, f⟩ := hp
      have HF := Lib.hid f
      have HV : Hid (queryW n r b = .bad cc p) := Lib.hid (by have q0 := E1.out; simp only [queryW, q0, hR, PR.then])
      clear hR f
      go_wp2_with fail
      exact ⟨rfl, St.bad HV.out HF.out⟩
    | ok is r2 b2 =>
      rw [hR] at hp
      obtain ⟨⟨v, rfl, hv⟩, hs9, f9⟩ := hp
      have HS2 := Lib.hid hs9
      have E2 := Lib.hid hR
      have hv : RowJ w2 2 itG v is w3 := hv
      obtain ⟨A, na, ca, rfl, hna⟩ := row_form hv
      have HQ2 := Lib.hid (HQ1.out.row itG_elem hs9 hv)
      clear hv hna
      clear hR hs9 f9
      have zc : w3.cell? ⟨z, 0, none⟩ = some (.slice none 0 0) := HQ2.out.s.j.1.2.cell 0
      have xc := HQ2.out.s.j.1.2.frozen 0
      obtain ⟨w4, hwn⟩ : ∃ w4, w3.setCell ⟨z, 0, none⟩ (.slice A na ca) = w4 := ⟨_, rfl⟩
      have HQ3 : Hid (QS C w y z (qc (.slice A na ca) [] (.pointer none) false (.slice none 0 0)) _ w4 _ _) := Lib.hid (by rw [← hwn]; exact HQ2.out.put 0 (.slice A na ca))
      have HWN := Lib.hid hwn
      clear hwn
      go_upto_region 4 with fail
      rw [HWN.out]
      clear zc xc HWN
      have CA := Lib.hid (all_s HQ3.out.s [[70, 82, 79, 77]] 1 rfl (by decide) #[sv [70, 82, 79, 77]] rfl)
      unfold rp at CA
      go_wp2_with fail
      refine CA.out.mono ?_
      clear CA
      rintro e w5 hp
      cases hR : allW [[70, 82, 79, 77]] r2 b2 with
      | bad cc p =>
        rw [hR] at hp
        obtain ⟨rfl, f⟩ := hp
        have HF := Lib.hid f
        have HV : Hid (queryW n r b = .bad cc p) := Lib.hid (by have q0 := E1.out; have q1 := E2.out; simp only [queryW, q0, q1, hR, PR.then])
        clear hR f
        go_wp2_with fail
        exact ⟨rfl, St.bad HV.out HF.out⟩
      | ok u r3 b3 =>
        rw [hR] at hp
        obtain ⟨⟨v, rfl, rfl⟩, hs9, -⟩ := hp
        have HS3 := Lib.hid hs9
        have E3 := Lib.hid hR
        clear hR hs9
        have HQ4 := Lib.hid (HQ3.out.of HS3.out)
        have CA := Lib.hid (name_s HS3.out)
        unfold rp at CA
        go_wp2_with fail
        refine CA.out.mono ?_
        clear CA
        rintro e w6 hp
        cases hR : nameW r3 b3 with
        | bad cc p =>
          rw [hR] at hp
          obtain ⟨rfl, f⟩ := hp
          have HF := Lib.hid f
          have HV : Hid (queryW n r b = .bad cc p) := Lib.hid (by have q0 := E1.out; have q1 := E2.out; have q2 := E3.out; simp only [queryW, q0, q1, q2, hR, PR.then])
          clear hR f
          go_wp2_with fail
          exact ⟨rfl, St.bad HV.out HF.out⟩
        | ok t r4 b4 =>
          rw [hR] at hp
          obtain ⟨⟨v, rfl, rfl, ht8⟩, hs9, f9⟩ := hp
          have HS4 := Lib.hid hs9
          have E4 := Lib.hid hR
          have HQ5 := Lib.hid (HQ4.out.of hs9)
          have HT8 := Lib.hid ht8
          clear ht8
          clear hR hs9 f9
          have zc : w6.cell? ⟨z, 1, none⟩ = some (sv []) := HQ5.out.s.j.1.2.cell 1
          have xc := HQ5.out.s.j.1.2.frozen 1
          obtain ⟨w7, hwn⟩ : ∃ w7, w6.setCell ⟨z, 1, none⟩ (sv t) = w7 := ⟨_, rfl⟩
          have HQ6 : Hid (QS C w y z (qc (.slice A na ca) t (.pointer none) false (.slice none 0 0)) _ w7 _ _) := Lib.hid (by rw [← hwn]; exact HQ5.out.put 1 (sv t))
          have HWN := Lib.hid hwn
          clear hwn
          go_upto_region 6 with fail
          rw [HWN.out]
          clear zc xc HWN
          have HS6 := Lib.hid HQ6.out.s
          have HL4 : Hid (r4.length ≤ n) := Lib.hid (by have k1 := HKL.out _ _ _ _ _ _ (keeps_all _) HQ0.out.s.en E1.out; have k2 := HKL.out _ _ _ _ _ _ (keeps_list keeps_item) HQ1.out.s.en E2.out; have k3 := HKL.out _ _ _ _ _ _ (keeps_all _) HQ3.out.s.en E3.out; have k4 := HKL.out _ _ _ _ _ _ keeps_name HQ4.out.s.en E4.out; have := HN.out; omega)
          go_wp2_with fail
          refine (says_any [87, 72, 69, 82, 69] w7).mono ?_
          rintro e wx ⟨⟨mv, rfl, hm⟩, f1⟩
          have HC := Lib.hid (takes_s (HS6.out.no f1) hm (inner_says _))
          unfold rp at HC
          clear hm f1
          go_wp2_with fail
          refine HC.out.mono ?_
          clear HC
          rintro e w8 ⟨rfl, ht, hf, -⟩
          cases hn : seesW (saysW [87, 72, 69, 82, 69]) r4 with
          | true =>
            have HSW := Lib.hid (ht hn)
            have HQW := Lib.hid (HQ6.out.of HSW.out)
            have E5 := Lib.hid hn
            have HL5 : Hid (r4.tail.length ≤ n) := Lib.hid (by have := HL4.out; have := (HS6.out.en.sees (inner_says _) hn).2; omega)
            clear ht hf hn
            have CA := Lib.hid (HOR.out w8 _ r4.tail b4 HSW.out HL5.out)
            unfold rp at CA
            go_wp2_with fail
            refine CA.out.mono ?_
            clear CA
            rintro e w9 hp
            cases hR : orW (notW n) r4.tail b4 with
            | bad cc p =>
              rw [hR] at hp
              obtain ⟨rfl, f⟩ := hp
              have HF := Lib.hid f
              have HV : Hid (queryW n r b = .bad cc p) := Lib.hid (by have q0 := E1.out; have q1 := E2.out; have q2 := E3.out; have q3 := E4.out; have q4 := E5.out; simp only [queryW, q0, q1, q2, q3, q4, hR, PR.then, if_true])
              clear hR f
              go_wp2_with fail
              exact ⟨rfl, St.bad HV.out HF.out⟩
            | ok c r5 b5 =>
              rw [hR] at hp
              obtain ⟨⟨v, rfl, hv⟩, hs9, f9⟩ := hp
              have HSX := Lib.hid hs9
              have EW := Lib.hid hR
              have hv : CdJ w8 c v w9 := hv
              obtain ⟨p5, rfl⟩ := cd_form hv
              have HQX0 := Lib.hid (HQW.out.cd hs9 hv)
              clear hv
              clear hR hs9 f9
              have zc : w9.cell? ⟨z, 2, none⟩ = some (.pointer none) := HQX0.out.s.j.1.2.cell 2
              have xc := HQX0.out.s.j.1.2.frozen 2
              obtain ⟨wa, hwn⟩ : ∃ wa, w9.setCell ⟨z, 2, none⟩ (.pointer p5) = wa := ⟨_, rfl⟩
              have HQY : Hid (QS C w y z (qc (.slice A na ca) t (.pointer p5) false (.slice none 0 0)) _ wa _ _) := Lib.hid (by rw [← hwn]; exact HQX0.out.put 2 (.pointer p5))
              have HWN := Lib.hid hwn
              clear hwn
              go_upto_region 8 with fail
              rw [HWN.out]
              clear zc xc HWN
              have HSY := Lib.hid HQY.out.s
              go_wp2_with fail
              refine (says_any [71, 82, 79, 85, 80] wa).mono ?_
              rintro e wx ⟨⟨mv, rfl, hm⟩, f1⟩
              have HC := Lib.hid (takes_s (HSY.out.no f1) hm (inner_says _))
              unfold rp at HC
              clear hm f1
              go_wp2_with fail
              refine HC.out.mono ?_
              clear HC
              rintro e wg ⟨rfl, ht, hf, -⟩
              cases hn : seesW (saysW [71, 82, 79, 85, 80]) r5 with
              | true =>
                have HS7 := Lib.hid (ht hn)
                have HQ7 := Lib.hid (HQY.out.of HS7.out)
                have E6 := Lib.hid hn
                clear ht hf hn
                have CA := Lib.hid (all_s HS7.out [[66, 89]] 1 rfl (by decide) #[sv [66, 89]] rfl)
                unfold rp at CA
                go_wp2_with fail
                refine CA.out.mono ?_
                clear CA
                rintro e wh hp
                cases hR : allW [[66, 89]] r5.tail b5 with
                | bad cc p =>
                  rw [hR] at hp
                  obtain ⟨rfl, f⟩ := hp
                  have HF := Lib.hid f
                  have HV : Hid (queryW n r b = .bad cc p) := Lib.hid (by have q0 := E1.out; have q1 := E2.out; have q2 := E3.out; have q3 := E4.out; have q4 := E5.out; have q5 := EW.out; have q6 := E6.out; simp only [queryW, q0, q1, q2, q3, q4, q5, q6, hR, PR.then, if_true])
                  clear hR f
                  go_wp2_with fail
                  exact ⟨rfl, St.bad HV.out HF.out⟩
                | ok u r6 b6 =>
                  rw [hR] at hp
                  obtain ⟨⟨v, rfl, rfl⟩, hs9, -⟩ := hp
                  have HS8 := Lib.hid hs9
                  have E7 := Lib.hid hR
                  clear hR hs9
                  have HQ8 := Lib.hid (HQ7.out.of HS8.out)
                  have zc : wh.cell? ⟨z, 3, none⟩ = some (.bool false) := HQ8.out.s.j.1.2.cell 3
                  have xc := HQ8.out.s.j.1.2.frozen 3
                  obtain ⟨wi, hwn⟩ : ∃ wi, wh.setCell ⟨z, 3, none⟩ (.bool true) = wi := ⟨_, rfl⟩
                  have HQ9 : Hid (QS C w y z (qc (.slice A na ca) t (.pointer p5) true (.slice none 0 0)) _ wi _ _) := Lib.hid (by rw [← hwn]; exact HQ8.out.put 3 (.bool true))
                  have HWN := Lib.hid hwn
                  clear hwn
                  go_upto_region 11 with fail
                  rw [HWN.out]
                  clear zc xc HWN
                  have CA := Lib.hid (HQ9.out.s.call (lgroups_any HQ9.out.s.rd HQ9.out.s.en) (keeps_list keeps_elt))
                  unfold rp at CA
                  go_wp2_with fail
                  refine CA.out.mono ?_
                  clear CA
                  rintro e wj hp
                  cases hR : listW 16 eltW r6 b6 with
                  | bad cc p =>
                    rw [hR] at hp
                    obtain ⟨rfl, f⟩ := hp
                    have HF := Lib.hid f
                    have HV : Hid (queryW n r b = .bad cc p) := Lib.hid (by have q0 := E1.out; have q1 := E2.out; have q2 := E3.out; have q3 := E4.out; have q4 := E5.out; have q5 := EW.out; have q6 := E6.out; have q7 := E7.out; simp only [queryW, q0, q1, q2, q3, q4, q5, q6, q7, hR, PR.then, PR.map, if_true])
                    clear hR f
                    go_wp2_with fail
                    exact ⟨rfl, St.bad HV.out HF.out⟩
                  | ok gs r7 b7 =>
                    rw [hR] at hp
                    obtain ⟨⟨v, rfl, hv⟩, hs9, f9⟩ := hp
                    have HS9 := Lib.hid hs9
                    have E8 := Lib.hid hR
                    have hv : RowJ wi 3 gpG v gs wj := hv
                    obtain ⟨B, nb, cb, rfl, hnb⟩ := row_form hv
                    have HQA := Lib.hid (HQ9.out.row gpG_elem hs9 hv)
                    clear hv hnb
                    clear hR hs9 f9
                    have zc : wj.cell? ⟨z, 4, none⟩ = some (.slice none 0 0) := HQA.out.s.j.1.2.cell 4
                    have xc := HQA.out.s.j.1.2.frozen 4
                    obtain ⟨wk, hwn⟩ : ∃ wk, wj.setCell ⟨z, 4, none⟩ (.slice B nb cb) = wk := ⟨_, rfl⟩
                    have HQB : Hid (QS C w y z (qc (.slice A na ca) t (.pointer p5) true (.slice B nb cb)) _ wk _ _) := Lib.hid (by rw [← hwn]; exact HQA.out.put 4 (.slice B nb cb))
                    have HWN := Lib.hid hwn
                    clear hwn
                    go_upto_region 12 with fail
                    rw [HWN.out]
                    clear zc xc HWN
                    go_wp2_with fail
                    refine (of_any 6 wk).mono ?_
                    rintro e wx ⟨⟨mv, rfl, hm⟩, fx⟩
                    have HQX := Lib.hid (HQB.out.of (HQB.out.s.no fx))
                    have HC : Hid (Calls Tryz.prog 67 #[.pointer (some ⟨C.d, 0, none⟩), mv] wx (RdP C wx wdR (needW (ofW 6) r7 b7))) := Lib.hid (by
                      have he := HQX.out.s.en
                      obtain ⟨x, l, hxl⟩ := he.cons
                      have hrd := HQX.out.s.rd
                      rw [hxl] at hrd ⊢
                      exact need_any hrd hm)
                    clear hm fx
                    go_wp2_with fail
                    refine HC.out.mono ?_
                    clear HC
                    rintro e wz hp
                    cases hR : needW (ofW 6) r7 b7 with
                    | bad cc p =>
                      rw [hR] at hp
                      obtain ⟨f, rfl⟩ := hp
                      have HF := Lib.hid (HQX.out.s.fr.trans f fun _ _ h => h)
                      have HV : Hid (queryW n r b = .bad cc p) := Lib.hid (by have q0 := E1.out; have q1 := E2.out; have q2 := E3.out; have q3 := E4.out; have q4 := E5.out; have q5 := EW.out; have q6 := E6.out; have q7 := E7.out; have q8 := E8.out; simp only [queryW, q0, q1, q2, q3, q4, q5, q6, q7, q8, hR, PR.then, PR.map, if_true])
                      clear hR f
                      go_wp2_with fail
                      exact ⟨rfl, St.bad HV.out HF.out⟩
                    | ok x r9 b9 =>
                      rw [hR] at hp
                      obtain ⟨f, ⟨v, rfl, -⟩, hrd⟩ := hp
                      have HV : Hid (queryW n r b = .ok ⟨is, t, c, true, gs⟩ r9 b9) := Lib.hid (by have q0 := E1.out; have q1 := E2.out; have q2 := E3.out; have q3 := E4.out; have q4 := E5.out; have q5 := EW.out; have q6 := E6.out; have q7 := E7.out; have q8 := E8.out; simp only [queryW, q0, q1, q2, q3, q4, q5, q6, q7, q8, hR, PR.then, PR.map, if_true])
                      have HE := Lib.hid (HQX.out.done f hrd HV.out (fun x hh => ⟨_, _, _, rfl, row_up itG_elem hh.1.1.2 HQ1.out.s.fr.size, by have := HT8.out; unfold maxLen; show t.length ≤ _; omega, cd_up hh.1.2 HQW.out.s.fr.size, row_up gpG_elem (hh.2) (by have := HQ9.out.s.fr.size; exact this)⟩))
                      have hb := HQX.out.s.sj _ _ f HQX.out.s.j
                      have z0 : wz.cell? ⟨z, 0, none⟩ = some (.slice A na ca) := hb.1.2.cell 0
                      have z1 : wz.cell? ⟨z, 1, none⟩ = some (sv t) := hb.1.2.cell 1
                      have z2 : wz.cell? ⟨z, 2, none⟩ = some (.pointer p5) := hb.1.2.cell 2
                      have z3 : wz.cell? ⟨z, 3, none⟩ = some (.bool true) := hb.1.2.cell 3
                      have z4 : wz.cell? ⟨z, 4, none⟩ = some (.slice B nb cb) := hb.1.2.cell 4
                      have y0 : wz.cell? ⟨y, 0, none⟩ = some (.slice none 0 0) := hb.1.1.cell 0
                      have x0 := hb.1.1.frozen 0
                      have y1 : wz.cell? ⟨y, 1, none⟩ = some (.string ⟨#[]⟩) := hb.1.1.cell 1
                      have x1 := hb.1.1.frozen 1
                      have y2 : wz.cell? ⟨y, 2, none⟩ = some (.pointer none) := hb.1.1.cell 2
                      have x2 := hb.1.1.frozen 2
                      have y3 : wz.cell? ⟨y, 3, none⟩ = some (.bool false) := hb.1.1.cell 3
                      have x3 := hb.1.1.frozen 3
                      have y4 : wz.cell? ⟨y, 4, none⟩ = some (.slice none 0 0) := hb.1.1.cell 4
                      have x4 := hb.1.1.frozen 4
                      have HYN : Hid (y ≠ z) := Lib.hid (by have := HQX.out.yz; omega)
                      have hyz := HYN.out
                      clear hR f hrd hb
                      go_wp2
                      refine bodyPost_ret (v := .agg #[.slice A na ca, sv t, .pointer p5, .bool true, .slice B nb cb]) (by simp [results, Tryz.results25, go_sem, y0, y1, y2, y3, y4]) rfl ?_
                      exact HE.out
              | false =>
                have HS7 := Lib.hid (hf hn)
                have HQ7 := Lib.hid (HQY.out.of HS7.out)
                have E6 := Lib.hid hn
                clear ht hf hn
                go_wp2_with fail
                refine (of_any 6 wg).mono ?_
                rintro e wx ⟨⟨mv, rfl, hm⟩, fx⟩
                have HQX := Lib.hid (HQ7.out.of (HQ7.out.s.no fx))
                have HC : Hid (Calls Tryz.prog 67 #[.pointer (some ⟨C.d, 0, none⟩), mv] wx (RdP C wx wdR (needW (ofW 6) r5 b5))) := Lib.hid (by
                  have he := HQX.out.s.en
                  obtain ⟨x, l, hxl⟩ := he.cons
                  have hrd := HQX.out.s.rd
                  rw [hxl] at hrd ⊢
                  exact need_any hrd hm)
                clear hm fx
                go_wp2_with fail
                refine HC.out.mono ?_
                clear HC
                rintro e wz hp
                cases hR : needW (ofW 6) r5 b5 with
                | bad cc p =>
                  rw [hR] at hp
                  obtain ⟨f, rfl⟩ := hp
                  have HF := Lib.hid (HQX.out.s.fr.trans f fun _ _ h => h)
                  have HV : Hid (queryW n r b = .bad cc p) := Lib.hid (by have q0 := E1.out; have q1 := E2.out; have q2 := E3.out; have q3 := E4.out; have q4 := E5.out; have q5 := EW.out; have q6 := E6.out; simp only [queryW, q0, q1, q2, q3, q4, q5, q6, hR, PR.then, PR.map, if_true, Bool.false_eq_true, if_false])
                  clear hR f
                  go_wp2_with fail
                  exact ⟨rfl, St.bad HV.out HF.out⟩
                | ok x r9 b9 =>
                  rw [hR] at hp
                  obtain ⟨f, ⟨v, rfl, -⟩, hrd⟩ := hp
                  have HV : Hid (queryW n r b = .ok ⟨is, t, c, false, []⟩ r9 b9) := Lib.hid (by have q0 := E1.out; have q1 := E2.out; have q2 := E3.out; have q3 := E4.out; have q4 := E5.out; have q5 := EW.out; have q6 := E6.out; simp only [queryW, q0, q1, q2, q3, q4, q5, q6, hR, PR.then, PR.map, if_true, Bool.false_eq_true, if_false])
                  have HE := Lib.hid (HQX.out.done f hrd HV.out (fun x hh => ⟨_, _, _, rfl, row_up itG_elem hh.1.2 HQ1.out.s.fr.size, by have := HT8.out; unfold maxLen; show t.length ≤ _; omega, cd_up hh.2 HQW.out.s.fr.size, RowE.nil _ _ _ _⟩))
                  have hb := HQX.out.s.sj _ _ f HQX.out.s.j
                  have z0 : wz.cell? ⟨z, 0, none⟩ = some (.slice A na ca) := hb.1.2.cell 0
                  have z1 : wz.cell? ⟨z, 1, none⟩ = some (sv t) := hb.1.2.cell 1
                  have z2 : wz.cell? ⟨z, 2, none⟩ = some (.pointer p5) := hb.1.2.cell 2
                  have z3 : wz.cell? ⟨z, 3, none⟩ = some (.bool false) := hb.1.2.cell 3
                  have z4 : wz.cell? ⟨z, 4, none⟩ = some (.slice none 0 0) := hb.1.2.cell 4
                  have y0 : wz.cell? ⟨y, 0, none⟩ = some (.slice none 0 0) := hb.1.1.cell 0
                  have x0 := hb.1.1.frozen 0
                  have y1 : wz.cell? ⟨y, 1, none⟩ = some (.string ⟨#[]⟩) := hb.1.1.cell 1
                  have x1 := hb.1.1.frozen 1
                  have y2 : wz.cell? ⟨y, 2, none⟩ = some (.pointer none) := hb.1.1.cell 2
                  have x2 := hb.1.1.frozen 2
                  have y3 : wz.cell? ⟨y, 3, none⟩ = some (.bool false) := hb.1.1.cell 3
                  have x3 := hb.1.1.frozen 3
                  have y4 : wz.cell? ⟨y, 4, none⟩ = some (.slice none 0 0) := hb.1.1.cell 4
                  have x4 := hb.1.1.frozen 4
                  have HYN : Hid (y ≠ z) := Lib.hid (by have := HQX.out.yz; omega)
                  have hyz := HYN.out
                  clear hR f hrd hb
                  go_wp2
                  refine bodyPost_ret (v := .agg #[.slice A na ca, sv t, .pointer p5, .bool false, .slice none 0 0]) (by simp [results, Tryz.results25, go_sem, y0, y1, y2, y3, y4]) rfl ?_
                  exact HE.out
          | false =>
            have HSW := Lib.hid (hf hn)
            have HQW := Lib.hid (HQ6.out.of HSW.out)
            have E5 := Lib.hid hn
            clear ht hf hn
            go_wp2_with fail
            refine (says_any [71, 82, 79, 85, 80] w8).mono ?_
            rintro e wx ⟨⟨mv, rfl, hm⟩, f1⟩
            have HC := Lib.hid (takes_s (HSW.out.no f1) hm (inner_says _))
            unfold rp at HC
            clear hm f1
            go_wp2_with fail
            refine HC.out.mono ?_
            clear HC
            rintro e wg ⟨rfl, ht, hf, -⟩
            cases hn : seesW (saysW [71, 82, 79, 85, 80]) r4 with
            | true =>
              have HS7 := Lib.hid (ht hn)
              have HQ7 := Lib.hid (HQW.out.of HS7.out)
              have E6 := Lib.hid hn
              clear ht hf hn
              have CA := Lib.hid (all_s HS7.out [[66, 89]] 1 rfl (by decide) #[sv [66, 89]] rfl)
              unfold rp at CA
              go_wp2_with fail
              refine CA.out.mono ?_
              clear CA
              rintro e wh hp
              cases hR : allW [[66, 89]] r4.tail b4 with
              | bad cc p =>
                rw [hR] at hp
                obtain ⟨rfl, f⟩ := hp
                have HF := Lib.hid f
                have HV : Hid (queryW n r b = .bad cc p) := Lib.hid (by have q0 := E1.out; have q1 := E2.out; have q2 := E3.out; have q3 := E4.out; have q4 := E5.out; have q5 := E6.out; simp only [queryW, q0, q1, q2, q3, q4, q5, hR, PR.then, if_true, Bool.false_eq_true, if_false])
                clear hR f
                go_wp2_with fail
                exact ⟨rfl, St.bad HV.out HF.out⟩
              | ok u r6 b6 =>
                rw [hR] at hp
                obtain ⟨⟨v, rfl, rfl⟩, hs9, -⟩ := hp
                have HS8 := Lib.hid hs9
                have E7 := Lib.hid hR
                clear hR hs9
                have HQ8 := Lib.hid (HQ7.out.of HS8.out)
                have zc : wh.cell? ⟨z, 3, none⟩ = some (.bool false) := HQ8.out.s.j.1.2.cell 3
                have xc := HQ8.out.s.j.1.2.frozen 3
                obtain ⟨wi, hwn⟩ : ∃ wi, wh.setCell ⟨z, 3, none⟩ (.bool true) = wi := ⟨_, rfl⟩
                have HQ9 : Hid (QS C w y z (qc (.slice A na ca) t (.pointer none) true (.slice none 0 0)) _ wi _ _) := Lib.hid (by rw [← hwn]; exact HQ8.out.put 3 (.bool true))
                have HWN := Lib.hid hwn
                clear hwn
                go_upto_region 11 with fail
                rw [HWN.out]
                clear zc xc HWN
                have CA := Lib.hid (HQ9.out.s.call (lgroups_any HQ9.out.s.rd HQ9.out.s.en) (keeps_list keeps_elt))
                unfold rp at CA
                go_wp2_with fail
                refine CA.out.mono ?_
                clear CA
                rintro e wj hp
                cases hR : listW 16 eltW r6 b6 with
                | bad cc p =>
                  rw [hR] at hp
                  obtain ⟨rfl, f⟩ := hp
                  have HF := Lib.hid f
                  have HV : Hid (queryW n r b = .bad cc p) := Lib.hid (by have q0 := E1.out; have q1 := E2.out; have q2 := E3.out; have q3 := E4.out; have q4 := E5.out; have q5 := E6.out; have q6 := E7.out; simp only [queryW, q0, q1, q2, q3, q4, q5, q6, hR, PR.then, PR.map, if_true, Bool.false_eq_true, if_false])
                  clear hR f
                  go_wp2_with fail
                  exact ⟨rfl, St.bad HV.out HF.out⟩
                | ok gs r7 b7 =>
                  rw [hR] at hp
                  obtain ⟨⟨v, rfl, hv⟩, hs9, f9⟩ := hp
                  have HS9 := Lib.hid hs9
                  have E8 := Lib.hid hR
                  have hv : RowJ wi 3 gpG v gs wj := hv
                  obtain ⟨B, nb, cb, rfl, hnb⟩ := row_form hv
                  have HQA := Lib.hid (HQ9.out.row gpG_elem hs9 hv)
                  clear hv hnb
                  clear hR hs9 f9
                  have zc : wj.cell? ⟨z, 4, none⟩ = some (.slice none 0 0) := HQA.out.s.j.1.2.cell 4
                  have xc := HQA.out.s.j.1.2.frozen 4
                  obtain ⟨wk, hwn⟩ : ∃ wk, wj.setCell ⟨z, 4, none⟩ (.slice B nb cb) = wk := ⟨_, rfl⟩
                  have HQB : Hid (QS C w y z (qc (.slice A na ca) t (.pointer none) true (.slice B nb cb)) _ wk _ _) := Lib.hid (by rw [← hwn]; exact HQA.out.put 4 (.slice B nb cb))
                  have HWN := Lib.hid hwn
                  clear hwn
                  go_upto_region 12 with fail
                  rw [HWN.out]
                  clear zc xc HWN
                  go_wp2_with fail
                  refine (of_any 6 wk).mono ?_
                  rintro e wx ⟨⟨mv, rfl, hm⟩, fx⟩
                  have HQX := Lib.hid (HQB.out.of (HQB.out.s.no fx))
                  have HC : Hid (Calls Tryz.prog 67 #[.pointer (some ⟨C.d, 0, none⟩), mv] wx (RdP C wx wdR (needW (ofW 6) r7 b7))) := Lib.hid (by
                    have he := HQX.out.s.en
                    obtain ⟨x, l, hxl⟩ := he.cons
                    have hrd := HQX.out.s.rd
                    rw [hxl] at hrd ⊢
                    exact need_any hrd hm)
                  clear hm fx
                  go_wp2_with fail
                  refine HC.out.mono ?_
                  clear HC
                  rintro e wz hp
                  cases hR : needW (ofW 6) r7 b7 with
                  | bad cc p =>
                    rw [hR] at hp
                    obtain ⟨f, rfl⟩ := hp
                    have HF := Lib.hid (HQX.out.s.fr.trans f fun _ _ h => h)
                    have HV : Hid (queryW n r b = .bad cc p) := Lib.hid (by have q0 := E1.out; have q1 := E2.out; have q2 := E3.out; have q3 := E4.out; have q4 := E5.out; have q5 := E6.out; have q6 := E7.out; have q7 := E8.out; simp only [queryW, q0, q1, q2, q3, q4, q5, q6, q7, hR, PR.then, PR.map, if_true, Bool.false_eq_true, if_false])
                    clear hR f
                    go_wp2_with fail
                    exact ⟨rfl, St.bad HV.out HF.out⟩
                  | ok x r9 b9 =>
                    rw [hR] at hp
                    obtain ⟨f, ⟨v, rfl, -⟩, hrd⟩ := hp
                    have HV : Hid (queryW n r b = .ok ⟨is, t, .none, true, gs⟩ r9 b9) := Lib.hid (by have q0 := E1.out; have q1 := E2.out; have q2 := E3.out; have q3 := E4.out; have q4 := E5.out; have q5 := E6.out; have q6 := E7.out; have q7 := E8.out; simp only [queryW, q0, q1, q2, q3, q4, q5, q6, q7, hR, PR.then, PR.map, if_true, Bool.false_eq_true, if_false])
                    have HE := Lib.hid (HQX.out.done f hrd HV.out (fun x hh => ⟨_, _, _, rfl, row_up itG_elem hh.1.2 HQ1.out.s.fr.size, by have := HT8.out; unfold maxLen; show t.length ≤ _; omega, rfl, row_up gpG_elem (hh.2) (by have := HQ9.out.s.fr.size; exact this)⟩))
                    have hb := HQX.out.s.sj _ _ f HQX.out.s.j
                    have z0 : wz.cell? ⟨z, 0, none⟩ = some (.slice A na ca) := hb.1.2.cell 0
                    have z1 : wz.cell? ⟨z, 1, none⟩ = some (sv t) := hb.1.2.cell 1
                    have z2 : wz.cell? ⟨z, 2, none⟩ = some (.pointer none) := hb.1.2.cell 2
                    have z3 : wz.cell? ⟨z, 3, none⟩ = some (.bool true) := hb.1.2.cell 3
                    have z4 : wz.cell? ⟨z, 4, none⟩ = some (.slice B nb cb) := hb.1.2.cell 4
                    have y0 : wz.cell? ⟨y, 0, none⟩ = some (.slice none 0 0) := hb.1.1.cell 0
                    have x0 := hb.1.1.frozen 0
                    have y1 : wz.cell? ⟨y, 1, none⟩ = some (.string ⟨#[]⟩) := hb.1.1.cell 1
                    have x1 := hb.1.1.frozen 1
                    have y2 : wz.cell? ⟨y, 2, none⟩ = some (.pointer none) := hb.1.1.cell 2
                    have x2 := hb.1.1.frozen 2
                    have y3 : wz.cell? ⟨y, 3, none⟩ = some (.bool false) := hb.1.1.cell 3
                    have x3 := hb.1.1.frozen 3
                    have y4 : wz.cell? ⟨y, 4, none⟩ = some (.slice none 0 0) := hb.1.1.cell 4
                    have x4 := hb.1.1.frozen 4
                    have HYN : Hid (y ≠ z) := Lib.hid (by have := HQX.out.yz; omega)
                    have hyz := HYN.out
                    clear hR f hrd hb
                    go_wp2
                    refine bodyPost_ret (v := .agg #[.slice A na ca, sv t, .pointer none, .bool true, .slice B nb cb]) (by simp [results, Tryz.results25, go_sem, y0, y1, y2, y3, y4]) rfl ?_
                    exact HE.out
            | false =>
              have HS7 := Lib.hid (hf hn)
              have HQ7 := Lib.hid (HQW.out.of HS7.out)
              have E6 := Lib.hid hn
              clear ht hf hn
              go_wp2_with fail
              refine (of_any 6 wg).mono ?_
              rintro e wx ⟨⟨mv, rfl, hm⟩, fx⟩
              have HQX := Lib.hid (HQ7.out.of (HQ7.out.s.no fx))
              have HC : Hid (Calls Tryz.prog 67 #[.pointer (some ⟨C.d, 0, none⟩), mv] wx (RdP C wx wdR (needW (ofW 6) r4 b4))) := Lib.hid (by
                have he := HQX.out.s.en
                obtain ⟨x, l, hxl⟩ := he.cons
                have hrd := HQX.out.s.rd
                rw [hxl] at hrd ⊢
                exact need_any hrd hm)
              clear hm fx
              go_wp2_with fail
              refine HC.out.mono ?_
              clear HC
              rintro e wz hp
              cases hR : needW (ofW 6) r4 b4 with
              | bad cc p =>
                rw [hR] at hp
                obtain ⟨f, rfl⟩ := hp
                have HF := Lib.hid (HQX.out.s.fr.trans f fun _ _ h => h)
                have HV : Hid (queryW n r b = .bad cc p) := Lib.hid (by have q0 := E1.out; have q1 := E2.out; have q2 := E3.out; have q3 := E4.out; have q4 := E5.out; have q5 := E6.out; simp only [queryW, q0, q1, q2, q3, q4, q5, hR, PR.then, PR.map, Bool.false_eq_true, if_false])
                clear hR f
                go_wp2_with fail
                exact ⟨rfl, St.bad HV.out HF.out⟩
              | ok x r9 b9 =>
                rw [hR] at hp
                obtain ⟨f, ⟨v, rfl, -⟩, hrd⟩ := hp
                have HV : Hid (queryW n r b = .ok ⟨is, t, .none, false, []⟩ r9 b9) := Lib.hid (by have q0 := E1.out; have q1 := E2.out; have q2 := E3.out; have q3 := E4.out; have q4 := E5.out; have q5 := E6.out; simp only [queryW, q0, q1, q2, q3, q4, q5, hR, PR.then, PR.map, Bool.false_eq_true, if_false])
                have HE := Lib.hid (HQX.out.done f hrd HV.out (fun x hh => ⟨_, _, _, rfl, row_up itG_elem hh.2 HQ1.out.s.fr.size, by have := HT8.out; unfold maxLen; show t.length ≤ _; omega, rfl, RowE.nil _ _ _ _⟩))
                have hb := HQX.out.s.sj _ _ f HQX.out.s.j
                have z0 : wz.cell? ⟨z, 0, none⟩ = some (.slice A na ca) := hb.1.2.cell 0
                have z1 : wz.cell? ⟨z, 1, none⟩ = some (sv t) := hb.1.2.cell 1
                have z2 : wz.cell? ⟨z, 2, none⟩ = some (.pointer none) := hb.1.2.cell 2
                have z3 : wz.cell? ⟨z, 3, none⟩ = some (.bool false) := hb.1.2.cell 3
                have z4 : wz.cell? ⟨z, 4, none⟩ = some (.slice none 0 0) := hb.1.2.cell 4
                have y0 : wz.cell? ⟨y, 0, none⟩ = some (.slice none 0 0) := hb.1.1.cell 0
                have x0 := hb.1.1.frozen 0
                have y1 : wz.cell? ⟨y, 1, none⟩ = some (.string ⟨#[]⟩) := hb.1.1.cell 1
                have x1 := hb.1.1.frozen 1
                have y2 : wz.cell? ⟨y, 2, none⟩ = some (.pointer none) := hb.1.1.cell 2
                have x2 := hb.1.1.frozen 2
                have y3 : wz.cell? ⟨y, 3, none⟩ = some (.bool false) := hb.1.1.cell 3
                have x3 := hb.1.1.frozen 3
                have y4 : wz.cell? ⟨y, 4, none⟩ = some (.slice none 0 0) := hb.1.1.cell 4
                have x4 := hb.1.1.frozen 4
                have HYN : Hid (y ≠ z) := Lib.hid (by have := HQX.out.yz; omega)
                have hyz := HYN.out
                clear hR f hrd hb
                go_wp2
                refine bodyPost_ret (v := .agg #[.slice A na ca, sv t, .pointer none, .bool false, .slice none 0 0]) (by simp [results, Tryz.results25, go_sem, y0, y1, y2, y3, y4]) rfl ?_
                exact HE.out
end Go.Proofs.YtkcnbmgaeompjaaGreatDoor
/- Reading a query: what is caught; how deep a condition is. -/
namespace Go.Proofs.YtkcnbmgaeompjaaGreatDoor
open Go.RowKit Go.Maps
set_option linter.unusedVariables false

theorem assert_flt (c p : Nat) (w : World) : (Instr.typeAssert (flt c p) 20 30 true).run Tryz.prog w = .ok (.tuple #[.agg #[.int .i64 (c : Nat), .int .i64 (p : Nat)], .bool true]) w := by kernel_rfl
set_option maxRecDepth 100000 in
theorem pcause_any (c p : Nat) (w : World) : Calls Tryz.prog 24 #[flt c p] w fun e w' => e = .returned (.agg #[.int .i64 (c : Nat), .int .i64 (p : Nat)]) ∧ Fr No w w' := by
  have hta := fun w => assert_flt c p w
  generalize flt c p = F at *
  obtain ⟨w0, hw0⟩ : ∃ w0, w.alloc (.cells #[.int .i64 0, .int .i64 0] 30) = w0 := ⟨_, rfl⟩
  obtain ⟨y, hy⟩ : ∃ y, w.heap.size = y := ⟨_, rfl⟩
  have f0 : Fr No w w0 := by rw [← hw0]; exact (Fr.refl No w).alloc _
  have hb0 : Blk w0 y 30 #[.int .i64 0, .int .i64 0] := by rw [← hw0, ← hy]; exact Blk.new w 30 _
  have hs0 : w0.heap.size = y + 1 := by rw [← hw0, ← hy]; simp
  generalize (c : Int) = ci at *
  generalize (p : Int) = pi at *
  obtain ⟨w1, hw1⟩ : ∃ w1, w0.alloc (.cells #[.int .i64 ci, .int .i64 pi] 30) = w1 := ⟨_, rfl⟩
  have f1 : Fr No w0 w1 := by rw [← hw1]; exact (Fr.refl No w0).alloc _
  have hb1 : Blk w1 (y + 1) 30 #[.int .i64 ci, .int .i64 pi] := by rw [← hw1, ← hs0]; exact Blk.new w0 30 _
  have hby := hb0.of (f1.block y hb0.lt id)
  have c0 : w1.cell? ⟨y + 1, 0, none⟩ = some (.int .i64 ci) := hb1.cell 0
  have c1 : w1.cell? ⟨y + 1, 1, none⟩ = some (.int .i64 pi) := hb1.cell 1
  have d0 : w1.cell? ⟨y, 0, none⟩ = some (.int .i64 0) := hby.cell 0
  have d1 : w1.cell? ⟨y, 1, none⟩ = some (.int .i64 0) := hby.cell 1
  have x0 := hby.frozen 0
  have x1 := hby.frozen 1
  have F1 := Lib.hid (f0.trans f1 fun _ _ h => h)
  have HW0 := Lib.hid hw0
  have HW1 := Lib.hid hw1
  have HY := Lib.hid hy
  have HS0 := Lib.hid hs0
  have HYL : Hid (w.heap.size ≤ y) := Lib.hid (by omega)
  clear f0 hb0 f1 hb1 hby hw0 hw1 hy hs0
  go_enter Tryz.func24, Tryz.ntmps24
  go_upto_region 1 with fail
  rw [HW0.out, HY.out]
  go_upto_region 2 with fail
  rw [HS0.out, HW1.out]
  go_wp2
  refine bodyPost_ret (v := .agg #[.int .i64 ci, .int .i64 pi]) (by simp [results, Tryz.results24, go_sem, d0, d1]) rfl ?_
  exact ⟨rfl, fr_new (fr_new F1.out HYL.out) HYL.out⟩
def CaughtP (p2 p3 c p : Nat) (w w' : World) : Prop := Blk w' p2 27 z27 ∧ Blk w' p3 30 #[.int .i64 (c : Nat), .int .i64 (p : Nat)] ∧ Fr (fun k => k = p2 ∨ k = p3) w w'
set_option maxRecDepth 100000 in
theorem parse_caught (p2 p3 c p : Nat) (older : List PanicEntry) (w : World) {a0 a1 a2 a3 a4 b0 b1 : Value} (h2 : Blk w p2 27 #[a0, a1, a2, a3, a4]) (h3 : Blk w p3 30 #[b0, b1]) (n23 : p2 ≠ p3) :
    CallsD Tryz.prog 23 #[.pointer (some ⟨p2, 0, none⟩), .pointer (some ⟨p3, 0, none⟩)] (.panicking ({ v := flt c p, recovered := false } :: older)) w fun e u' w' =>
      e = .returned (.tuple #[]) ∧ u' = .panicking ({ v := flt c p, recovered := true } :: older) ∧ CaughtP p2 p3 c p w w' := by
  have HCA := Lib.hid (fun w => pcause_any c p w)
  have hne : (binOp .neq 20 (flt c p) .nilIface).run Tryz.prog w = .ok (.bool true) w := by unfold flt; simp [go_sem]
  have hgd : ∀ x y, (eqGuard .neq 20 x y (flt c p) .nilIface).run Tryz.prog w = .ok () w := fun x y => by unfold flt; simp [go_sem, eqGuard]
  have H2 := Lib.hid h2
  have H3 := Lib.hid h3
  have N23 := Lib.hid n23
  have HEND : Hid (∀ w1, Fr No w w1 → CaughtP p2 p3 c p w (((((((w1.setCell ⟨p2, 0, none⟩ (.slice none 0 0)).setCell ⟨p2, 1, none⟩ (.string ⟨#[]⟩)).setCell ⟨p2, 2, none⟩ (.pointer none)).setCell ⟨p2, 3, none⟩ (.bool false)).setCell ⟨p2, 4, none⟩ (.slice none 0 0)).setCell ⟨p3, 0, none⟩ (.int .i64 (c : Nat))).setCell ⟨p3, 1, none⟩ (.int .i64 (p : Nat)))) := Lib.hid fun w1 f1 => by
    have g2 := h2.of (f1.block p2 h2.lt id)
    have g3 := h3.of (f1.block p3 h3.lt id)
    have e2 : Fr (fun k => k = p2) w1 (((((w1.setCell ⟨p2, 0, none⟩ (.slice none 0 0)).setCell ⟨p2, 1, none⟩ (.string ⟨#[]⟩)).setCell ⟨p2, 2, none⟩ (.pointer none)).setCell ⟨p2, 3, none⟩ (.bool false)).setCell ⟨p2, 4, none⟩ (.slice none 0 0)) := fr_set (fr_set (fr_set (fr_set (fr_set (Fr.refl _ w1)))))
    have k2 : Blk (((((w1.setCell ⟨p2, 0, none⟩ (.slice none 0 0)).setCell ⟨p2, 1, none⟩ (.string ⟨#[]⟩)).setCell ⟨p2, 2, none⟩ (.pointer none)).setCell ⟨p2, 3, none⟩ (.bool false)).setCell ⟨p2, 4, none⟩ (.slice none 0 0)) p2 27 z27 := ((((g2.set_ 0 _).set_ 1 _).set_ 2 _).set_ 3 _).set_ 4 _
    have k3 := g3.of (e2.block p3 g3.lt (fun e => n23 e.symm))
    generalize ((((w1.setCell ⟨p2, 0, none⟩ (.slice none 0 0)).setCell ⟨p2, 1, none⟩ (.string ⟨#[]⟩)).setCell ⟨p2, 2, none⟩ (.pointer none)).setCell ⟨p2, 3, none⟩ (.bool false)).setCell ⟨p2, 4, none⟩ (.slice none 0 0) = w2 at *
    have e3 : Fr (fun k => k = p3) w2 ((w2.setCell ⟨p3, 0, none⟩ (.int .i64 (c : Nat))).setCell ⟨p3, 1, none⟩ (.int .i64 (p : Nat))) := fr_set (fr_set (Fr.refl _ w2))
    exact ⟨k2.of (e3.block p2 k2.lt n23), (k3.set_ 0 _).set_ 1 _, (f1.any.trans (e2.mono fun k _ h => .inl h) fun _ _ h => h).trans (e3.mono fun k _ h => .inr h) fun _ _ h => h⟩
  clear h2 h3
  refine callsD_of_wpS Tryz.func23 rfl fun c₀ cs hu => ?_
  apply wpS_seq
  apply wpS_region
  simp [wpOpsS, go_sem, recoverD, hu, Tryz.ntmps23, Exit.thenS]
  refine wpS_of_wp ?_
  change Code.wp _ _ _ { tmps := #[.pointer (some ⟨p2, 0, none⟩), .pointer (some ⟨p3, 0, none⟩), flt c p, flt c p, undef, undef, undef, undef, undef], defers := [] } _
  generalize flt c p = F at *
  go_wp2_with fail
  refine (HCA.out _).mono ?_
  rintro e w1 ⟨rfl, f1⟩
  have g2 := H2.out.of (f1.block p2 H2.out.lt id)
  have g3 := H3.out.of (f1.block p3 H3.out.lt id)
  have z0 : w1.cell? ⟨p2, 0, none⟩ = some a0 := g2.cell 0
  have z1 : w1.cell? ⟨p2, 1, none⟩ = some a1 := g2.cell 1
  have z2 : w1.cell? ⟨p2, 2, none⟩ = some a2 := g2.cell 2
  have z3 : w1.cell? ⟨p2, 3, none⟩ = some a3 := g2.cell 3
  have z4 : w1.cell? ⟨p2, 4, none⟩ = some a4 := g2.cell 4
  have u0 : w1.cell? ⟨p3, 0, none⟩ = some b0 := g3.cell 0
  have u1 : w1.cell? ⟨p3, 1, none⟩ = some b1 := g3.cell 1
  have x0 := g2.frozen 0
  have x1 := g2.frozen 1
  have x2 := g2.frozen 2
  have x3 := g2.frozen 3
  have x4 := g2.frozen 4
  have y0 := g3.frozen 0
  have y1 := g3.frozen 1
  have n23 := N23.out
  have HX := Lib.hid (HEND.out w1 f1)
  clear g2 g3 f1
  go_wp2
  simp [bodyPostS, results, Tryz.results23, go_sem]
  exact HX.out
set_option maxRecDepth 100000 in
theorem parse_idle (p2 p3 : Nat) (w : World) :
    CallsD Tryz.prog 23 #[.pointer (some ⟨p2, 0, none⟩), .pointer (some ⟨p3, 0, none⟩)] .returning w fun e u' w' => e = .returned (.tuple #[]) ∧ u' = .returning ∧ w' = w := by
  refine callsD_of_wpS Tryz.func23 rfl fun c₀ cs hu => ?_
  apply wpS_seq
  apply wpS_region
  simp [wpOpsS, go_sem, recoverD, hu, Tryz.ntmps23, Exit.thenS]
  refine wpS_of_wp ?_
  change Code.wp _ _ _ { tmps := #[.pointer (some ⟨p2, 0, none⟩), .pointer (some ⟨p3, 0, none⟩), .nilIface, .nilIface, undef, undef, undef, undef, undef], defers := [] } _
  go_wp2
  cases c₀
  simp_all [bodyPostS, results, Tryz.results23, go_sem]
end Go.Proofs.YtkcnbmgaeompjaaGreatDoor
/- Reading a query: how deep a condition is. -/
namespace Go.Proofs.YtkcnbmgaeompjaaGreatDoor
open Go.RowKit Go.Maps
set_option linter.unusedVariables false

set_option maxRecDepth 100000 in
set_option maxHeartbeats 8000000 in
theorem depth_any (K : Nat → Prop) : ∀ (c : Cd) (v : Value) (w : World), CdAt K w c v → depthW c ≤ 1000000 → Calls Tryz.prog 27 #[v] w fun e w' => e = .returned (.int .i64 (depthW c : Nat)) ∧ Fr No w w'
  | .none, v, w, h, _ => by
    obtain rfl : v = .pointer none := h
    go_enter Tryz.func27, Tryz.ntmps27
    go_wp2
    go_ret
    exact ⟨rfl, Fr.refl _ _⟩
  | .node k l r col op vals, v, w, h, hd => by
    obtain ⟨g, o, L, R, V, rfl, -, hgl, -, c1, c2, -, -, -, hl, hr, -⟩ := h
    simp only [depthW] at hd
    have HL : Hid (∀ w', Fr No w w' → Calls Tryz.prog 27 #[L] w' fun e w'' => e = .returned (.int .i64 (depthW l : Nat)) ∧ Fr No w' w'') := Lib.hid fun w' f => depth_any K l L w' (hl.mono fun k hk hkl => ⟨hk, f.block k hkl id⟩) (by omega)
    have HR : Hid (∀ w', Fr No w w' → Calls Tryz.prog 27 #[R] w' fun e w'' => e = .returned (.int .i64 (depthW r : Nat)) ∧ Fr No w' w'') := Lib.hid fun w' f => depth_any K r R w' (hr.mono fun k hk hkl => ⟨hk, f.block k hkl id⟩) (by omega)
    have HCL : Hid (∀ w', Fr No w w' → w'.cell? ⟨g, o + 1, none⟩ = some L ∧ w'.cell? ⟨g, o + 2, none⟩ = some R) := Lib.hid fun w' f => by
      rw [cell_of_heap (f.block g hgl id), cell_of_heap (f.block g hgl id)]
      exact ⟨c1, c2⟩
    have FD : Hid (Fr No w w.drew) := Lib.hid (Fr.refl No w).drew
    have HV : Hid (IntKind.i64.wrap ((1 : Int) + max (depthW l : Int) (depthW r : Int)) = ((depthW (.node k l r col op vals) : Nat) : Int)) := Lib.hid (by rw [IntWalk.i64_in _ (by omega)]; simp only [depthW]; omega)
    have hb1 : depthW l ≤ 1000000 := by omega
    have hb2 : depthW r ≤ 1000000 := by omega
    generalize depthW l = a at *
    generalize depthW r = d at *
    clear hl hr c1 c2 hgl hd
    go_enter Tryz.func27, Tryz.ntmps27
    go_upto_region 3 with fail
    refine wp_region_held_drew (S := fun w' => w'.cell? ⟨g, o + 1, none⟩ = some L ∧ w'.cell? ⟨g, o + 2, none⟩ = some R) (by kernel_rfl) (HCL.out _ FD.out) (fun hHeld => ?_)
    refine wpAnyH_take (i := 0) (oi := ({ dst := some 5, op := Go.Op.move (Go.Operand.tmp 0), type := 24, pos := "grammar.go:142", after := #[], guard := none } : Go.Oper)) (v := ?_) rfl (by kernel_rfl) (by kernel_rfl) (by kernel_rfl) (fun _ _ _ h => h) (Or.inl ⟨by rfl, ?_⟩) (by assumption) ?_
    rotate_left 1
    · intro w hSw; (try dsimp only at hSw); first | (go_simp; done) | (go_simp; with_reducible rfl)
    try simp only [Act.put, List.setIfInBounds_toArray, List.set_cons_zero, List.set_cons_succ]
    refine wpAnyH_take (i := 1) (oi := ({ dst := some 6, op := Go.Op.nilCheck (Go.Operand.tmp 5), type := 0, pos := "grammar.go:142", after := #[{ on := 0, ground := Go.Ground.data }], guard := none } : Go.Oper)) (v := ?_) rfl (by kernel_rfl) (by kernel_rfl) (by kernel_rfl) (fun _ _ _ h => h) (Or.inl ⟨by rfl, ?_⟩) (by assumption) ?_
    rotate_left 1
    · intro w hSw; (try dsimp only at hSw); first | (go_simp; done) | (go_simp; with_reducible rfl)
    try simp only [Act.put, List.setIfInBounds_toArray, List.set_cons_zero, List.set_cons_succ]
    refine wpAnyH_take (i := 2) (oi := ({ dst := some 7, op := Go.Op.fieldAddr 50 (Go.Operand.tmp 6) 1, type := 0, pos := "grammar.go:142", after := #[{ on := 1, ground := Go.Ground.data }], guard := none } : Go.Oper)) (v := ?_) rfl (by kernel_rfl) (by kernel_rfl) (by kernel_rfl) (fun _ _ _ h => h) (Or.inl ⟨by rfl, ?_⟩) (by assumption) ?_
    rotate_left 1
    · intro w hSw; (try dsimp only at hSw); first | (go_simp; done) | (go_simp; with_reducible rfl)
    try simp only [Act.put, List.setIfInBounds_toArray, List.set_cons_zero, List.set_cons_succ]
    refine wpAnyH_take (i := 3) (oi := ({ dst := some 8, op := Go.Op.load 24 (Go.Operand.tmp 7), type := 24, pos := "grammar.go:142", after := #[{ on := 2, ground := Go.Ground.data }], guard := none } : Go.Oper)) (v := ?_) rfl (by kernel_rfl) (by kernel_rfl) (by kernel_rfl) (fun _ _ _ h => h) (Or.inl ⟨by rfl, ?_⟩) (by assumption) ?_
    rotate_left 1
    · intro w hSw; (try dsimp only at hSw); first | (go_simp; done) | (go_simp; with_reducible rfl)
    try simp only [Act.put, List.setIfInBounds_toArray, List.set_cons_zero, List.set_cons_succ]
    refine wpAnyH_take (i := 5) (oi := ({ dst := some 10, op := Go.Op.move (Go.Operand.tmp 0), type := 24, pos := "grammar.go:142", after := #[], guard := none } : Go.Oper)) (v := ?_) rfl (by kernel_rfl) (by kernel_rfl) (by kernel_rfl) (fun _ _ _ h => h) (Or.inl ⟨by rfl, ?_⟩) (by assumption) ?_
    rotate_left 1
    · intro w hSw; (try dsimp only at hSw); first | (go_simp; done) | (go_simp; with_reducible rfl)
    try simp only [Act.put, List.setIfInBounds_toArray, List.set_cons_zero, List.set_cons_succ]
    refine wpAnyH_take (i := 6) (oi := ({ dst := some 11, op := Go.Op.nilCheck (Go.Operand.tmp 10), type := 0, pos := "grammar.go:142", after := #[{ on := 5, ground := Go.Ground.data }], guard := none } : Go.Oper)) (v := ?_) rfl (by kernel_rfl) (by kernel_rfl) (by kernel_rfl) (fun _ _ _ h => h) (Or.inl ⟨by rfl, ?_⟩) (by assumption) ?_
    rotate_left 1
    · intro w hSw; (try dsimp only at hSw); first | (go_simp; done) | (go_simp; with_reducible rfl)
    try simp only [Act.put, List.setIfInBounds_toArray, List.set_cons_zero, List.set_cons_succ]
    refine wpAnyH_take (i := 7) (oi := ({ dst := some 12, op := Go.Op.fieldAddr 50 (Go.Operand.tmp 11) 2, type := 0, pos := "grammar.go:142", after := #[{ on := 6, ground := Go.Ground.data }], guard := none } : Go.Oper)) (v := ?_) rfl (by kernel_rfl) (by kernel_rfl) (by kernel_rfl) (fun _ _ _ h => h) (Or.inl ⟨by rfl, ?_⟩) (by assumption) ?_
    rotate_left 1
    · intro w hSw; (try dsimp only at hSw); first | (go_simp; done) | (go_simp; with_reducible rfl)
    try simp only [Act.put, List.setIfInBounds_toArray, List.set_cons_zero, List.set_cons_succ]
    refine wpAnyH_take (i := 8) (oi := ({ dst := some 13, op := Go.Op.load 24 (Go.Operand.tmp 12), type := 24, pos := "grammar.go:142", after := #[{ on := 7, ground := Go.Ground.data }], guard := none } : Go.Oper)) (v := ?_) rfl (by kernel_rfl) (by kernel_rfl) (by kernel_rfl) (fun _ _ _ h => h) (Or.inl ⟨by rfl, ?_⟩) (by assumption) ?_
    rotate_left 1
    · intro w hSw; (try dsimp only at hSw); first | (go_simp; done) | (go_simp; with_reducible rfl)
    try simp only [Act.put, List.setIfInBounds_toArray, List.set_cons_zero, List.set_cons_succ]
    refine wpAnyH_ready (rs := [4]) (by kernel_rfl) (by simp) ?_
    refine AllReadyH.cons (o := ({ dst := some 9, op := Go.Op.call { callee := Go.Callee.value (Go.Operand.func 27), args := #[Go.Operand.tmp 8], argTypes := #[24] }, type := 3, pos := "grammar.go:142", after := #[{ on := 3, ground := Go.Ground.data }], guard := none } : Go.Oper)) rfl (fun K hK => ?_) AllReadyH.nil
    go_simp
    (go_at_call 27; (with_reducible refine (HL.out _ FD.out).mono ?_); rintro e wl ⟨rfl, fl⟩; have FL := Lib.hid (FD.out.trans fl fun _ _ h => h); clear fl)
    try (go_wp2_with fail)
    refine hK.out _ _ (HCL.out _ FL.out) (fun hHeld1 => ?_)
    clear hK K
    try simp only [Act.put, List.setIfInBounds_toArray, List.set_cons_zero, List.set_cons_succ]
    refine wpAnyH_ready (rs := [9]) (by kernel_rfl) (by simp) ?_
    refine AllReadyH.cons (o := ({ dst := some 14, op := Go.Op.call { callee := Go.Callee.value (Go.Operand.func 27), args := #[Go.Operand.tmp 13], argTypes := #[24] }, type := 3, pos := "grammar.go:142", after := #[{ on := 8, ground := Go.Ground.data }, { on := 4, ground := Go.Ground.chain }], guard := none } : Go.Oper)) rfl (fun K hK => ?_) AllReadyH.nil
    go_simp
    (go_at_call 27; (with_reducible refine (HR.out _ FL.out).mono ?_); rintro e wr ⟨rfl, fr⟩; have FR := Lib.hid (FL.out.trans fr fun _ _ h => h); clear fr)
    try (go_wp2_with fail)
    refine hK.out _ _ (HCL.out _ FR.out) (fun hHeld2 => ?_)
    clear hK K
    try simp only [Act.put, List.setIfInBounds_toArray, List.set_cons_zero, List.set_cons_succ]
    refine wpAnyH_ready (rs := [10]) (by kernel_rfl) (by simp) ?_
    refine AllReadyH.cons (o := ({ dst := some 15, op := Go.Op.call { callee := Go.Callee.builtin Go.Builtin.max, args := #[Go.Operand.tmp 9, Go.Operand.tmp 14], argTypes := #[3, 3] }, type := 3, pos := "grammar.go:142", after := #[{ on := 4, ground := Go.Ground.data }, { on := 9, ground := Go.Ground.data }], guard := none } : Go.Oper)) rfl (fun K hK => ?_) AllReadyH.nil
    go_simp
    refine hK.out _ _ (HCL.out _ FR.out) (fun hHeld3 => ?_)
    clear hK K
    try simp only [Act.put, List.setIfInBounds_toArray, List.set_cons_zero, List.set_cons_succ]
    refine wpAnyH_take (i := 11) (oi := ({ dst := some 16, op := Go.Op.binOp Go.BinOp.add 3 (Go.Operand.const (Go.Value.int Go.IntKind.i64 1)) (Go.Operand.tmp 15) 3, type := 3, pos := "grammar.go:142", after := #[{ on := 10, ground := Go.Ground.data }], guard := none } : Go.Oper)) (v := ?_) rfl (by kernel_rfl) (by kernel_rfl) (by kernel_rfl) (fun _ _ _ h => h) (Or.inl ⟨by rfl, ?_⟩) (by assumption) ?_
    rotate_left 1
    · intro w hSw; (try dsimp only at hSw); first | (go_simp; done) | (go_simp; with_reducible rfl)
    try simp only [Act.put, List.setIfInBounds_toArray, List.set_cons_zero, List.set_cons_succ]
    refine wpAnyH_take (i := 12) (oi := ({ dst := some 2, op := Go.Op.assign (Go.Operand.tmp 16), type := 3, pos := "grammar.go:142", after := #[{ on := 11, ground := Go.Ground.data }, { on := 9, ground := Go.Ground.chain }, { on := 0, ground := Go.Ground.phase }, { on := 1, ground := Go.Ground.phase }, { on := 2, ground := Go.Ground.phase }, { on := 3, ground := Go.Ground.phase }, { on := 4, ground := Go.Ground.phase }, { on := 5, ground := Go.Ground.phase }, { on := 6, ground := Go.Ground.phase }, { on := 7, ground := Go.Ground.phase }, { on := 8, ground := Go.Ground.phase }, { on := 9, ground := Go.Ground.phase }, { on := 10, ground := Go.Ground.phase }, { on := 11, ground := Go.Ground.phase }], guard := none } : Go.Oper)) (v := ?_) rfl (by kernel_rfl) (by kernel_rfl) (by kernel_rfl) (fun _ _ _ h => h) (Or.inl ⟨by rfl, ?_⟩) (by assumption) ?_
    rotate_left 1
    · intro w hSw; (try dsimp only at hSw); first | (go_simp; done) | (go_simp; with_reducible rfl)
    try simp only [Act.put, List.setIfInBounds_toArray, List.set_cons_zero, List.set_cons_succ]
    refine wpAnyH_done (by kernel_rfl) ?_ _
    go_wp2_with fail
    go_ret
    exact ⟨ret_int HV.out, FR.out⟩
end Go.Proofs.YtkcnbmgaeompjaaGreatDoor
/- Reading a query: Parse. -/
namespace Go.Proofs.YtkcnbmgaeompjaaGreatDoor
open Go.RowKit Go.Maps
set_option linter.unusedVariables false

/-- What Parse tells. -/
def ParsedP (t : Tx) (w : World) (e : Ending) (w' : World) : Prop :=
  ∃ v, e = .returned (.tuple #[v, .agg #[.int .i64 ((parseW t).2.1 : Nat), .int .i64 ((parseW t).2.2 : Nat)]]) ∧ QyAt (fun k => w.heap.size ≤ k) w' (parseW t).1 v ∧ Fr No w w'
theorem qy0_at (K : Nat → Prop) (w : World) : QyAt K w Qy0 (.agg z27) := ⟨_, _, _, rfl, RowE.nil _ _ _ _, by decide, rfl, RowE.nil _ _ _ _⟩
theorem Fr.notnew {w w' : World} {F : Nat → Prop} (h : Fr F w w') (hF : ∀ k, F k → w.heap.size ≤ k) : Fr No w w' := h.mono fun k hk hf => by have := hF k hf; omega
/-- The ways' ends: the two result blocks. -/
theorem parsed_bad {t : Tx} {w w1 w2 : World} {p2 p3 c p : Nat} (hv : parseW t = (Qy0, c, p)) (f1 : Fr No w w1) (h : CaughtP p2 p3 c p w1 w2) (h2 : w.heap.size ≤ p2) (h3 : w.heap.size ≤ p3) :
    ParsedP t w (.returned (.tuple #[.agg z27, .agg #[.int .i64 (c : Nat), .int .i64 (p : Nat)]])) w2 := by
  unfold ParsedP
  rw [hv]
  refine ⟨_, rfl, qy0_at _ _, ?_⟩
  have : Fr (fun k => k = p2 ∨ k = p3) w w2 := f1.any.trans h.2.2 fun _ _ h => h
  exact this.notnew fun k hk => by rcases hk with rfl | rfl <;> assumption
def qput (w : World) (p2 : Nat) (a b c d e : Value) : World := ((((w.setCell ⟨p2, 0, none⟩ a).setCell ⟨p2, 1, none⟩ b).setCell ⟨p2, 2, none⟩ c).setCell ⟨p2, 3, none⟩ d).setCell ⟨p2, 4, none⟩ e
theorem both_put {w w1 : World} {p2 p3 : Nat} {a0 a1 a2 a3 a4 b0 b1 a b c d e f g : Value} (h2 : Blk w p2 27 #[a0, a1, a2, a3, a4]) (h3 : Blk w p3 30 #[b0, b1]) (n23 : p2 ≠ p3) (f1 : Fr No w w1) :
    Blk (((qput w1 p2 a b c d e).setCell ⟨p3, 0, none⟩ f).setCell ⟨p3, 1, none⟩ g) p2 27 #[a, b, c, d, e] ∧ Blk (((qput w1 p2 a b c d e).setCell ⟨p3, 0, none⟩ f).setCell ⟨p3, 1, none⟩ g) p3 30 #[f, g] ∧ Fr (fun k => k = p2 ∨ k = p3) w (((qput w1 p2 a b c d e).setCell ⟨p3, 0, none⟩ f).setCell ⟨p3, 1, none⟩ g) := by
  have g2 := h2.of (f1.block p2 h2.lt id)
  have g3 := h3.of (f1.block p3 h3.lt id)
  have e2 : Fr (fun k => k = p2) w1 (qput w1 p2 a b c d e) := fr_set (fr_set (fr_set (fr_set (fr_set (Fr.refl _ w1)))))
  have k2 : Blk (qput w1 p2 a b c d e) p2 27 #[a, b, c, d, e] := ((((g2.set_ 0 _).set_ 1 _).set_ 2 _).set_ 3 _).set_ 4 _
  have k3 := g3.of (e2.block p3 g3.lt (fun e => n23 e.symm))
  generalize qput w1 p2 a b c d e = w2 at *
  have e3 : Fr (fun k => k = p3) w2 ((w2.setCell ⟨p3, 0, none⟩ f).setCell ⟨p3, 1, none⟩ g) := fr_set (fr_set (Fr.refl _ w2))
  exact ⟨k2.of (e3.block p2 k2.lt n23), (k3.set_ 0 _).set_ 1 _, (f1.any.trans (e2.mono fun k _ h => .inl h) fun _ _ h => h).trans (e3.mono fun k _ h => .inr h) fun _ _ h => h⟩
/-- Parse leaves: the results are its two blocks. -/
theorem parse_results {w : World} {tmps : Array Value} {p2 p3 : Nat} {a0 a1 a2 a3 a4 b0 b1 : Value} (t2 : tmps[2]? = some (.pointer (some ⟨p2, 0, none⟩))) (t3 : tmps[3]? = some (.pointer (some ⟨p3, 0, none⟩))) (h2 : Blk w p2 27 #[a0, a1, a2, a3, a4]) (h3 : Blk w p3 30 #[b0, b1]) :
    (results Tryz.f13 tmps).run Tryz.prog w = .ok (.tuple #[.agg #[a0, a1, a2, a3, a4], .agg #[b0, b1]]) w := by
  have v0 : w.cell? ⟨p2, 0, none⟩ = some a0 := h2.cell 0
  have v1 : w.cell? ⟨p2, 1, none⟩ = some a1 := h2.cell 1
  have v2 : w.cell? ⟨p2, 2, none⟩ = some a2 := h2.cell 2
  have v3 : w.cell? ⟨p2, 3, none⟩ = some a3 := h2.cell 3
  have v4 : w.cell? ⟨p2, 4, none⟩ = some a4 := h2.cell 4
  have u0 : w.cell? ⟨p3, 0, none⟩ = some b0 := h3.cell 0
  have u1 : w.cell? ⟨p3, 1, none⟩ = some b1 := h3.cell 1
  simp [results, Tryz.results13, go_sem, t2, t3, v0, v1, v2, v3, v4, u0, u1]
theorem parse_leaves_bad {t : Tx} {w wx : World} {tmps : Array Value} {p2 p3 c p : Nat} {a0 a1 a2 a3 a4 b0 b1 : Value} (hv : parseW t = (Qy0, c, p)) (f : Fr No w wx) (b2 : Blk wx p2 27 #[a0, a1, a2, a3, a4]) (b3 : Blk wx p3 30 #[b0, b1]) (n23 : p2 ≠ p3) (h2 : w.heap.size ≤ p2) (h3 : w.heap.size ≤ p3)
    (t2 : tmps[2]? = some (.pointer (some ⟨p2, 0, none⟩))) (t3 : tmps[3]? = some (.pointer (some ⟨p3, 0, none⟩))) :
    bodyPostD Tryz.prog Tryz.f13 (ParsedP t w) (.panic [{ v := flt c p, recovered := false }]) { tmps := tmps, defers := [{ target := .fn (.func 23) #[.pointer (some ⟨p2, 0, none⟩), .pointer (some ⟨p3, 0, none⟩)], args := #[] }] } wx := by
  refine leaves_cons (f := 23) (args := #[.pointer (some ⟨p2, 0, none⟩), .pointer (some ⟨p3, 0, none⟩)]) (by simp) (by simp [go_sem]) ?_
  refine (parse_caught p2 p3 c p [] wx b2 b3 n23).mono ?_
  rintro e u' w' ⟨rfl, rfl, hc⟩
  exact ⟨_, parse_results t2 t3 hc.1 hc.2.1, parsed_bad hv f hc h2 h3⟩
theorem parse_leaves_ok {t : Tx} {w wx : World} {tmps : Array Value} {p2 p3 c p : Nat} {q : Qy} {a0 a1 a2 a3 a4 : Value} (hv : parseW t = (q, c, p)) (f : Fr No w wx) (b2 : Blk wx p2 27 #[a0, a1, a2, a3, a4]) (b3 : Blk wx p3 30 #[.int .i64 (c : Nat), .int .i64 (p : Nat)]) (hq : QyAt (fun k => w.heap.size ≤ k) wx q (.agg #[a0, a1, a2, a3, a4]))
    (t2 : tmps[2]? = some (.pointer (some ⟨p2, 0, none⟩))) (t3 : tmps[3]? = some (.pointer (some ⟨p3, 0, none⟩))) :
    bodyPostD Tryz.prog Tryz.f13 (ParsedP t w) .ret { tmps := tmps, defers := [{ target := .fn (.func 23) #[.pointer (some ⟨p2, 0, none⟩), .pointer (some ⟨p3, 0, none⟩)], args := #[] }] } wx := by
  refine leaves_cons (f := 23) (args := #[.pointer (some ⟨p2, 0, none⟩), .pointer (some ⟨p3, 0, none⟩)]) (by simp) (by simp [go_sem]) ?_
  refine (parse_idle p2 p3 wx).mono ?_
  rintro e u' w' ⟨rfl, rfl, rfl⟩
  refine ⟨_, parse_results t2 t3 b2 b3, ?_⟩
  unfold ParsedP
  rw [hv]
  exact ⟨_, rfl, hq, f⟩
/-- The reader's block is laid. -/
theorem rd_start {B p3 : Nat} {w1 w2 : World} {A : Option Addr} {n cc : Nat} {ws : List Wd} (hrow : RowW B w1 (.slice A n cc) ws) (he : Ended ws) (htx : ∀ x ∈ ws, x.text.length ≤ 8192 ∧ x.kind ≤ 6 ∧ x.pos ≤ 100000) (hl : ws.length ≤ 4097) (hp : Pv w2) (hp3 : p3 < B) (f : Fr (fun k => k = p3) w1 w2) :
    ∃ g, A = some ⟨g, 0, none⟩ ∧ n = ws.length ∧ Rd ⟨w2.heap.size, g, cc, ws⟩ (w2.alloc (.cells #[.slice (some ⟨g, 0, none⟩) ws.length cc, .int .i64 0, .bool false] 57)) ws false := by
  have hlw := hrow.lw (by omega)
  obtain ⟨x0, l0, hx⟩ := he.cons
  obtain ⟨A', c', e, h1, h2⟩ := hlw
  obtain ⟨g, rfl, hg, hc⟩ := h2 (by rw [hx]; simp)
  obtain ⟨r1, r2⟩ := hrow
  rcases r2 with ⟨r3, r4⟩ | ⟨g', cap, cur, r3, r4, r5, r6, r7, r8, r9⟩
  · cases e; cases r3
  · cases e
    cases r3
    have hf0 : Fr No w2 (w2.alloc (.cells #[.slice (some ⟨g, 0, none⟩) ws.length cc, .int .i64 0, .bool false] 57)) := (Fr.refl No w2).alloc _
    have hb : Blk (w2.alloc (.cells #[.slice (some ⟨g, 0, none⟩) ws.length cc, .int .i64 0, .bool false] 57)) w2.heap.size 57 #[.slice (some ⟨g, 0, none⟩) ws.length cc, .int .i64 0, .bool false] := Blk.new w2 57 _
    have eb : w2.heap[g]? = w1.heap[g]? := f.block g hg (by show ¬ g = p3; omega)
    have hg2 : g < w2.heap.size := Nat.lt_of_lt_of_le hg f.size
    have ec := hf0.block g hg2 id
    have hl2 := hp.lt
    refine ⟨g, rfl, rfl, ⟨hp.no hf0, ?_, ⟨[], rfl⟩, cells_keep (C := ⟨w2.heap.size, g, cc, ws⟩) ec (cells_keep (C := ⟨w2.heap.size, g, cc, ws⟩) eb hc), by show g ≠ w2.heap.size; omega, Nat.lt_of_lt_of_le hg2 hf0.size, by show 11 < w2.heap.size; omega, ⟨by assumption, r7, by show ws.length ≤ 100000; omega⟩, htx⟩⟩
    show Blk _ w2.heap.size 57 #[.slice (some ⟨g, 0, none⟩) ws.length cc, .int .i64 ((ws.length - ws.length : Nat) : Int), .bool false]
    rw [Nat.sub_self]
    exact hb
set_option maxRecDepth 100000 in
set_option maxHeartbeats 16000000 in
theorem parse_any (s : ByteArray) (w : World) (hp : Pv w) (hs : s.size ≤ maxLen) : Calls Tryz.prog 13 #[.string s] w (ParsedP s.data.toList w) := by
  have hmf : ∀ (fn : Fn) (first cap : Array Value) (w : World), (Instr.makeFunc fn first cap).run Tryz.prog w = .ok (.func fn first cap) w := fun _ _ _ _ => rfl
  have hlt := hp.lt
  obtain ⟨p2, hp2⟩ : ∃ p, w.heap.size = p := ⟨_, rfl⟩
  obtain ⟨p3, hp3⟩ : ∃ p, p2 + 1 = p := ⟨_, rfl⟩
  obtain ⟨wa, hwa⟩ : ∃ wa, w.alloc (.cells #[.slice none 0 0, .string ⟨#[]⟩, .pointer none, .bool false, .slice none 0 0] 27) = wa := ⟨_, rfl⟩
  have fa : Fr No w wa := by rw [← hwa]; exact (Fr.refl No w).alloc _
  have ba : Blk wa p2 27 z27 := by rw [← hwa, ← hp2]; exact Blk.new w 27 _
  have sa : wa.heap.size = p3 := by rw [← hwa, ← hp3, ← hp2]; simp
  obtain ⟨wb, hwb⟩ : ∃ wb, wa.alloc (.cells #[.int .i64 0, .int .i64 0] 30) = wb := ⟨_, rfl⟩
  have fb : Fr No wa wb := by rw [← hwb]; exact (Fr.refl No wa).alloc _
  have bb : Blk wb p3 30 #[.int .i64 0, .int .i64 0] := by rw [← hwb, ← sa]; exact Blk.new wa 30 _
  have fab : Fr No w wb := fa.trans fb fun _ _ h => h
  have ba2 := ba.of (fb.block p2 ba.lt id)
  have hpb := hp.no fab
  obtain ⟨ws, c, f, hwd⟩ : ∃ ws c f, wordsB s.data.toList = (ws, c, f) := ⟨_, _, _, rfl⟩
  have HWD := Lib.hid (l_words s wb hpb.lr hs hwd)
  have HPB := Lib.hid hpb
  have HB2 := Lib.hid ba2
  have HB3 := Lib.hid bb
  have HFB := Lib.hid fab
  have HP2 := Lib.hid hp2
  have HP3 := Lib.hid hp3
  have HWA := Lib.hid hwa
  have HWB := Lib.hid hwb
  have HWO := Lib.hid hwd
  have h23 : p2 ≠ p3 := by omega
  have hl2 : w.heap.size ≤ p2 := by omega
  have hl3 : w.heap.size ≤ p3 := by omega
  have HL2 := Lib.hid hl2
  have HL3 := Lib.hid hl3
  have H23 := Lib.hid h23
  have H11 : Hid (11 < p2) := Lib.hid (by omega)
  have H3B : Hid (p3 < wb.heap.size) := Lib.hid bb.lt
  have H113 : Hid (11 < p3) := Lib.hid (by omega)
  clear hp hlt hp2 hp3 hwa fa ba sa hwb fb bb fab ba2 hpb hwd h23 hl2 hl3
  go_enter_defers Tryz.func13, Tryz.ntmps13
  go_upto_region 1 with fail
  rw [HWA.out, HP2.out, HWB.out, HP3.out]
  go_wp2_with fail
  refine HWD.out.mono ?_
  rintro e w1 ⟨v, rfl, hlw, f1, hvb, hrw⟩
  have k2 := HB2.out.of (f1.block p2 HB2.out.lt id)
  have k3 := HB3.out.of (f1.block p3 HB3.out.lt id)
  have y0 : w1.cell? ⟨p3, 0, none⟩ = some (.int .i64 0) := k3.cell 0
  have y1 : w1.cell? ⟨p3, 1, none⟩ = some (.int .i64 0) := k3.cell 1
  have x0 := k3.frozen 0
  have x1 := k3.frozen 1
  obtain ⟨w2, hw2⟩ : ∃ w2, (w1.setCell ⟨p3, 0, none⟩ (.int .i64 (c : Nat))).setCell ⟨p3, 1, none⟩ (.int .i64 (f : Nat)) = w2 := ⟨_, rfl⟩
  have f2 : Fr (fun k => k = p3) w1 w2 := by rw [← hw2]; exact fr_set (fr_set (Fr.refl _ w1))
  have b3 : Blk w2 p3 30 #[.int .i64 (c : Nat), .int .i64 (f : Nat)] := by rw [← hw2]; exact (k3.set_ 0 _).set_ 1 _
  have b2 := k2.of (f2.block p2 k2.lt H23.out)
  have HK2 := Lib.hid b2
  have HK3 := Lib.hid b3
  have HF1 := Lib.hid f1
  have HF2 := Lib.hid f2
  have HLW := Lib.hid hlw
  have HRW := Lib.hid hrw
  have HVB := Lib.hid hvb
  have HW2 := Lib.hid hw2
  have hvs : ∃ A n cc, v = .slice A n cc := by obtain ⟨A, cc, e, _⟩ := hlw; exact ⟨_, _, _, e⟩
  obtain ⟨A, n, cc, rfl⟩ := hvs
  clear hlw f1 hvb hrw k2 k3 hw2 f2 b3 b2 HWD
  go_upto_region 2 with fail
  rw [HW2.out]
  clear y0 y1 x0 x1
  have c0 : w2.cell? ⟨p3, 0, none⟩ = some (.int .i64 (c : Nat)) := HK3.out.cell 0
  by_cases hc : c = 0
  · subst hc
    obtain ⟨hen, htx, rfl, _⟩ := words_ended HWO.out
    have HEN := Lib.hid hen
    have hpv2 : Pv w2 := (HPB.out.no HF1.out).keep HF2.out (fun k hk => by rw [show k = p3 from hk]; exact H113.out)
    have HPV2 := Lib.hid hpv2
    clear hpv2 hen
    obtain ⟨d, hd⟩ : ∃ d, w2.heap.size = d := ⟨_, rfl⟩
    have HD := Lib.hid hd
    have HTX := Lib.hid htx
    have HFW2 : Hid (Fr No w w2) := Lib.hid ((((HFB.out.trans HF1.out fun _ _ h => h).any.trans HF2.out fun _ _ h => h).notnew fun k hk => by rw [show k = p3 from hk]; exact HL3.out))
    have HDW2 : Hid (w2.heap.size ≤ d) := Lib.hid (by have := HD.out; omega)
    have HDW : Hid (w.heap.size ≤ d) := Lib.hid (by have := HFW2.out.size; omega)
    clear hd htx
    go_upto_region 6 with fail
    rw [HD.out]
    obtain ⟨g, rfl, rfl, hrd⟩ := rd_start HRW.out HEN.out HTX.out (by have := @words_cap s.data.toList; rw [HWO.out] at this; exact this) HPV2.out H3B.out HF2.out
    rw [HD.out] at hrd
    obtain ⟨w3, hw3⟩ : ∃ w3, w2.alloc (Obj.cells #[Value.slice (some ⟨g, 0, none⟩) ws.length cc, Value.int IntKind.i64 0, Value.bool false] 57) = w3 := ⟨_, rfl⟩
    rw [hw3] at hrd ⊢
    have f3 : Fr No w2 w3 := by rw [← hw3]; exact (Fr.refl No w2).alloc _
    have HRD := Lib.hid hrd
    have HF3 := Lib.hid f3
    have HW3 := Lib.hid hw3
    clear hrd f3 hw3
    go_wp2_with fail
    refine (query_any ws.length HRD.out HEN.out (Nat.le_refl _)).mono ?_
    rintro e w4 ⟨f4, h4⟩
    have HF4 := Lib.hid f4
    clear f4
    obtain ⟨res, hres⟩ : ∃ r, queryW ws.length ws false = r := ⟨_, rfl⟩
    rw [hres] at h4
    have HRES := Lib.hid hres
    clear hres
    cases res with
    | bad cb pb =>
      obtain rfl : e = .panicked [{ v := flt cb pb, recovered := false }] := h4
      go_wp2_with fail
      have HV : Hid (parseW s.data.toList = (Qy0, cb, pb)) := Lib.hid (by unfold parseW; rw [HWO.out]; show (if (0 : Nat) ≠ 0 then _ else endW (queryW ws.length ws false)) = _; rw [if_neg (by decide), HRES.out]; rfl)
      have f24 : Fr (Only d) w2 w4 := HF3.out.any.trans HF4.out fun _ _ h => h
      have h2d : p2 ≠ d := by have := HK2.out.lt; have := HD.out; omega
      have h3d : p3 ≠ d := by have := HK3.out.lt; have := HD.out; omega
      have k2 := HK2.out.of (f24.block p2 HK2.out.lt h2d)
      have k3 := HK3.out.of (f24.block p3 HK3.out.lt h3d)
      exact parse_leaves_bad HV.out (HFW2.out.trans (f24.notnew fun k hk => by rw [show k = d from hk]; exact HDW2.out) fun _ _ h => h) k2 k3 H23.out HL2.out HL3.out rfl rfl
    | ok q r5 m5 =>
      obtain ⟨⟨v, rfl, hq⟩, hrd⟩ := h4
      obtain ⟨A0, n0, e0, px, B0, n1, e1, rfl⟩ : ∃ A0 n0 e0 px B0 n1 e1, v = .agg #[.slice A0 n0 e0, sv q.table, .pointer px, .bool q.grouped, .slice B0 n1 e1] := by
        obtain ⟨a, D, G, rfl, ⟨A0, e0, rfl, _⟩, _, hD, ⟨B0, e1, rfl, _⟩⟩ := hq
        obtain ⟨px, rfl⟩ : ∃ px, D = .pointer px := by
          cases hqc : q.cond with
          | none => rw [hqc] at hD; exact ⟨_, hD⟩
          | node k l r c o vs => rw [hqc] at hD; obtain ⟨_, _, _, _, _, e, _⟩ := hD; exact ⟨_, e⟩
        exact ⟨_, _, _, _, _, _, _, rfl⟩
      have f24 : Fr (Only d) w2 w4 := HF3.out.any.trans HF4.out fun _ _ h => h
      have h2d : p2 ≠ d := by have := HK2.out.lt; have := HD.out; omega
      have h3d : p3 ≠ d := by have := HK3.out.lt; have := HD.out; omega
      have k2 := HK2.out.of (f24.block p2 HK2.out.lt h2d)
      have k3 := HK3.out.of (f24.block p3 HK3.out.lt h3d)
      have HF24 : Hid (Fr No w w4) := Lib.hid (HFW2.out.trans (f24.notnew fun k hk => by rw [show k = d from hk]; exact HDW2.out) fun _ _ h => h)
      obtain ⟨w5, hw5⟩ : ∃ w5, qput w4 p2 (.slice A0 n0 e0) (sv q.table) (.pointer px) (.bool q.grouped) (.slice B0 n1 e1) = w5 := ⟨_, rfl⟩
      have f5 : Fr (fun k => k = p2) w4 w5 := by rw [← hw5]; exact fr_set (fr_set (fr_set (fr_set (fr_set (Fr.refl _ w4)))))
      have b2 : Blk w5 p2 27 #[(.slice A0 n0 e0), (sv q.table), (.pointer px), (.bool q.grouped), (.slice B0 n1 e1)] := by rw [← hw5]; exact ((((k2.set_ 0 _).set_ 1 _).set_ 2 _).set_ 3 _).set_ 4 _
      have b3 := k3.of (f5.block p3 k3.lt (fun e => H23.out e.symm))
      unfold qput at hw5
      have y0 : w4.cell? ⟨p2, 0, none⟩ = some (.slice none 0 0) := k2.cell 0
      have y1 : w4.cell? ⟨p2, 1, none⟩ = some (.string ⟨#[]⟩) := k2.cell 1
      have y2 : w4.cell? ⟨p2, 2, none⟩ = some (.pointer none) := k2.cell 2
      have y3 : w4.cell? ⟨p2, 3, none⟩ = some (.bool false) := k2.cell 3
      have y4 : w4.cell? ⟨p2, 4, none⟩ = some (.slice none 0 0) := k2.cell 4
      have z0 : w4.frozen? ⟨p2, 0, none⟩ = false := k2.frozen 0
      have z1 : w4.frozen? ⟨p2, 1, none⟩ = false := k2.frozen 1
      have z2 : w4.frozen? ⟨p2, 2, none⟩ = false := k2.frozen 2
      have z3 : w4.frozen? ⟨p2, 3, none⟩ = false := k2.frozen 3
      have z4 : w4.frozen? ⟨p2, 4, none⟩ = false := k2.frozen 4
      have HW5 := Lib.hid hw5
      have HB52 := Lib.hid b2
      have HB53 := Lib.hid b3
      have HF5 := Lib.hid f5
      have HQ := Lib.hid hq
      have HRD5 := Lib.hid hrd
      have HH2D := Lib.hid h2d
      clear hw5 b2 b3 f5 hq hrd k2 k3 f24 h2d h3d
      go_upto_region 7 with fail
      rw [HW5.out]
      clear y0 y1 y2 y3 y4 z0 z1 z2 z3 z4
      have kd := HRD5.out.blk.of (HF5.out.block d HRD5.out.lt (fun e => HH2D.out e.symm))
      have c2 : w5.cell? ⟨d, 2, none⟩ = some (.bool m5) := kd.cell 2
      have HFW5 : Hid (Fr No w w5) := Lib.hid ((HF24.out.any.trans HF5.out fun _ _ h => h).notnew fun k hk => by rw [show k = p2 from hk]; exact HL2.out)
      have hW0 : parseW s.data.toList = endW (.ok q r5 m5) := by unfold parseW; rw [HWO.out]; show (if (0 : Nat) ≠ 0 then _ else endW (queryW ws.length ws false)) = _; rw [if_neg (by decide), HRES.out]
      have HW0 := Lib.hid hW0
      clear kd hW0
      cases m5 with
      | true =>
        go_wp2_with fail
        refine (giveUp_any 46 0 w5).mono ?_
        rintro e w6 ⟨rfl, rfl⟩
        go_wp2_with fail
        exact parse_leaves_bad HW0.out HFW5.out HB52.out HB53.out H23.out HL2.out HL3.out rfl rfl
      | false =>
        have x2' : w5.cell? ⟨p2, 2, none⟩ = some (.pointer px) := HB52.out.cell 2
        have hq5 : QyAt (fun k => w3.heap.size ≤ k) w5 q (.agg #[(.slice A0 n0 e0), (sv q.table), (.pointer px), (.bool q.grouped), (.slice B0 n1 e1)]) := HQ.out.mono fun k hk hkl => ⟨hk, HF5.out.block k hkl (fun e => by have e : k = p2 := e; have h1 := HK2.out.lt; have h2 := HF3.out.size; have h3 : w3.heap.size ≤ k := hk; omega)⟩
        obtain ⟨xx, hcd⟩ : ∃ u : Unit, CdAt (fun k => w3.heap.size ≤ k) w5 q.cond (.pointer px) := by obtain ⟨a, C, G, e, _, _, h4, _⟩ := hq5; cases e; exact ⟨(), h4⟩
        have hsz : depthW q.cond ≤ 4097 := by
          have h1 := query_sized HEN.out HRES.out
          have h2 := depth_size q.cond
          have h3 := @words_cap s.data.toList
          rw [HWO.out] at h3
          have h3 : ws.length ≤ 4097 := h3
          omega
        have HQ5 := Lib.hid hq5
        have HSZ := Lib.hid hsz
        have HDP := Lib.hid (depth_any _ q.cond (.pointer px) w5 hcd (by omega))
        clear hq5 hcd hsz
        go_wp2_with fail
        refine HDP.out.mono ?_
        rintro e w6 ⟨rfl, f6⟩
        have HF6 := Lib.hid f6
        have HK62 := Lib.hid (HB52.out.of (f6.block p2 HB52.out.lt id))
        have HK63 := Lib.hid (HB53.out.of (f6.block p3 HB53.out.lt id))
        have HFW6 := Lib.hid (HFW5.out.trans f6 fun _ _ h => h)
        clear f6
        by_cases hd32 : 32 < depthW q.cond
        · have hcmp : (32 < ((depthW q.cond : Nat) : Int)) = True := by simp; omega
          have HW1 : Hid (parseW s.data.toList = (Qy0, 47, 0)) := Lib.hid (by rw [HW0.out]; show (if false = true then ((Qy0, 46, 0) : Qy × Nat × Nat) else if 32 < depthW q.cond then (Qy0, 47, 0) else (q, 0, 0)) = _; rw [if_neg (by decide), if_pos hd32])
          clear hd32
          go_wp2_with fail
          refine (giveUp_any 47 0 w6).mono ?_
          rintro e w7 ⟨rfl, rfl⟩
          go_wp2_with fail
          exact parse_leaves_bad HW1.out HFW6.out HK62.out HK63.out H23.out HL2.out HL3.out rfl rfl
        · have hcmp : (32 < ((depthW q.cond : Nat) : Int)) = False := by simp; omega
          have HW1 : Hid (parseW s.data.toList = (q, 0, 0)) := Lib.hid (by rw [HW0.out]; show (if false = true then ((Qy0, 46, 0) : Qy × Nat × Nat) else if 32 < depthW q.cond then (Qy0, 47, 0) else (q, 0, 0)) = _; rw [if_neg (by decide), if_neg hd32])
          clear hd32
          have l0 : w6.cell? ⟨p2, 0, none⟩ = some (.slice A0 n0 e0) := HK62.out.cell 0
          have l1 : w6.cell? ⟨p2, 1, none⟩ = some (sv q.table) := HK62.out.cell 1
          have l2 : w6.cell? ⟨p2, 2, none⟩ = some (.pointer px) := HK62.out.cell 2
          have l3 : w6.cell? ⟨p2, 3, none⟩ = some (.bool q.grouped) := HK62.out.cell 3
          have l4 : w6.cell? ⟨p2, 4, none⟩ = some (.slice B0 n1 e1) := HK62.out.cell 4
          have m0 : w6.cell? ⟨p3, 0, none⟩ = some (.int .i64 0) := HK63.out.cell 0
          have m1 : w6.cell? ⟨p3, 1, none⟩ = some (.int .i64 0) := HK63.out.cell 1
          have r0 : w6.frozen? ⟨p2, 0, none⟩ = false := HK62.out.frozen 0
          have r1 : w6.frozen? ⟨p2, 1, none⟩ = false := HK62.out.frozen 1
          have r2 : w6.frozen? ⟨p2, 2, none⟩ = false := HK62.out.frozen 2
          have r3 : w6.frozen? ⟨p2, 3, none⟩ = false := HK62.out.frozen 3
          have r4 : w6.frozen? ⟨p2, 4, none⟩ = false := HK62.out.frozen 4
          have s0 : w6.frozen? ⟨p3, 0, none⟩ = false := HK63.out.frozen 0
          have s1 : w6.frozen? ⟨p3, 1, none⟩ = false := HK63.out.frozen 1
          have h23 := H23.out
          have h32 : p3 ≠ p2 := fun e => h23 e.symm
          have HBP := Lib.hid (both_put (a := .slice A0 n0 e0) (b := sv q.table) (c := .pointer px) (d := .bool q.grouped) (e := .slice B0 n1 e1) (f := .int .i64 0) (g := .int .i64 0) HK62.out HK63.out h23 (Fr.refl No w6))
          go_wp2_with fail
          obtain ⟨g2, g3, gf⟩ := HBP.out
          refine parse_leaves_ok (p2 := p2) (p3 := p3) HW1.out ((HFW6.out.any.trans gf fun _ _ h => h).notnew fun k hk => ?_) g2 g3 (HQ5.out.mono fun k hk hkl => ⟨?_, ?_⟩) rfl rfl
          · rcases hk with e | e
            · rw [e]; exact HL2.out
            · rw [e]; exact HL3.out
          · have h1 : w3.heap.size ≤ k := hk
            have h2 := HF3.out.size
            have h3 := HFW2.out.size
            show w.heap.size ≤ k
            omega
          · have h1 : w3.heap.size ≤ k := hk
            have h2 := HF3.out.size
            have h4 := HK2.out.lt
            have h5 := HK3.out.lt
            have h6 := HF6.out.block k hkl id
            have h7 := gf.block k (Nat.lt_of_lt_of_le hkl HF6.out.size) (fun e => by rcases e with e | e <;> omega)
            exact h7.trans h6
  · have hcn : ((c : Int) != 0) = true := by simp; omega
    have HV : Hid (parseW s.data.toList = (Qy0, c, f)) := Lib.hid (by unfold parseW; rw [HWO.out]; exact if_pos hc)
    have c1 : w2.cell? ⟨p3, 1, none⟩ = some (.int .i64 (f : Nat)) := HK3.out.cell 1
    have x0 := HK3.out.frozen 0
    have x1 := HK3.out.frozen 1
    have z0 : w2.cell? ⟨p2, 0, none⟩ = some (.slice none 0 0) := HK2.out.cell 0
    have z1 : w2.cell? ⟨p2, 1, none⟩ = some (.string ⟨#[]⟩) := HK2.out.cell 1
    have z2 : w2.cell? ⟨p2, 2, none⟩ = some (.pointer none) := HK2.out.cell 2
    have z3 : w2.cell? ⟨p2, 3, none⟩ = some (.bool false) := HK2.out.cell 3
    have z4 : w2.cell? ⟨p2, 4, none⟩ = some (.slice none 0 0) := HK2.out.cell 4
    have y0 := HK2.out.frozen 0
    have y1 := HK2.out.frozen 1
    have y2 := HK2.out.frozen 2
    have y3 := HK2.out.frozen 3
    have y4 := HK2.out.frozen 4
    have h23 := H23.out
    have HB := Lib.hid (both_put (w1 := w2) (a := .slice none 0 0) (b := .string ⟨#[]⟩) (c := .pointer none) (d := .bool false) (e := .slice none 0 0) (f := .int .i64 (c : Nat)) (g := .int .i64 (f : Nat)) HK2.out HK3.out h23 (Fr.refl No w2))
    have HBD := Lib.hid (HB.out.2.1.of (((Fr.refl No _).drew).block p3 HB.out.2.1.lt id))
    have HBD2 := Lib.hid (HB.out.1.of (((Fr.refl No _).drew).block p2 HB.out.1.lt id))
    have HBF := Lib.hid (HB.out.2.2.trans (Fr.refl (fun k => k = p2 ∨ k = p3) _).drew fun _ _ h => h)
    unfold qput at HB HBD HBD2 HBF
    clear HB
    have HF12 : Hid (Fr No w w1) := Lib.hid (HFB.out.trans HF1.out fun _ _ h => h)
    clear hc
    go_wp2_with fail
    refine Go.wp_region_noPanic ?_
    go_region_with (fail)
    all_goals
      refine Go.NoPanic.normal ?_
      go_wp2_with fail
      have u0 := HBD.out.cell 0
      have u1 := HBD.out.cell 1
      have v0 := HBD2.out.cell 0
      have v1 := HBD2.out.cell 1
      have v2 := HBD2.out.cell 2
      have v3 := HBD2.out.cell 3
      have v4 := HBD2.out.cell 4
      have HX : Hid (CaughtP p2 p3 c f w2 _) := Lib.hid ⟨HBD2.out, HBD.out, HBF.out⟩
      have HFW : Hid (Fr No w w2) := Lib.hid (((HF12.out.any.trans HF2.out fun _ _ h => h).notnew fun k hk => by rw [show k = p3 from hk]; exact HL3.out))
      obtain ⟨wz, hwz⟩ : ∃ wz, (((((((w2.setCell { block := p2, off := 0 } (Value.slice none 0 0)).setCell { block := p2, off := 1 } (Value.string { data := #[] })).setCell { block := p2, off := 2 } (Value.pointer none)).setCell { block := p2, off := 3 } (Value.bool false)).setCell { block := p2, off := 4 } (Value.slice none 0 0)).setCell { block := p3, off := 0 } (Value.int IntKind.i64 ↑c)).setCell { block := p3, off := 1 } (Value.int IntKind.i64 ↑f)).drew = wz := ⟨_, rfl⟩
      rw [hwz] at u0 u1 v0 v1 v2 v3 v4 HX ⊢
      simp at u0 u1 v0 v1 v2 v3 v4
      refine ⟨.tuple #[.agg z27, .agg #[.int .i64 (c : Nat), .int .i64 (f : Nat)]], by simp [results, Tryz.results13, go_sem, u0, u1, v0, v1, v2, v3, v4, z27], ?_⟩
      exact parsed_bad HV.out HFW.out HX.out HL2.out HL3.out
end Go.Proofs.YtkcnbmgaeompjaaGreatDoor
