/- The document's Right. -/
import Derived.Test.YtkcnbmgaeompjaaGreatDoorY3
namespace Go.Proofs.YtkcnbmgaeompjaaGreatDoor
open Go.RowKit Go.Maps
set_option linter.unusedVariables false

def hasItems (q : Qy) : Bool := decide (1 ≤ q.items.length) && decide (q.items.length ≤ 16)
theorem rightQ_parts2 (q : Qy) : rightQ q = (isNameB q.table && (hasItems q && (decide (q.groups.length ≤ 16) && (q.grouped == decide (0 < q.groups.length) && (q.items.all rightI && (q.groups.all rightG && (decide (q.cond = .none) || (rightC q.cond 32 2048).isSome))))))) := by
  unfold rightQ rightGs hasItems rightL
  cases hg : q.grouped with
  | true =>
    cases hgs : q.groups with
    | nil =>
      rw [if_pos rfl]
      simp
    | cons a l =>
      rw [if_pos rfl]
      have e : decide (0 < (a :: l).length) = true := by simp
      have e2 : decide (1 ≤ (a :: l).length) = true := by simp
      rw [e, e2]
      cases decide (1 ≤ q.items.length) <;> cases decide (q.items.length ≤ 16) <;> cases q.items.all rightI <;> cases isNameB q.table <;> cases decide ((a :: l).length ≤ 16) <;> cases (a :: l).all rightG <;> simp
  | false =>
    rw [if_neg (by decide)]
    cases hgs : q.groups with
    | nil =>
      cases decide (1 ≤ q.items.length) <;> cases decide (q.items.length ≤ 16) <;> cases q.items.all rightI <;> cases isNameB q.table <;> simp
    | cons a l =>
      have e : decide (0 < (a :: l).length) = true := by simp
      rw [e]
      simp

set_option maxRecDepth 100000 in
set_option maxHeartbeats 16000000 in
theorem dright_query {d : Nat} (h32 : 32 ≤ d) (K : Nat → Prop) (q : Qy) (v : Value) (w : World) (h : QyTo d K w q v) : Calls Tryz.prog 19 #[v] w (TellsB (rightQ q) w) := by
  obtain ⟨a, C, G, rfl, hit, htl, hcd, hgrs⟩ := h
  have hit0 := hit
  have hgr0 := hgrs
  obtain ⟨A1, c1, rfl, hlc1, hcm1, -⟩ := hit0
  obtain ⟨A2, c2, rfl, hlc2, hcm2, -⟩ := hgr0
  obtain ⟨px, rfl⟩ : ∃ px, C = .pointer px := hcd.p
  obtain ⟨n1, hn1⟩ : ∃ n, q.items.length = n := ⟨_, rfl⟩
  obtain ⟨n2, hn2⟩ : ∃ n, q.groups.length = n := ⟨_, rfl⟩
  obtain ⟨gr, hgr⟩ : ∃ n, q.grouped = n := ⟨_, rfl⟩
  obtain ⟨tb, htb⟩ : ∃ n, q.table = n := ⟨_, rfl⟩
  obtain ⟨w1, hw1⟩ : ∃ w1, w.alloc (.cells #[.slice A1 n1 c1, sv tb, .pointer px, .bool gr, .slice A2 n2 c2] 27) = w1 := ⟨_, rfl⟩
  obtain ⟨y, hy⟩ : ∃ y, w.heap.size = y := ⟨_, rfl⟩
  have f1 : Fr No w w1 := by rw [← hw1]; exact (Fr.refl No w).alloc _
  have hb : Blk w1 y 27 #[.slice A1 n1 c1, sv tb, .pointer px, .bool gr, .slice A2 n2 c2] := by rw [← hw1, ← hy]; exact Blk.new w 27 _
  rw [hn1] at hit hlc1
  rw [hn2] at hgrs hlc2
  rw [hn1, hn2, hgr, htb]
  have HAT : Hid (∀ w', Fr No w1 w' → Blk w' y 27 #[.slice A1 n1 c1, sv tb, .pointer px, .bool gr, .slice A2 n2 c2] ∧ CdTo (fun k => K k ∧ k < y) w' d q.cond (.pointer px) ∧ RowE K w' 3 (gpG K w') (.slice A2 n2 c2) q.groups ∧ RowE K w' 2 (itG K w') (.slice A1 n1 c1) q.items ∧ Fr No w w') := Lib.hid fun w' f' => by
    have fw := f1.trans f' fun _ _ h => h
    exact ⟨hb.of (f'.block y hb.lt id), hcd.mono (fun k hk hkl => ⟨⟨hk, by omega⟩, fw.block k hkl id⟩), hgrs.mono (fun k hk hkl => ⟨hk, fw.block k hkl id⟩) fun x cs hx => gpG_elem.mono _ _ _ _ _ _ hx (fun k hk hkl => ⟨hk, fw.block k hkl id⟩), hit.mono (fun k hk hkl => ⟨hk, fw.block k hkl id⟩) fun _ _ h => h, fw⟩
  have HNM := Lib.hid (dname_any tb w1 (htb ▸ htl))
  have HQ := Lib.hid (rightQ_parts2 q)
  have HW1 := Lib.hid hw1
  have HY := Lib.hid hy
  have HN1 := Lib.hid hn1
  have HN2 := Lib.hid hn2
  have HD := Lib.hid h32
  have HKY : Hid (∀ w', Fr No w1 w' → y < w'.heap.size) := Lib.hid fun w' f' => Nat.lt_of_lt_of_le hb.lt f'.size
  have HEND : Hid (∀ (bb : Bool) e w', rightQ q = bb → e = .returned (.bool bb) → Fr No w w' → TellsB (rightQ q) w e w') := Lib.hid fun bb e w' h1 h2 h3 => ⟨by rw [h2, h1], h3⟩
  have HGR := Lib.hid hgr
  have HTB := Lib.hid htb
  unfold hasItems at HQ
  rw [hn1, hn2, hgr, htb] at HQ
  have d0 : w1.cell? ⟨y, 0, none⟩ = some (.slice A1 n1 c1) := hb.cell 0
  have d1 : w1.cell? ⟨y, 1, none⟩ = some (sv tb) := hb.cell 1
  unfold maxLen at hcm1 hcm2
  clear hit hcd hgrs hb hw1 hy f1 htl hn1 hn2 h32 hgr htb
  go_enter Tryz.func19, Tryz.ntmps19
  go_upto_region 1 with fail
  rw [HY.out, HW1.out]
  go_wp2_with fail
  refine HNM.out.mono ?_
  clear HNM
  rintro e w2 ⟨rfl, f2⟩
  have HF2 := Lib.hid f2
  have H2 := Lib.hid (HAT.out w2 f2)
  clear f2 d0 d1
  have d0 : w2.cell? ⟨y, 0, none⟩ = some (.slice A1 n1 c1) := H2.out.1.cell 0
  have d2 : w2.cell? ⟨y, 2, none⟩ = some (.pointer px) := H2.out.1.cell 2
  have d3 : w2.cell? ⟨y, 3, none⟩ = some (.bool gr) := H2.out.1.cell 3
  have d4 : w2.cell? ⟨y, 4, none⟩ = some (.slice A2 n2 c2) := H2.out.1.cell 4
  cases hnm : isNameB tb with
  | false =>
    have HV : Hid (rightQ q = false) := Lib.hid (by rw [HQ.out, hnm]; rfl)
    clear hnm
    go_wp2_with fail
    go_ret
    exact HEND.out _ _ _ HV.out rfl H2.out.2.2.2.2
  | true =>
  rw [hnm] at HQ
  clear hnm
  by_cases h1 : 1 ≤ n1
  case neg =>
    have HV : Hid (rightQ q = false) := Lib.hid (by rw [HQ.out, decide_eq_false h1]; rfl)
    have i1 : ((n1 : Int) < 1) = True := eq_true (by omega)
    go_wp2_with fail
    go_ret
    exact HEND.out _ _ _ HV.out rfl H2.out.2.2.2.2
  have i1 : ((n1 : Int) < 1) = False := eq_false (by omega)
  by_cases h2 : n1 ≤ 16
  case neg =>
    have HV : Hid (rightQ q = false) := Lib.hid (by rw [HQ.out, decide_eq_false h2, Bool.and_false]; rfl)
    have i2 : ((16 : Int) < (n1 : Int)) = True := eq_true (by omega)
    go_wp2_with fail
    go_ret
    exact HEND.out _ _ _ HV.out rfl H2.out.2.2.2.2
  have i2 : ((16 : Int) < (n1 : Int)) = False := eq_false (by omega)
  rw [decide_eq_true h1, decide_eq_true h2] at HQ
  by_cases h3 : n2 ≤ 16
  case neg =>
    have HV : Hid (rightQ q = false) := Lib.hid (by rw [HQ.out, decide_eq_false h3]; rfl)
    have i3 : ((16 : Int) < (n2 : Int)) = True := eq_true (by omega)
    go_wp2_with fail
    go_ret
    exact HEND.out _ _ _ HV.out rfl H2.out.2.2.2.2
  have i3 : ((16 : Int) < (n2 : Int)) = False := eq_false (by omega)
  rw [decide_eq_true h3] at HQ
  cases hge : gr == decide (0 < n2) with
  | false =>
    have HV : Hid (rightQ q = false) := Lib.hid (by rw [HQ.out, hge]; rfl)
    by_cases h0 : 0 < n2
    · have i4 : ((0 : Int) < (n2 : Int)) = True := eq_true (by omega)
      obtain rfl : gr = false := by rw [decide_eq_true h0] at hge; cases gr <;> simp_all
      clear hge
      go_wp2_with fail
      go_ret
      exact HEND.out _ _ _ HV.out rfl H2.out.2.2.2.2
    · have i4 : ((0 : Int) < (n2 : Int)) = False := eq_false (by omega)
      obtain rfl : gr = true := by rw [decide_eq_false h0] at hge; cases gr <;> simp_all
      clear hge
      go_wp2_with fail
      go_ret
      exact HEND.out _ _ _ HV.out rfl H2.out.2.2.2.2
  | true =>
  have HGE : Hid (gr = decide (0 < n2)) := Lib.hid (by simpa using hge)
  rw [hge] at HQ
  clear hge
  go_upto_region 2 with fail
  go_cut [40] (fun rv wx => rv = .bool false ∧ w2 = wx)
  case first =>
    by_cases h0 : 0 < n2
    · have i4 : ((0 : Int) < (n2 : Int)) = True := eq_true (by omega)
      obtain rfl : gr = true := by rw [HGE.out]; simpa using h0
      go_wp2_with fail
      go_meet
      exact ⟨rfl, rfl⟩
    · have i4 : ((0 : Int) < (n2 : Int)) = False := eq_false (by omega)
      obtain rfl : gr = false := by rw [HGE.out]; simpa using h0
      go_wp2_with fail
      go_meet
      exact ⟨rfl, rfl⟩
  case rest =>
  obtain ⟨rfl, rfl⟩ := hcut
  clear i1 i2 i3 d0 d2 d3 d4
  go_wp2_with fail
  go_loopg [4, 5, 6] n1 (fun g r4 r5 r6 wr => Hid (∃ j : Nat, r4 = .int .i64 (j : Nat) ∧ j + g = n1 ∧ Fr No w1 wr ∧ (q.items.take j).all rightI = true))
  case atStart => exact Lib.hid ⟨0, rfl, by omega, HF2.out, rfl⟩
  case round =>
    obtain ⟨j, rfl, hjn, hf, hall⟩ := hrel.out
    have HALL := Lib.hid hall
    have HFN := Lib.hid hf
    have H3 := Lib.hid (HAT.out wr hf)
    have d0 : wr.cell? ⟨y, 0, none⟩ = some (.slice A1 n1 c1) := H3.out.1.cell 0
    clear hrel hall hf
    by_cases hj : j < n1
    · have hji : (j : Int) < (n1 : Int) := by omega
      have hjl : j < q.items.length := by rw [HN1.out]; exact hj
      obtain ⟨A', c', e, _, _, hrow⟩ := H3.out.2.2.2.1
      obtain ⟨ga, off, rfl, hK, hg, hel⟩ := hrow (by omega)
      obtain ⟨rfl, rfl⟩ : A1 = some ⟨ga, off, none⟩ ∧ c1 = c' := by injection e with e1 e2 e3; exact ⟨e1, e3⟩
      obtain ⟨cs, hcl, hcs, hE⟩ := hel j hjl
      obtain ⟨⟨xk, xc⟩, hx⟩ : ∃ x, q.items[j] = x := ⟨_, rfl⟩
      have HX := Lib.hid hx
      rw [hx] at hE
      obtain ⟨hE, hxl, _⟩ := hE
      simp only at hE hxl
      have t0 : wr.cell? ⟨ga, off + j * 2, none⟩ = some (.int .i64 xk) := by have := hcs 0 (by decide); rw [hE] at this; simpa using this
      have t1 : wr.cell? ⟨ga, off + j * 2 + 1, none⟩ = some (sv xc) := by have := hcs 1 (by decide); rw [hE] at this; simpa using this
      obtain ⟨wn, hwn⟩ : ∃ wn, wr.alloc (.cells #[.int .i64 xk, sv xc] 45) = wn := ⟨_, rfl⟩
      obtain ⟨z, hz⟩ : ∃ z, wr.heap.size = z := ⟨_, rfl⟩
      have g1 : Fr No wr wn := by rw [← hwn]; exact (Fr.refl No wr).alloc _
      have hbn : Blk wn z 45 #[.int .i64 xk, sv xc] := by rw [← hwn, ← hz]; exact Blk.new wr 45 _
      have HBN := Lib.hid hbn
      have HWN := Lib.hid hwn
      have HZ := Lib.hid hz
      have HG1 := Lib.hid (HFN.out.trans g1 fun _ _ h => h)
      have u1 : wn.cell? ⟨z, 1, none⟩ = some (sv xc) := hbn.cell 1
      have HC := Lib.hid (dname_any xc wn hxl)
      clear hcs hcl hel hK hrow e hE hx hwn hz g1 hbn
      go_upto_region 8 with fail
      rw [HZ.out, HWN.out]
      go_wp2_with fail
      refine HC.out.mono ?_
      clear HC u1
      rintro e w5 ⟨rfl, f5⟩
      have HF5 := Lib.hid (HG1.out.trans f5 fun _ _ h => h)
      have HB5 := Lib.hid (HBN.out.of (f5.block z HBN.out.lt id))
      have u0 : w5.cell? ⟨z, 0, none⟩ = some (.int .i64 xk) := HB5.out.cell 0
      have u1 : w5.cell? ⟨z, 1, none⟩ = some (sv xc) := HB5.out.cell 1
      clear f5
      obtain ⟨nb, hnb⟩ : ∃ b, isNameB xc = b := ⟨_, rfl⟩
      have HRI : Hid (rightI ⟨xk, xc⟩ = if xk = 2 then xc.isEmpty else decide (1 ≤ xk) && decide (xk ≤ 6) && nb) := Lib.hid (by unfold rightI; rw [hnb])
      rw [hnb]
      have HBAD : Hid (rightI ⟨xk, xc⟩ = false → rightQ q = false) := Lib.hid fun hb => by
        rw [HQ.out, take_bad hjl (by rw [HX.out]; exact hb)]
        rfl
      have HGOOD : Hid (rightI ⟨xk, xc⟩ = true → (q.items.take (j + 1)).all rightI = true) := Lib.hid fun hb => by rw [take_all hjl HALL.out, HX.out, hb]
      clear hnb
      by_cases o1 : 1 ≤ xk
      case neg =>
        have HV := Lib.hid (HBAD.out (by rw [HRI.out, if_neg (by omega), decide_eq_false o1]; rfl))
        have i1 : (xk < 1) = True := eq_true (by omega)
        go_wp2_with fail
        go_ret
        exact HEND.out _ _ _ HV.out rfl (HAT.out _ HF5.out).2.2.2.2
      have i1 : (xk < 1) = False := eq_false (by omega)
      by_cases o2 : xk ≤ 6
      case neg =>
        have HV := Lib.hid (HBAD.out (by rw [HRI.out, if_neg (by omega), decide_eq_false o2, Bool.and_false]; rfl))
        have i2 : (6 < xk) = True := eq_true (by omega)
        go_wp2_with fail
        go_ret
        exact HEND.out _ _ _ HV.out rfl (HAT.out _ HF5.out).2.2.2.2
      have i2 : (6 < xk) = False := eq_false (by omega)
      by_cases o3 : xk = 2
      · subst o3
        cases xc with
        | nil =>
          have HT := Lib.hid (HGOOD.out (by rw [HRI.out, if_pos rfl]; rfl))
          go_wp2_with fail
          obtain ⟨g1, rfl⟩ : ∃ g1, gk = g1 + 1 := ⟨gk - 1, by omega⟩
          go_roundg g1
          case rel => exact Lib.hid ⟨j + 1, by go_num, by omega, HF5.out, HT.out⟩
          all_goals omega
        | cons a xc =>
          have HV := Lib.hid (HBAD.out (by rw [HRI.out, if_pos rfl]; rfl))
          go_wp2_with fail
          go_ret
          exact HEND.out _ _ _ HV.out rfl (HAT.out _ HF5.out).2.2.2.2
      · have i3 : (xk == 2) = false := by simpa using o3
        cases nb with
        | true =>
          have HT := Lib.hid (HGOOD.out (by rw [HRI.out, if_neg o3, decide_eq_true o1, decide_eq_true o2]; rfl))
          go_wp2_with fail
          obtain ⟨g1, rfl⟩ : ∃ g1, gk = g1 + 1 := ⟨gk - 1, by omega⟩
          go_roundg g1
          case rel => exact Lib.hid ⟨j + 1, by go_num, by omega, HF5.out, HT.out⟩
          all_goals omega
        | false =>
          have HV := Lib.hid (HBAD.out (by rw [HRI.out, if_neg o3, Bool.and_false]))
          go_wp2_with fail
          go_ret
          exact HEND.out _ _ _ HV.out rfl (HAT.out _ HF5.out).2.2.2.2
    · have hji : (n1 : Int) ≤ (j : Int) := by omega
      have HI : Hid (q.items.all rightI = true) := Lib.hid (by have := HALL.out; rwa [List.take_of_length_le (by rw [HN1.out]; omega)] at this)
      clear HALL
      go_wp2_with fail
      go_loopg [7, 8] n2 (fun g r7 r8 wz => Hid (∃ m : Nat, r7 = .int .i64 (m : Nat) ∧ m + g = n2 ∧ Fr No w1 wz ∧ (q.groups.take m).all rightG = true))
      case atStart => exact Lib.hid ⟨0, rfl, by omega, HFN.out, rfl⟩
      case round =>
        obtain ⟨m, rfl, hmn, hf, hall⟩ := hrel.out
        have HALL := Lib.hid hall
        have HFM := Lib.hid hf
        have H4 := Lib.hid (HAT.out wr hf)
        have d4 : wr.cell? ⟨y, 4, none⟩ = some (.slice A2 n2 c2) := H4.out.1.cell 4
        have d2 : wr.cell? ⟨y, 2, none⟩ = some (.pointer px) := H4.out.1.cell 2
        clear hrel hall hf
        by_cases hm : m < n2
        · have hmi : (m : Int) < (n2 : Int) := by omega
          have hml : m < q.groups.length := by rw [HN2.out]; exact hm
          obtain ⟨A', c', e, _, _, hrow⟩ := H4.out.2.2.1
          obtain ⟨ga, off, rfl, hK, hg, hel⟩ := hrow (by omega)
          obtain ⟨rfl, rfl⟩ : A2 = some ⟨ga, off, none⟩ ∧ c2 = c' := by injection e with e1 e2 e3; exact ⟨e1, e3⟩
          obtain ⟨cs, hcl, hcs, hE⟩ := hel m hml
          obtain ⟨x, hx⟩ : ∃ x, q.groups[m] = x := ⟨_, rfl⟩
          have HX := Lib.hid hx
          rw [hx] at hE
          obtain ⟨ca, cb, hE, _, hRA, hRB⟩ := hE
          have t0 : wr.cell? ⟨ga, off + m * 3, none⟩ = some (.int .i64 x.kind) := by have := hcs 0 (by decide); rw [hE] at this; simpa using this
          have t1 : wr.cell? ⟨ga, off + m * 3 + 1, none⟩ = some ca := by have := hcs 1 (by decide); rw [hE] at this; simpa using this
          have t2 : wr.cell? ⟨ga, off + m * 3 + 2, none⟩ = some cb := by have := hcs 2 (by decide); rw [hE] at this; simpa using this
          have HC := Lib.hid (dgroup_any x wr hRA hRB)
          obtain ⟨xk, hxk⟩ : ∃ k, x.kind = k := ⟨_, rfl⟩
          rw [hxk] at t0 HC
          obtain ⟨R1, r1, s1, rfl⟩ : ∃ R r s, ca = .slice R r s := by obtain ⟨R, s, e, _⟩ := hRA; exact ⟨_, _, _, e⟩
          obtain ⟨R2, r2, s2, rfl⟩ : ∃ R r s, cb = .slice R r s := by obtain ⟨R, s, e, _⟩ := hRB; exact ⟨_, _, _, e⟩
          clear hcs hcl hel hK hrow e hE hx hRA hRB hxk d2
          go_wp2_with fail
          refine HC.out.mono ?_
          clear HC
          rintro e w5 ⟨rfl, f5⟩
          have HF5 := Lib.hid (HFM.out.trans f5 fun _ _ h => h)
          clear f5
          cases hb : rightG x with
          | true =>
            have HT : Hid ((q.groups.take (m + 1)).all rightG = true) := Lib.hid (by rw [take_all hml HALL.out, HX.out, hb])
            clear hb
            go_wp2_with fail
            obtain ⟨g1, rfl⟩ : ∃ g1, gk = g1 + 1 := ⟨gk - 1, by omega⟩
            go_roundg g1
            case rel => exact Lib.hid ⟨m + 1, by go_num, by omega, HF5.out, HT.out⟩
            all_goals omega
          | false =>
            have HV : Hid (rightQ q = false) := Lib.hid (by rw [HQ.out, HI.out, take_bad hml (by rw [HX.out]; exact hb)]; rfl)
            clear hb
            go_wp2_with fail
            go_ret
            exact HEND.out _ _ _ HV.out rfl (HAT.out _ HF5.out).2.2.2.2
        · have hmi : (n2 : Int) ≤ (m : Int) := by omega
          have HGS : Hid (q.groups.all rightG = true) := Lib.hid (by have := HALL.out; rwa [List.take_of_length_le (by rw [HN2.out]; omega)] at this)
          rcases H4.out.2.1.ptr with ⟨hc, e⟩ | ⟨hc, gp, op, e⟩
          · obtain rfl : px = none := by injection e
            have HV : Hid (rightQ q = true) := Lib.hid (by rw [HQ.out, HI.out, HGS.out, hc]; rfl)
            clear hc e HALL
            go_wp2_with fail
            go_ret
            exact HEND.out _ _ _ HV.out rfl H4.out.2.2.2.2
          · obtain rfl : px = some ⟨gp, op, none⟩ := by injection e
            obtain ⟨z, hz⟩ : ∃ z, wr.heap.size = z := ⟨_, rfl⟩
            obtain ⟨wn, hwn⟩ : ∃ wn, wr.alloc (.cells #[.int .i64 2048] 70) = wn := ⟨_, rfl⟩
            have g1 : Fr No wr wn := by rw [← hwn]; exact (Fr.refl No wr).alloc _
            have hbn : Blk wn z 70 #[.int .i64 2048] := by rw [← hwn, ← hz]; exact Blk.new wr 70 _
            have hyz : y < z := by rw [← hz]; exact HKY.out wr HFM.out
            have H5 := HAT.out wn (HFM.out.trans g1 fun _ _ h => h)
            have HC := Lib.hid (dright_any (fun k => K k ∧ k < y) z (fun k hk => by omega) d q.cond _ wn 32 2048 32 rfl HD.out H5.2.1 hbn (by omega) (by omega))
            obtain ⟨xr, hxr⟩ : ∃ x, rightC q.cond 32 2048 = x := ⟨_, rfl⟩
            rw [hxr] at HC
            have HV : Hid (rightQ q = xr.isSome) := Lib.hid (by rw [HQ.out, HI.out, HGS.out, hxr, decide_eq_false hc]; rfl)
            have HF := Lib.hid H5.2.2.2.2
            have HZ := Lib.hid hz
            have HWN := Lib.hid hwn
            have HWZ : Hid (w.heap.size ≤ z) := Lib.hid (by have := HY.out; omega)
            clear hc e HALL hz hwn g1 hbn hyz H5 hxr
            go_wp2_with fail
            rw [HZ.out, HWN.out]
            refine HC.out.mono ?_
            clear HC
            rintro e w5 ⟨rfl, f5, -⟩
            have HF5 : Hid (Fr No w w5) := Lib.hid ((HF.out.any.trans f5 fun _ _ h => h).notnew fun k hk => by have := HWZ.out; rw [show k = z from hk]; omega)
            clear f5
            go_wp2_with fail
            go_ret
            exact HEND.out _ _ _ HV.out rfl HF5.out
end Go.Proofs.YtkcnbmgaeompjaaGreatDoor
