/- Whether a query may be: Right. -/
import Derived.Test.YtkcnbmgaeompjaaGreatDoorGC
import Derived.Test.YtkcnbmgaeompjaaGreatDoorGS
import Derived.Deep.LoopGhost
import Derived.Deep.RegionHeld3
import Derived.BigQuiet
namespace Go.Proofs.YtkcnbmgaeompjaaGreatDoor
open Go.RowKit Go.Maps
set_option linter.unusedVariables false

/-- A query, its condition down to so deep. -/
def QyTo (d : Nat) (K : Nat → Prop) (w : World) (q : Qy) (v : Value) : Prop :=
  ∃ a C G, v = .agg #[a, sv q.table, C, .bool q.grouped, G] ∧ RowE K w 2 (itG K w) a q.items ∧ q.table.length ≤ maxLen ∧ CdTo K w d q.cond C ∧ RowE K w 3 (gpG K w) G q.groups
theorem qyTo_of {d : Nat} {K : Nat → Prop} {w : World} {q : Qy} {v : Value} (h : QyAt K w q v) : QyTo d K w q v := by
  obtain ⟨a, C, G, h1, h2, h3, h4, h5⟩ := h
  exact ⟨a, C, G, h1, h2, h3, cdTo_of _ _ _ h4, h5⟩
set_option maxRecDepth 100000 in
set_option maxHeartbeats 4000000 in
theorem right_query {d : Nat} (h32 : 32 ≤ d) (K : Nat → Prop) (q : Qy) (v : Value) (w : World) (hp : Lr w) (h : QyTo d K w q v) : Calls Tryz.prog 18 #[v] w (TellsB (rightQ q) w) := by
  obtain ⟨a, C, G, rfl, hit, htl, hcd, hgr⟩ := h
  obtain ⟨A1, c1, rfl⟩ : ∃ A1 c1, a = .slice A1 q.items.length c1 := by obtain ⟨A1, c1, e, _⟩ := hit; exact ⟨_, _, e⟩
  obtain ⟨A2, c2, rfl⟩ : ∃ A2 c2, G = .slice A2 q.groups.length c2 := by obtain ⟨A2, c2, e, _⟩ := hgr; exact ⟨_, _, e⟩
  obtain ⟨px, rfl⟩ : ∃ px, C = .pointer px := by
    rcases hcd.ptr with ⟨_, e⟩ | ⟨_, g, o, e⟩ <;> exact ⟨_, e⟩
  obtain ⟨w1, hw1⟩ : ∃ w1, w.alloc (.cells #[.slice A1 q.items.length c1, sv q.table, .pointer px, .bool q.grouped, .slice A2 q.groups.length c2] 27) = w1 := ⟨_, rfl⟩
  obtain ⟨y, hy⟩ : ∃ y, w.heap.size = y := ⟨_, rfl⟩
  have f1 : Fr No w w1 := by rw [← hw1]; exact (Fr.refl No w).alloc _
  have hb : Blk w1 y 27 #[.slice A1 q.items.length c1, sv q.table, .pointer px, .bool q.grouped, .slice A2 q.groups.length c2] := by rw [← hw1, ← hy]; exact Blk.new w 27 _
  have hs1 : w1.heap.size = y + 1 := by rw [← hw1, ← hy]; simp
  obtain ⟨w2, hw2⟩ : ∃ w2, w1.alloc (.cells #[.int .i64 2048] 77) = w2 := ⟨_, rfl⟩
  have f2 : Fr No w1 w2 := by rw [← hw2]; exact (Fr.refl No w1).alloc _
  have hb2 : Blk w2 (y + 1) 77 #[.int .i64 2048] := by rw [← hw2, ← hs1]; exact Blk.new w1 77 _
  have f12 := f1.trans f2 fun _ _ h => h
  have HAT : Hid (∀ w', Fr No w2 w' → Lr w' ∧ Blk w' y 27 #[.slice A1 q.items.length c1, sv q.table, .pointer px, .bool q.grouped, .slice A2 q.groups.length c2] ∧ Blk w' (y + 1) 77 #[.int .i64 2048] ∧ CdTo (fun k => K k ∧ k < y) w' d q.cond (.pointer px) ∧ RowE (fun k => K k ∧ k < y) w' 3 (gpG (fun k => K k ∧ k < y) w') (.slice A2 q.groups.length c2) q.groups ∧ Fr No w w') := Lib.hid fun w' f' => by
    have fw := f12.trans f' fun _ _ h => h
    have fy := f2.trans f' fun _ _ h => h
    exact ⟨hp.no fw, hb.of (fy.block y hb.lt id), hb2.of (f'.block _ hb2.lt id), hcd.mono (fun k hk hkl => ⟨⟨hk, by omega⟩, fw.block k hkl id⟩), hgr.mono (fun k hk hkl => ⟨⟨hk, by omega⟩, fw.block k hkl id⟩) fun x cs hx => gpG_elem.mono _ _ _ _ _ _ hx (fun k hk hkl => ⟨⟨hk, by omega⟩, fw.block k hkl id⟩), fw⟩
  have HI := Lib.hid (ritems_any w2 (hp.no f12) (hit.at_ itG_elem f12))
  have HW1 := Lib.hid hw1
  have HW2 := Lib.hid hw2
  have HY := Lib.hid hy
  have HS1 := Lib.hid hs1
  have H0 := Lib.hid (HAT.out w2 (Fr.refl _ _))
  have HYL : Hid (6 ≤ y) := Lib.hid (by have := hp.lt; omega)
  have HTL := Lib.hid htl
  obtain ⟨gb, hgb⟩ : ∃ gb, (if q.grouped then rightL q.groups 1 16 rightG else q.groups.isEmpty) = gb := ⟨_, rfl⟩
  have HQ : Hid (rightQ q = (rightL q.items 1 16 rightI && isNameB q.table && (decide (q.cond = .none) || (rightC q.cond 32 2048).isSome) && gb)) := Lib.hid (by rw [← hgb]; unfold rightQ rightGs; rfl)
  have HGBV := Lib.hid hgb
  clear hgb
  have HEND : Hid (∀ (bb : Bool) e w', rightQ q = bb → e = .returned (.bool bb) → Fr No w w' → TellsB (rightQ q) w e w') := Lib.hid fun bb e w' h1 h2 h3 => ⟨by rw [h2, h1], h3⟩
  have c0 : w2.cell? ⟨y, 0, none⟩ = some (.slice A1 q.items.length c1) := H0.out.2.1.cell 0
  clear hp hit hcd hgr hb hb2 hw1 hw2 hy hs1 f1 f2 f12 htl
  go_enter Tryz.func18, Tryz.ntmps18
  go_upto_region 1 with fail
  rw [HW1.out, HY.out]
  go_upto_region 2 with fail
  rw [HS1.out, HW2.out]
  go_wp2_with fail
  refine HI.out.mono ?_
  rintro e w3 ⟨rfl, f3⟩
  have H3 := Lib.hid (HAT.out w3 f3)
  have HF3 := Lib.hid f3
  have d1 : w3.cell? ⟨y, 1, none⟩ = some (sv q.table) := H3.out.2.1.cell 1
  have d2 : w3.cell? ⟨y, 2, none⟩ = some (.pointer px) := H3.out.2.1.cell 2
  clear f3 c0 HI
  cases r1 : rightL q.items 1 16 rightI with
  | false =>
    have HV : Hid (rightQ q = false) := Lib.hid (by rw [HQ.out, r1]; rfl)
    go_wp2_with fail
    go_ret
    exact HEND.out _ _ _ HV.out rfl H3.out.2.2.2.2.2
  | true =>
  have HN := Lib.hid (iname_any q.table w3 H3.out.1 HTL.out)
  have R1 := Lib.hid r1
  clear r1
  go_wp2_with fail
  refine HN.out.mono ?_
  rintro e w4 ⟨rfl, f4⟩
  have HF4 := Lib.hid (HF3.out.trans f4 fun _ _ h => h)
  have H4 := Lib.hid (HAT.out w4 HF4.out)
  have d1 : w4.cell? ⟨y, 1, none⟩ = some (sv q.table) := H4.out.2.1.cell 1
  have d2 : w4.cell? ⟨y, 2, none⟩ = some (.pointer px) := H4.out.2.1.cell 2
  clear f4 HN
  cases r2 : isNameB q.table with
  | false =>
    have HV : Hid (rightQ q = false) := Lib.hid (by rw [HQ.out, R1.out, r2]; rfl)
    go_wp2_with fail
    go_ret
    exact HEND.out _ _ _ HV.out rfl H4.out.2.2.2.2.2
  | true =>
  have R2 := Lib.hid r2
  clear r2
  rcases H4.out.2.2.2.1.ptr with ⟨hc, e⟩ | ⟨hc, g, o, e⟩
  · obtain rfl : px = none := by injection e
    have HG := Lib.hid (rgroups_any (A1 := A1) (n1 := q.items.length) (c1 := c1) (t := q.table) (px := none) (g := q.grouped) w4 H4.out.1 H4.out.2.2.2.2.1)
    have HV : Hid (rightQ q = gb) := Lib.hid (by rw [HQ.out, R1.out, R2.out, hc]; simp)
    have b0 : w4.cell? ⟨y, 0, none⟩ = some (.slice A1 q.items.length c1) := H4.out.2.1.cell 0
    have b3 : w4.cell? ⟨y, 3, none⟩ = some (.bool q.grouped) := H4.out.2.1.cell 3
    have b4 : w4.cell? ⟨y, 4, none⟩ = some (.slice A2 q.groups.length c2) := H4.out.2.1.cell 4
    rw [HGBV.out] at HG
    clear hc e
    go_wp2_with fail
    refine HG.out.mono ?_
    rintro e w5 ⟨rfl, f5⟩
    have HF5 := Lib.hid (H4.out.2.2.2.2.2.trans f5 fun _ _ h => h)
    clear f5
    go_wp2_with fail
    go_ret
    exact HEND.out _ _ _ HV.out rfl HF5.out
  · obtain rfl : px = some ⟨g, o, none⟩ := by injection e
    have HC := Lib.hid (right_any (fun k => K k ∧ k < y) (y + 1) (fun k hk => by omega) (by have := HYL.out; omega) d q.cond _ w4 32 2048 32 rfl h32 hc H4.out.2.2.2.1 H4.out.1 H4.out.2.2.1 (by omega) (by omega))
    have HCN := Lib.hid hc
    clear hc e
    go_wp2_with fail
    refine HC.out.mono ?_
    rintro e w5 ⟨rfl, f5, -⟩
    have HF5 : Hid (Fr No w w5) := Lib.hid ((H4.out.2.2.2.2.2.any.trans f5 fun _ _ h => h).notnew fun k hk => by have := HY.out; rw [show k = y + 1 from hk]; omega)
    have hb5 := H4.out.2.1.of (f5.block y H4.out.2.1.lt (by show ¬ y = y + 1; omega))
    have b0 : w5.cell? ⟨y, 0, none⟩ = some (.slice A1 q.items.length c1) := hb5.cell 0
    have b1 : w5.cell? ⟨y, 1, none⟩ = some (sv q.table) := hb5.cell 1
    have b2 : w5.cell? ⟨y, 2, none⟩ = some (.pointer (some ⟨g, o, none⟩)) := hb5.cell 2
    have b3 : w5.cell? ⟨y, 3, none⟩ = some (.bool q.grouped) := hb5.cell 3
    have b4 : w5.cell? ⟨y, 4, none⟩ = some (.slice A2 q.groups.length c2) := hb5.cell 4
    have HG := Lib.hid (rgroups_any (A1 := A1) (n1 := q.items.length) (c1 := c1) (t := q.table) (px := some ⟨g, o, none⟩) (g := q.grouped) (K := fun k => K k ∧ k < y) w5 (H4.out.1.keep (B := 6) (by omega) (f5.below_of (by have := H4.out.1.lt; omega) fun k hk => by have := HYL.out; rw [show k = y + 1 from hk]; omega)) (H4.out.2.2.2.2.1.mono (fun k hk hkl => ⟨hk, f5.block k hkl (by show ¬ k = y + 1; omega)⟩) fun x cs hx => gpG_elem.mono _ _ _ _ _ _ hx (fun k hk hkl => ⟨hk, f5.block k hkl (by show ¬ k = y + 1; omega)⟩)))
    rw [HGBV.out] at HG
    clear f5 hb5 HC
    cases r3 : (rightC q.cond 32 2048).isSome with
    | false =>
      have HV : Hid (rightQ q = false) := Lib.hid (by rw [HQ.out, R1.out, R2.out, r3, decide_eq_false HCN.out]; rfl)
      go_wp2_with fail
      go_ret
      exact HEND.out _ _ _ HV.out rfl HF5.out
    | true =>
      have HV : Hid (rightQ q = gb) := Lib.hid (by rw [HQ.out, R1.out, R2.out, r3, decide_eq_false HCN.out]; simp)
      clear r3
      go_wp2_with fail
      refine HG.out.mono ?_
      rintro e w6 ⟨rfl, f6⟩
      have HF6 := Lib.hid (HF5.out.trans f6 fun _ _ h => h)
      clear f6
      go_wp2_with fail
      go_ret
      exact HEND.out _ _ _ HV.out rfl HF6.out
end Go.Proofs.YtkcnbmgaeompjaaGreatDoor
/- Whether two lists are the same. -/
namespace Go.Proofs.YtkcnbmgaeompjaaGreatDoor
open Go.RowKit Go.Maps
set_option linter.unusedVariables false

theorem take_eq {α : Type} {l m : List α} {j : Nat} (h1 : j < l.length) (h2 : j < m.length) (ha : l.take j = m.take j) (hx : l[j] = m[j]) : l.take (j + 1) = m.take (j + 1) := by
  rw [List.take_succ_eq_append_getElem h1, List.take_succ_eq_append_getElem h2, ha, hx]
theorem nth_ne {α : Type} {l m : List α} {j : Nat} (h1 : j < l.length) (h2 : j < m.length) (hx : l[j] ≠ m[j]) : ¬ l = m := by
  rintro rfl
  exact hx rfl
theorem sv_inj {s t : Tx} (h : sv s = sv t) : s = t := by
  have : (⟨s.toArray⟩ : ByteArray) = ⟨t.toArray⟩ := by injection h
  have := congrArg (fun b => b.data.toList) this
  simpa using this
theorem bytes_ne {s t : Tx} (h : s ≠ t) : ¬ (⟨s.toArray⟩ : ByteArray) = ⟨t.toArray⟩ := fun e => h (sv_inj (congrArg Value.string e))
theorem neq_str (s t : Tx) (w : World) : (binOp .neq 9 (sv s) (sv t)).run Tryz.prog w = .ok (.bool (decide (s ≠ t))) w := by
  by_cases h : s = t
  · subst h
    simp [go_sem, sv]
  · rw [decide_eq_true h]
    simp [go_sem, sv, h]
theorem eql_str (s t : Tx) (w : World) : (binOp .eql 9 (sv s) (sv t)).run Tryz.prog w = .ok (.bool (decide (s = t))) w := by
  by_cases h : s = t
  · subst h
    simp [go_sem, sv]
  · rw [decide_eq_false h]
    simp [go_sem, sv, h]
theorem neq_it (x y : It) (w : World) : (binOp .neq 45 (.agg #[.int .i64 x.kind, sv x.col]) (.agg #[.int .i64 y.kind, sv y.col])).run Tryz.prog w = .ok (.bool (decide (x ≠ y))) w := by
  have hS : Tryz.prog.underlying 45 = some (.struct (Tryz.prog.fieldsOf 45)) := by kernel_rfl
  have hp : Tryz.prog.stoodInHeld 45 = false := by kernel_rfl
  obtain ⟨a, s⟩ := x
  obtain ⟨b, t⟩ := y
  rw [run_neq_struct, show (10000 : Nat) = 9999 + 1 from rfl, run_equalIn_agg w 9999 45 _ _ hS hp]
  simp only [Program.fieldsOf, Tryz.underlying45]
  by_cases e1 : a = b
  · subst e1
    by_cases e2 : s = t
    · subst e2; simp [Op.eqFields, go_sem, sv]
    · simp [Op.eqFields, go_sem, sv, e2]
  · simp [Op.eqFields, go_sem, sv, e1]
theorem neq_vl (x y : Vl) (w : World) : (binOp .neq 47 (.agg #[.bool x.isText, sv x.text, .int .i64 x.int]) (.agg #[.bool y.isText, sv y.text, .int .i64 y.int])).run Tryz.prog w = .ok (.bool (decide (x ≠ y))) w := by
  have hS : Tryz.prog.underlying 47 = some (.struct (Tryz.prog.fieldsOf 47)) := by kernel_rfl
  have hp : Tryz.prog.stoodInHeld 47 = false := by kernel_rfl
  obtain ⟨i, s, a⟩ := x
  obtain ⟨k, t, b⟩ := y
  rw [run_neq_struct, show (10000 : Nat) = 9999 + 1 from rfl, run_equalIn_agg w 9999 47 _ _ hS hp]
  simp only [Program.fieldsOf, Tryz.underlying47]
  by_cases e0 : i = k
  · subst e0
    by_cases e1 : a = b
    · subst e1
      by_cases e2 : s = t
      · subst e2; simp [Op.eqFields, go_sem, sv]
      · simp [Op.eqFields, go_sem, sv, e2]
    · by_cases e2 : s = t
      · subst e2; simp [Op.eqFields, go_sem, sv, e1]
      · simp [Op.eqFields, go_sem, sv, e1, e2]
  · simp [Op.eqFields, go_sem, sv, e0]
theorem guard_it : ∀ x y xs ys (w : World), (eqGuard .neq 45 x y (.agg xs) (.agg ys)).run Tryz.prog w = .ok () w := fun x y xs ys w => run_eqGuard_agg w .neq 45 x y xs ys (by kernel_rfl)
theorem guard_vl : ∀ x y xs ys (w : World), (eqGuard .neq 47 x y (.agg xs) (.agg ys)).run Tryz.prog w = .ok () w := fun x y xs ys w => run_eqGuard_agg w .neq 47 x y xs ys (by kernel_rfl)

set_option maxRecDepth 100000 in
theorem eq104_any {K K2 : Nat → Prop} {l m : List It} {a b : Value} (w : World) (h : RowE K w 2 (itG K w) a l) (h2 : RowE K2 w 2 (itG K2 w) b m) :
    Calls Tryz.prog 104 #[a, b] w (TellsB (decide (l = m)) w) := by
  obtain ⟨A, c, rfl, hlc, hcm, hrow⟩ := h
  obtain ⟨A2, c2, rfl, hlc2, hcm2, hrow2⟩ := h2
  by_cases hlm : l.length = m.length
  · obtain ⟨n, hn⟩ : ∃ n, l.length = n := ⟨_, rfl⟩
    have hn2 : m.length = n := by omega
    rw [hn] at hlc ⊢
    rw [hn2] at hlc2 ⊢
    have HROW := Lib.hid hrow
    have HROW2 := Lib.hid hrow2
    have HN := Lib.hid hn
    have HN2 := Lib.hid hn2
    unfold maxLen at hcm hcm2
    clear hrow hrow2 hn hn2 hlm
    go_enter Tryz.func104, Tryz.ntmps104
    go_wp2_with fail
    go_loopg [5, 13] n (fun k r5 r13 wr => Hid (∃ j : Nat, r13 = .int .i64 (j : Nat) ∧ j + k = n ∧ Fr No w wr ∧ l.take j = m.take j))
    case atStart => exact Lib.hid ⟨0, rfl, by omega, Fr.refl _ _, rfl⟩
    case round =>
      obtain ⟨j, rfl, hjn, hf, hall⟩ := hrel.out
      have HALL := Lib.hid hall
      clear hrel hall
      by_cases hj : j < n
      · have hji : (j : Int) < (n : Int) := by omega
        have hjl : j < l.length := by rw [HN.out]; exact hj
        have hjm : j < m.length := by rw [HN2.out]; exact hj
        obtain ⟨g, off, rfl, hK, hg, hel⟩ := HROW.out (by omega)
        obtain ⟨g2, off2, rfl, hK2, hg2, hel2⟩ := HROW2.out (by omega)
        obtain ⟨cs, hcl, hcs, hE⟩ := hel j hjl
        obtain ⟨cs2, hcl2, hcs2, hE2⟩ := hel2 j hjm
        obtain ⟨x, hx⟩ : ∃ x, l[j] = x := ⟨_, rfl⟩
        obtain ⟨y, hy⟩ : ∃ y, m[j] = y := ⟨_, rfl⟩
        have HX := Lib.hid hx
        have HY := Lib.hid hy
        rw [hx] at hE
        rw [hy] at hE2
        have hE := hE.1
        have hE2 := hE2.1
        have p0 : wr.cell? ⟨g, off + j * 2, none⟩ = some (.int .i64 x.kind) := (cell_of_heap (hf.block g hg id)).trans (by have := hcs 0 (by decide); rw [hE] at this; simpa using this)
        have p1 : wr.cell? ⟨g, off + j * 2 + 1, none⟩ = some (sv x.col) := (cell_of_heap (hf.block g hg id)).trans (by have := hcs 1 (by decide); rw [hE] at this; simpa using this)
        have q0 : wr.cell? ⟨g2, off2 + j * 2, none⟩ = some (.int .i64 y.kind) := (cell_of_heap (hf.block g2 hg2 id)).trans (by have := hcs2 0 (by decide); rw [hE2] at this; simpa using this)
        have q1 : wr.cell? ⟨g2, off2 + j * 2 + 1, none⟩ = some (sv y.col) := (cell_of_heap (hf.block g2 hg2 id)).trans (by have := hcs2 1 (by decide); rw [hE2] at this; simpa using this)
        have HFD := Lib.hid hf.drew
        have HF := Lib.hid hf
        have hgd := guard_it
        clear hcs hcl hel hK hf hE hcs2 hcl2 hel2 hK2 hE2 hx hy
        by_cases hxy : x = y
        · have hne : ∀ w, (binOp .neq 45 (.agg #[.int .i64 x.kind, sv x.col]) (.agg #[.int .i64 y.kind, sv y.col])).run Tryz.prog w = .ok (.bool false) w := fun w => by rw [neq_it x y, decide_eq_false (by simpa using hxy)]
          have HT : Hid (l.take (j + 1) = m.take (j + 1)) := Lib.hid (take_eq hjl hjm HALL.out (by rw [HX.out, HY.out]; exact hxy))
          clear hxy
          go_upto_region 6 with fail
          go_region
          all_goals
            go_wp2_with fail
            obtain ⟨g1, rfl⟩ : ∃ g1, gk = g1 + 1 := ⟨gk - 1, by omega⟩
            go_roundg g1
            case rel => exact Lib.hid ⟨j + 1, by go_num, by omega, HFD.out, HT.out⟩
            all_goals omega
        · have hne : ∀ w, (binOp .neq 45 (.agg #[.int .i64 x.kind, sv x.col]) (.agg #[.int .i64 y.kind, sv y.col])).run Tryz.prog w = .ok (.bool true) w := fun w => by rw [neq_it x y, decide_eq_true (by simpa using hxy)]
          have HT : Hid (decide (l = m) = false) := Lib.hid (decide_eq_false (nth_ne hjl hjm (by rw [HX.out, HY.out]; exact hxy)))
          clear hxy
          go_upto_region 6 with fail
          go_region
          all_goals
            go_wp2_with fail
            go_ret
            exact ⟨by rw [HT.out]; rfl, HFD.out⟩
      · have hji : (n : Int) ≤ (j : Int) := by omega
        have HT : Hid (decide (l = m) = true) := Lib.hid (decide_eq_true (by have := HALL.out; rwa [List.take_of_length_le (by rw [HN.out]; omega), List.take_of_length_le (by rw [HN2.out]; omega)] at this))
        have HFE := Lib.hid hf
        clear hf
        go_wp2_with fail
        go_ret
        exact ⟨by rw [HT.out]; rfl, HFE.out⟩
  · have hne : ((l.length : Int) != (m.length : Int)) = true := by simp; omega
    have HT : Hid (decide (l = m) = false) := Lib.hid (decide_eq_false (fun e => hlm (by rw [e])))
    clear hrow hrow2
    go_enter Tryz.func104, Tryz.ntmps104
    go_wp2_with fail
    go_ret
    exact ⟨by rw [HT.out]; rfl, Fr.refl _ _⟩

set_option maxRecDepth 100000 in
theorem eq145_any {K K2 : Nat → Prop} {l m : List Vl} {a b : Value} (w : World) (h : RowE K w 3 (vlG K w) a l) (h2 : RowE K2 w 3 (vlG K2 w) b m) :
    Calls Tryz.prog 145 #[a, b] w (TellsB (decide (l = m)) w) := by
  obtain ⟨A, c, rfl, hlc, hcm, hrow⟩ := h
  obtain ⟨A2, c2, rfl, hlc2, hcm2, hrow2⟩ := h2
  by_cases hlm : l.length = m.length
  · obtain ⟨n, hn⟩ : ∃ n, l.length = n := ⟨_, rfl⟩
    have hn2 : m.length = n := by omega
    rw [hn] at hlc ⊢
    rw [hn2] at hlc2 ⊢
    have HROW := Lib.hid hrow
    have HROW2 := Lib.hid hrow2
    have HN := Lib.hid hn
    have HN2 := Lib.hid hn2
    unfold maxLen at hcm hcm2
    clear hrow hrow2 hn hn2 hlm
    go_enter Tryz.func145, Tryz.ntmps145
    go_wp2_with fail
    go_loopg [5, 13] n (fun k r5 r13 wr => Hid (∃ j : Nat, r13 = .int .i64 (j : Nat) ∧ j + k = n ∧ Fr No w wr ∧ l.take j = m.take j))
    case atStart => exact Lib.hid ⟨0, rfl, by omega, Fr.refl _ _, rfl⟩
    case round =>
      obtain ⟨j, rfl, hjn, hf, hall⟩ := hrel.out
      have HALL := Lib.hid hall
      clear hrel hall
      by_cases hj : j < n
      · have hji : (j : Int) < (n : Int) := by omega
        have hjl : j < l.length := by rw [HN.out]; exact hj
        have hjm : j < m.length := by rw [HN2.out]; exact hj
        obtain ⟨g, off, rfl, hK, hg, hel⟩ := HROW.out (by omega)
        obtain ⟨g2, off2, rfl, hK2, hg2, hel2⟩ := HROW2.out (by omega)
        obtain ⟨cs, hcl, hcs, hE⟩ := hel j hjl
        obtain ⟨cs2, hcl2, hcs2, hE2⟩ := hel2 j hjm
        obtain ⟨x, hx⟩ : ∃ x, l[j] = x := ⟨_, rfl⟩
        obtain ⟨y, hy⟩ : ∃ y, m[j] = y := ⟨_, rfl⟩
        have HX := Lib.hid hx
        have HY := Lib.hid hy
        rw [hx] at hE
        rw [hy] at hE2
        have hE := hE.1
        have hE2 := hE2.1
        have p0 : wr.cell? ⟨g, off + j * 3, none⟩ = some (.bool x.isText) := (cell_of_heap (hf.block g hg id)).trans (by have := hcs 0 (by decide); rw [hE] at this; simpa using this)
        have p1 : wr.cell? ⟨g, off + j * 3 + 1, none⟩ = some (sv x.text) := (cell_of_heap (hf.block g hg id)).trans (by have := hcs 1 (by decide); rw [hE] at this; simpa using this)
        have p2 : wr.cell? ⟨g, off + j * 3 + 2, none⟩ = some (.int .i64 x.int) := (cell_of_heap (hf.block g hg id)).trans (by have := hcs 2 (by decide); rw [hE] at this; simpa using this)
        have q0 : wr.cell? ⟨g2, off2 + j * 3, none⟩ = some (.bool y.isText) := (cell_of_heap (hf.block g2 hg2 id)).trans (by have := hcs2 0 (by decide); rw [hE2] at this; simpa using this)
        have q1 : wr.cell? ⟨g2, off2 + j * 3 + 1, none⟩ = some (sv y.text) := (cell_of_heap (hf.block g2 hg2 id)).trans (by have := hcs2 1 (by decide); rw [hE2] at this; simpa using this)
        have q2 : wr.cell? ⟨g2, off2 + j * 3 + 2, none⟩ = some (.int .i64 y.int) := (cell_of_heap (hf.block g2 hg2 id)).trans (by have := hcs2 2 (by decide); rw [hE2] at this; simpa using this)
        have HFD := Lib.hid hf.drew
        have HF := Lib.hid hf
        have hgd := guard_vl
        clear hcs hcl hel hK hf hE hcs2 hcl2 hel2 hK2 hE2 hx hy
        by_cases hxy : x = y
        · have hne : ∀ w, (binOp .neq 47 (.agg #[.bool x.isText, sv x.text, .int .i64 x.int]) (.agg #[.bool y.isText, sv y.text, .int .i64 y.int])).run Tryz.prog w = .ok (.bool false) w := fun w => by rw [neq_vl x y, decide_eq_false (by simpa using hxy)]
          have HT : Hid (l.take (j + 1) = m.take (j + 1)) := Lib.hid (take_eq hjl hjm HALL.out (by rw [HX.out, HY.out]; exact hxy))
          clear hxy
          go_upto_region 6 with fail
          go_region
          all_goals
            go_wp2_with fail
            obtain ⟨g1, rfl⟩ : ∃ g1, gk = g1 + 1 := ⟨gk - 1, by omega⟩
            go_roundg g1
            case rel => exact Lib.hid ⟨j + 1, by go_num, by omega, HFD.out, HT.out⟩
            all_goals omega
        · have hne : ∀ w, (binOp .neq 47 (.agg #[.bool x.isText, sv x.text, .int .i64 x.int]) (.agg #[.bool y.isText, sv y.text, .int .i64 y.int])).run Tryz.prog w = .ok (.bool true) w := fun w => by rw [neq_vl x y, decide_eq_true (by simpa using hxy)]
          have HT : Hid (decide (l = m) = false) := Lib.hid (decide_eq_false (nth_ne hjl hjm (by rw [HX.out, HY.out]; exact hxy)))
          clear hxy
          go_upto_region 6 with fail
          go_region
          all_goals
            go_wp2_with fail
            go_ret
            exact ⟨by rw [HT.out]; rfl, HFD.out⟩
      · have hji : (n : Int) ≤ (j : Int) := by omega
        have HT : Hid (decide (l = m) = true) := Lib.hid (decide_eq_true (by have := HALL.out; rwa [List.take_of_length_le (by rw [HN.out]; omega), List.take_of_length_le (by rw [HN2.out]; omega)] at this))
        have HFE := Lib.hid hf
        clear hf
        go_wp2_with fail
        go_ret
        exact ⟨by rw [HT.out]; rfl, HFE.out⟩
  · have hne : ((l.length : Int) != (m.length : Int)) = true := by simp; omega
    have HT : Hid (decide (l = m) = false) := Lib.hid (decide_eq_false (fun e => hlm (by rw [e])))
    clear hrow hrow2
    go_enter Tryz.func145, Tryz.ntmps145
    go_wp2_with fail
    go_ret
    exact ⟨by rw [HT.out]; rfl, Fr.refl _ _⟩

set_option maxRecDepth 100000 in
theorem eq143_any {K K2 : Nat → Prop} {l m : List Tx} {a b : Value} (w : World) (h : RowE K w 1 (strG K w) a l) (h2 : RowE K2 w 1 (strG K2 w) b m) :
    Calls Tryz.prog 143 #[a, b] w (TellsB (decide (l = m)) w) := by
  obtain ⟨A, c, rfl, hlc, hcm, hrow⟩ := h
  obtain ⟨A2, c2, rfl, hlc2, hcm2, hrow2⟩ := h2
  by_cases hlm : l.length = m.length
  · obtain ⟨n, hn⟩ : ∃ n, l.length = n := ⟨_, rfl⟩
    have hn2 : m.length = n := by omega
    rw [hn] at hlc ⊢
    rw [hn2] at hlc2 ⊢
    have HROW := Lib.hid hrow
    have HROW2 := Lib.hid hrow2
    have HN := Lib.hid hn
    have HN2 := Lib.hid hn2
    unfold maxLen at hcm hcm2
    clear hrow hrow2 hn hn2 hlm
    go_enter Tryz.func143, Tryz.ntmps143
    go_wp2_with fail
    go_loopg [5, 13] n (fun k r5 r13 wr => Hid (∃ j : Nat, r13 = .int .i64 (j : Nat) ∧ j + k = n ∧ Fr No w wr ∧ l.take j = m.take j))
    case atStart => exact Lib.hid ⟨0, rfl, by omega, Fr.refl _ _, rfl⟩
    case round =>
      obtain ⟨j, rfl, hjn, hf, hall⟩ := hrel.out
      have HALL := Lib.hid hall
      clear hrel hall
      by_cases hj : j < n
      · have hji : (j : Int) < (n : Int) := by omega
        have hjl : j < l.length := by rw [HN.out]; exact hj
        have hjm : j < m.length := by rw [HN2.out]; exact hj
        obtain ⟨g, off, rfl, hK, hg, hel⟩ := HROW.out (by omega)
        obtain ⟨g2, off2, rfl, hK2, hg2, hel2⟩ := HROW2.out (by omega)
        obtain ⟨cs, hcl, hcs, hE⟩ := hel j hjl
        obtain ⟨cs2, hcl2, hcs2, hE2⟩ := hel2 j hjm
        obtain ⟨x, hx⟩ : ∃ x, l[j] = x := ⟨_, rfl⟩
        obtain ⟨y, hy⟩ : ∃ y, m[j] = y := ⟨_, rfl⟩
        have HX := Lib.hid hx
        have HY := Lib.hid hy
        rw [hx] at hE
        rw [hy] at hE2
        have hE := hE.1
        have hE2 := hE2.1
        have p0 : wr.cell? ⟨g, off + j, none⟩ = some (sv x) := (cell_of_heap (hf.block g hg id)).trans (by have := hcs 0 (by decide); rw [hE] at this; simpa using this)
        have q0 : wr.cell? ⟨g2, off2 + j, none⟩ = some (sv y) := (cell_of_heap (hf.block g2 hg2 id)).trans (by have := hcs2 0 (by decide); rw [hE2] at this; simpa using this)
        have HFD := Lib.hid hf.drew
        have HF := Lib.hid hf
        clear hcs hcl hel hK hf hE hcs2 hcl2 hel2 hK2 hE2 hx hy
        by_cases hxy : x = y
        · have hne : ∀ w, (binOp .neq 9 (sv x) (sv y)).run Tryz.prog w = .ok (.bool false) w := fun w => by rw [neq_str x y, decide_eq_false (by simpa using hxy)]
          have HT : Hid (l.take (j + 1) = m.take (j + 1)) := Lib.hid (take_eq hjl hjm HALL.out (by rw [HX.out, HY.out]; exact hxy))
          have hbe : (x == y) = true := by simpa using hxy
          clear hxy
          go_upto_region 6 with fail
          go_region
          all_goals
            go_wp2_with fail
            obtain ⟨g1, rfl⟩ : ∃ g1, gk = g1 + 1 := ⟨gk - 1, by omega⟩
            go_roundg g1
            case rel => exact Lib.hid ⟨j + 1, by go_num, by omega, HFD.out, HT.out⟩
            all_goals omega
        · have hne : ∀ w, (binOp .neq 9 (sv x) (sv y)).run Tryz.prog w = .ok (.bool true) w := fun w => by rw [neq_str x y, decide_eq_true (by simpa using hxy)]
          have HT : Hid (decide (l = m) = false) := Lib.hid (decide_eq_false (nth_ne hjl hjm (by rw [HX.out, HY.out]; exact hxy)))
          have hbe : (x == y) = false := by simpa using hxy
          clear hxy
          go_upto_region 6 with fail
          go_region
          all_goals
            go_wp2_with fail
            go_ret
            exact ⟨by rw [HT.out]; rfl, HFD.out⟩
      · have hji : (n : Int) ≤ (j : Int) := by omega
        have HT : Hid (decide (l = m) = true) := Lib.hid (decide_eq_true (by have := HALL.out; rwa [List.take_of_length_le (by rw [HN.out]; omega), List.take_of_length_le (by rw [HN2.out]; omega)] at this))
        have HFE := Lib.hid hf
        clear hf
        go_wp2_with fail
        go_ret
        exact ⟨by rw [HT.out]; rfl, HFE.out⟩
  · have hne : ((l.length : Int) != (m.length : Int)) = true := by simp; omega
    have HT : Hid (decide (l = m) = false) := Lib.hid (decide_eq_false (fun e => hlm (by rw [e])))
    clear hrow hrow2
    go_enter Tryz.func143, Tryz.ntmps143
    go_wp2_with fail
    go_ret
    exact ⟨by rw [HT.out]; rfl, Fr.refl _ _⟩
end Go.Proofs.YtkcnbmgaeompjaaGreatDoor
/- Whether two lists of lists, two elements are the same. -/
namespace Go.Proofs.YtkcnbmgaeompjaaGreatDoor
open Go.RowKit Go.Maps
set_option linter.unusedVariables false

set_option maxRecDepth 100000 in
theorem eq144_any {K K2 : Nat → Prop} {l m : List (List Tx)} {a b : Value} (w : World) (h : RowE K w 1 (lsG K w) a l) (h2 : RowE K2 w 1 (lsG K2 w) b m) :
    Calls Tryz.prog 144 #[a, b, .func (.func 143) #[] #[]] w (TellsB (decide (l = m)) w) := by
  obtain ⟨A, c, rfl, hlc, hcm, hrow⟩ := h
  obtain ⟨A2, c2, rfl, hlc2, hcm2, hrow2⟩ := h2
  by_cases hlm : l.length = m.length
  · obtain ⟨n, hn⟩ : ∃ n, l.length = n := ⟨_, rfl⟩
    have hn2 : m.length = n := by omega
    rw [hn] at hlc ⊢
    rw [hn2] at hlc2 ⊢
    have HROW := Lib.hid hrow
    have HROW2 := Lib.hid hrow2
    have HN := Lib.hid hn
    have HN2 := Lib.hid hn2
    unfold maxLen at hcm hcm2
    clear hrow hrow2 hn hn2 hlm
    go_enter Tryz.func144, Tryz.ntmps144
    go_wp2_with fail
    go_loopg [7, 8, 9, 17] n (fun k r7 r8 r9 r17 wr => Hid (∃ j : Nat, r17 = .int .i64 (j : Nat) ∧ j + k = n ∧ Fr No w wr ∧ l.take j = m.take j))
    case atStart => exact Lib.hid ⟨0, rfl, by omega, Fr.refl _ _, rfl⟩
    case round =>
      obtain ⟨j, rfl, hjn, hf, hall⟩ := hrel.out
      have HALL := Lib.hid hall
      clear hrel hall
      by_cases hj : j < n
      · have hji : (j : Int) < (n : Int) := by omega
        have hjl : j < l.length := by rw [HN.out]; exact hj
        have hjm : j < m.length := by rw [HN2.out]; exact hj
        obtain ⟨g, off, rfl, hK, hg, hel⟩ := HROW.out (by omega)
        obtain ⟨g2, off2, rfl, hK2, hg2, hel2⟩ := HROW2.out (by omega)
        obtain ⟨cs, hcl, hcs, hE⟩ := hel j hjl
        obtain ⟨cs2, hcl2, hcs2, hE2⟩ := hel2 j hjm
        obtain ⟨x, hx⟩ : ∃ x, l[j] = x := ⟨_, rfl⟩
        obtain ⟨y, hy⟩ : ∃ y, m[j] = y := ⟨_, rfl⟩
        have HX := Lib.hid hx
        have HY := Lib.hid hy
        rw [hx] at hE
        rw [hy] at hE2
        obtain ⟨v1, hEx, _, hR1⟩ := hE
        obtain ⟨v2, hEy, _, hR2⟩ := hE2
        obtain ⟨A1, n1, d1, rfl⟩ : ∃ A1 n1 d1, v1 = .slice A1 n1 d1 := by obtain ⟨A, c, e, _⟩ := hR1; exact ⟨_, _, _, e⟩
        obtain ⟨A3, n3, d3, rfl⟩ : ∃ A3 n3 d3, v2 = .slice A3 n3 d3 := by obtain ⟨A, c, e, _⟩ := hR2; exact ⟨_, _, _, e⟩
        have p0 : wr.cell? ⟨g, off + j, none⟩ = some (.slice A1 n1 d1) := (cell_of_heap (hf.block g hg id)).trans (by have := hcs 0 (by decide); rw [hEx] at this; simpa using this)
        have q0 : wr.cell? ⟨g2, off2 + j, none⟩ = some (.slice A3 n3 d3) := (cell_of_heap (hf.block g2 hg2 id)).trans (by have := hcs2 0 (by decide); rw [hEy] at this; simpa using this)
        have HFN := Lib.hid hf
        have HC := Lib.hid (eq143_any wr (hR1.at_ strG_elem HFN.out) (hR2.at_ strG_elem HFN.out))
        clear hcs hcl hel hK hf hEx hcs2 hcl2 hel2 hK2 hEy hx hy hR1 hR2
        go_wp2_with fail
        refine HC.out.mono ?_
        rintro e w5 ⟨rfl, f5⟩
        have HF5 := Lib.hid (HFN.out.trans f5 fun _ _ h => h)
        clear f5
        by_cases hxy : x = y
        · rw [decide_eq_true hxy]
          have HT : Hid (l.take (j + 1) = m.take (j + 1)) := Lib.hid (take_eq hjl hjm HALL.out (by rw [HX.out, HY.out]; exact hxy))
          clear hxy
          go_wp2_with fail
          obtain ⟨g1, rfl⟩ : ∃ g1, gk = g1 + 1 := ⟨gk - 1, by omega⟩
          go_roundg g1
          case rel => exact Lib.hid ⟨j + 1, by go_num, by omega, HF5.out, HT.out⟩
          all_goals omega
        · rw [decide_eq_false hxy]
          have HT : Hid (decide (l = m) = false) := Lib.hid (decide_eq_false (nth_ne hjl hjm (by rw [HX.out, HY.out]; exact hxy)))
          clear hxy
          go_wp2_with fail
          go_ret
          exact ⟨by rw [HT.out]; rfl, HF5.out⟩
      · have hji : (n : Int) ≤ (j : Int) := by omega
        have HT : Hid (decide (l = m) = true) := Lib.hid (decide_eq_true (by have := HALL.out; rwa [List.take_of_length_le (by rw [HN.out]; omega), List.take_of_length_le (by rw [HN2.out]; omega)] at this))
        have HFE := Lib.hid hf
        clear hf
        go_wp2_with fail
        go_ret
        exact ⟨by rw [HT.out]; rfl, HFE.out⟩
  · have hne : ((l.length : Int) != (m.length : Int)) = true := by simp; omega
    have HT : Hid (decide (l = m) = false) := Lib.hid (decide_eq_false (fun e => hlm (by rw [e])))
    clear hrow hrow2
    go_enter Tryz.func144, Tryz.ntmps144
    go_wp2_with fail
    go_ret
    exact ⟨by rw [HT.out]; rfl, Fr.refl _ _⟩

set_option maxRecDepth 100000 in
theorem samegroup_any {K K2 : Nat → Prop} (x y : Gp) {a b a2 b2 : Value} (w : World) (hA : RowE K w 1 (strG K w) a x.cols) (hB : RowE K w 1 (lsG K w) b x.sets) (hA2 : RowE K2 w 1 (strG K2 w) a2 y.cols) (hB2 : RowE K2 w 1 (lsG K2 w) b2 y.sets) :
    Calls Tryz.prog 106 #[.agg #[.int .i64 x.kind, a, b], .agg #[.int .i64 y.kind, a2, b2]] w (TellsB (decide (x = y)) w) := by
  obtain ⟨kind, cols, sets⟩ := x
  obtain ⟨kind2, cols2, sets2⟩ := y
  simp only at hA hB hA2 hB2 ⊢
  obtain ⟨A1, n1, c1, rfl⟩ : ∃ A1 n1 c1, a = .slice A1 n1 c1 := by obtain ⟨A1, c1, e, _⟩ := hA; exact ⟨_, _, _, e⟩
  obtain ⟨A2, n2, c2, rfl⟩ : ∃ A2 n2 c2, b = .slice A2 n2 c2 := by obtain ⟨A2, c2, e, _⟩ := hB; exact ⟨_, _, _, e⟩
  obtain ⟨A3, n3, c3, rfl⟩ : ∃ A1 n1 c1, a2 = .slice A1 n1 c1 := by obtain ⟨A1, c1, e, _⟩ := hA2; exact ⟨_, _, _, e⟩
  obtain ⟨A4, n4, c4, rfl⟩ : ∃ A2 n2 c2, b2 = .slice A2 n2 c2 := by obtain ⟨A2, c2, e, _⟩ := hB2; exact ⟨_, _, _, e⟩
  obtain ⟨w1, hw1⟩ : ∃ w1, w.alloc (.cells #[.int .i64 kind, .slice A1 n1 c1, .slice A2 n2 c2] 66) = w1 := ⟨_, rfl⟩
  obtain ⟨z, hz⟩ : ∃ z, w.heap.size = z := ⟨_, rfl⟩
  have f1 : Fr No w w1 := by rw [← hw1]; exact (Fr.refl No w).alloc _
  have hb1 : Blk w1 z 66 #[.int .i64 kind, .slice A1 n1 c1, .slice A2 n2 c2] := by rw [← hw1, ← hz]; exact Blk.new w 66 _
  have hs1 : w1.heap.size = z + 1 := by rw [← hw1, ← hz]; simp
  obtain ⟨w2, hw2⟩ : ∃ w2, w1.alloc (.cells #[.int .i64 kind2, .slice A3 n3 c3, .slice A4 n4 c4] 66) = w2 := ⟨_, rfl⟩
  have f2 : Fr No w1 w2 := by rw [← hw2]; exact (Fr.refl No w1).alloc _
  have hb2 : Blk w2 (z + 1) 66 #[.int .i64 kind2, .slice A3 n3 c3, .slice A4 n4 c4] := by rw [← hw2, ← hs1]; exact Blk.new w1 66 _
  have hb12 := hb1.of (f2.block z hb1.lt id)
  have f12 := f1.trans f2 fun _ _ h => h
  have HB1 := Lib.hid hb12
  have HB2 := Lib.hid hb2
  have H12 := Lib.hid f12
  have HC1 := Lib.hid (eq143_any w2 (hA.at_ strG_elem f12) (hA2.at_ strG_elem f12))
  have HC2 : Hid (∀ w3, Fr No w w3 → Calls Tryz.prog 144 #[.slice A2 n2 c2, .slice A4 n4 c4, .func (.func 143) #[] #[]] w3 (TellsB (decide (sets = sets2)) w3)) := Lib.hid fun w3 f3 => eq144_any w3 (hB.at_ lsG_elem f3) (hB2.at_ lsG_elem f3)
  have HW1 := Lib.hid hw1
  have HW2 := Lib.hid hw2
  have HZ := Lib.hid hz
  have HS1 := Lib.hid hs1
  have HEND : Hid (∀ (bb : Bool) e w2, decide ((⟨kind, cols, sets⟩ : Gp) = ⟨kind2, cols2, sets2⟩) = bb → e = .returned (.bool bb) → Fr No w w2 → TellsB (decide ((⟨kind, cols, sets⟩ : Gp) = ⟨kind2, cols2, sets2⟩)) w e w2) := Lib.hid fun bb e w2 h1 h2 h3 => ⟨by rw [h2, h1], h3⟩
  have s0 : w2.cell? ⟨z, 0, none⟩ = some (.int .i64 kind) := hb12.cell 0
  have s1 : w2.cell? ⟨z, 1, none⟩ = some (.slice A1 n1 c1) := hb12.cell 1
  have t0 : w2.cell? ⟨z + 1, 0, none⟩ = some (.int .i64 kind2) := hb2.cell 0
  have t1 : w2.cell? ⟨z + 1, 1, none⟩ = some (.slice A3 n3 c3) := hb2.cell 1
  clear hw1 hz f1 hb1 hs1 hw2 f2 hb2 hb12 f12 hA hB hA2 hB2
  go_enter Tryz.func106, Tryz.ntmps106
  go_upto_region 1 with fail
  rw [HZ.out, HW1.out, HW2.out]
  by_cases hk : kind = kind2
  · subst hk
    go_wp2_with fail
    refine HC1.out.mono ?_
    rintro e w3 ⟨rfl, f3⟩
    have HF3 := Lib.hid (H12.out.trans f3 fun _ _ h => h)
    have hb3 := HB1.out.of (f3.block z HB1.out.lt id)
    have hb4 := HB2.out.of (f3.block (z + 1) HB2.out.lt id)
    have s2 : w3.cell? ⟨z, 2, none⟩ = some (.slice A2 n2 c2) := hb3.cell 2
    have t2 : w3.cell? ⟨z + 1, 2, none⟩ = some (.slice A4 n4 c4) := hb4.cell 2
    clear f3 hb3 hb4 s0 s1 t0 t1
    by_cases hc : cols = cols2
    · have HD : Hid (decide ((⟨kind, cols, sets⟩ : Gp) = ⟨kind, cols2, sets2⟩) = decide (sets = sets2)) := Lib.hid (by rw [hc]; exact decide_eq_decide.2 (by simp))
      rw [decide_eq_true hc]
      clear hc
      go_wp2_with fail
      refine (HC2.out w3 HF3.out).mono ?_
      rintro e w4 ⟨rfl, f4⟩
      have HF4 := Lib.hid (HF3.out.trans f4 fun _ _ h => h)
      clear f4
      go_wp2_with fail
      go_ret
      exact HEND.out _ _ _ HD.out rfl HF4.out
    · have HD : Hid (decide ((⟨kind, cols, sets⟩ : Gp) = ⟨kind, cols2, sets2⟩) = false) := Lib.hid (decide_eq_false (by intro e; injection e with _ e _; exact hc e))
      rw [decide_eq_false hc]
      clear hc
      go_wp2_with fail
      go_ret
      exact HEND.out _ _ _ HD.out rfl HF3.out
  · have HD : Hid (decide ((⟨kind, cols, sets⟩ : Gp) = ⟨kind2, cols2, sets2⟩) = false) := Lib.hid (decide_eq_false (by intro e; injection e with e; exact hk e))
    have hk' : (kind == kind2) = false := by simpa using hk
    go_wp2_with fail
    go_ret
    exact HEND.out _ _ _ HD.out rfl H12.out

set_option maxRecDepth 100000 in
theorem eq105_any {K K2 : Nat → Prop} {l m : List Gp} {a b : Value} (w : World) (h : RowE K w 3 (gpG K w) a l) (h2 : RowE K2 w 3 (gpG K2 w) b m) :
    Calls Tryz.prog 105 #[a, b, .func (.func 106) #[] #[]] w (TellsB (decide (l = m)) w) := by
  obtain ⟨A, c, rfl, hlc, hcm, hrow⟩ := h
  obtain ⟨A2, c2, rfl, hlc2, hcm2, hrow2⟩ := h2
  by_cases hlm : l.length = m.length
  · obtain ⟨n, hn⟩ : ∃ n, l.length = n := ⟨_, rfl⟩
    have hn2 : m.length = n := by omega
    rw [hn] at hlc ⊢
    rw [hn2] at hlc2 ⊢
    have HROW := Lib.hid hrow
    have HROW2 := Lib.hid hrow2
    have HN := Lib.hid hn
    have HN2 := Lib.hid hn2
    unfold maxLen at hcm hcm2
    clear hrow hrow2 hn hn2 hlm
    go_enter Tryz.func105, Tryz.ntmps105
    go_wp2_with fail
    go_loopg [7, 8, 9, 17] n (fun k r7 r8 r9 r17 wr => Hid (∃ j : Nat, r17 = .int .i64 (j : Nat) ∧ j + k = n ∧ Fr No w wr ∧ l.take j = m.take j))
    case atStart => exact Lib.hid ⟨0, rfl, by omega, Fr.refl _ _, rfl⟩
    case round =>
      obtain ⟨j, rfl, hjn, hf, hall⟩ := hrel.out
      have HALL := Lib.hid hall
      clear hrel hall
      by_cases hj : j < n
      · have hji : (j : Int) < (n : Int) := by omega
        have hjl : j < l.length := by rw [HN.out]; exact hj
        have hjm : j < m.length := by rw [HN2.out]; exact hj
        obtain ⟨g, off, rfl, hK, hg, hel⟩ := HROW.out (by omega)
        obtain ⟨g2, off2, rfl, hK2, hg2, hel2⟩ := HROW2.out (by omega)
        obtain ⟨cs, hcl, hcs, hE⟩ := hel j hjl
        obtain ⟨cs2, hcl2, hcs2, hE2⟩ := hel2 j hjm
        obtain ⟨x, hx⟩ : ∃ x, l[j] = x := ⟨_, rfl⟩
        obtain ⟨y, hy⟩ : ∃ y, m[j] = y := ⟨_, rfl⟩
        have HX := Lib.hid hx
        have HY := Lib.hid hy
        rw [hx] at hE
        rw [hy] at hE2
        obtain ⟨u1, v1, hEx, _, hR1, hS1⟩ := hE
        obtain ⟨u2, v2, hEy, _, hR2, hS2⟩ := hE2
        obtain ⟨A1, n1, d1, rfl⟩ : ∃ A1 n1 d1, u1 = .slice A1 n1 d1 := by obtain ⟨A, c, e, _⟩ := hR1; exact ⟨_, _, _, e⟩
        obtain ⟨B1, m1, e1, rfl⟩ : ∃ A1 n1 d1, v1 = .slice A1 n1 d1 := by obtain ⟨A, c, e, _⟩ := hS1; exact ⟨_, _, _, e⟩
        obtain ⟨A3, n3, d3, rfl⟩ : ∃ A3 n3 d3, u2 = .slice A3 n3 d3 := by obtain ⟨A, c, e, _⟩ := hR2; exact ⟨_, _, _, e⟩
        obtain ⟨B2, m2, e2, rfl⟩ : ∃ A2 n2 d2, v2 = .slice A2 n2 d2 := by obtain ⟨A, c, e, _⟩ := hS2; exact ⟨_, _, _, e⟩
        have p0 : wr.cell? ⟨g, off + j * 3, none⟩ = some (.int .i64 x.kind) := (cell_of_heap (hf.block g hg id)).trans (by have := hcs 0 (by decide); rw [hEx] at this; simpa using this)
        have p1 : wr.cell? ⟨g, off + j * 3 + 1, none⟩ = some (.slice A1 n1 d1) := (cell_of_heap (hf.block g hg id)).trans (by have := hcs 1 (by decide); rw [hEx] at this; simpa using this)
        have p2 : wr.cell? ⟨g, off + j * 3 + 2, none⟩ = some (.slice B1 m1 e1) := (cell_of_heap (hf.block g hg id)).trans (by have := hcs 2 (by decide); rw [hEx] at this; simpa using this)
        have q0 : wr.cell? ⟨g2, off2 + j * 3, none⟩ = some (.int .i64 y.kind) := (cell_of_heap (hf.block g2 hg2 id)).trans (by have := hcs2 0 (by decide); rw [hEy] at this; simpa using this)
        have q1 : wr.cell? ⟨g2, off2 + j * 3 + 1, none⟩ = some (.slice A3 n3 d3) := (cell_of_heap (hf.block g2 hg2 id)).trans (by have := hcs2 1 (by decide); rw [hEy] at this; simpa using this)
        have q2 : wr.cell? ⟨g2, off2 + j * 3 + 2, none⟩ = some (.slice B2 m2 e2) := (cell_of_heap (hf.block g2 hg2 id)).trans (by have := hcs2 2 (by decide); rw [hEy] at this; simpa using this)
        obtain ⟨w1, hw1⟩ : ∃ w1, wr.alloc (.cells #[.int .i64 x.kind, .slice A1 n1 d1, .slice B1 m1 e1] 66) = w1 := ⟨_, rfl⟩
        obtain ⟨z, hz⟩ : ∃ z, wr.heap.size = z := ⟨_, rfl⟩
        have f1 : Fr No wr w1 := by rw [← hw1]; exact (Fr.refl No wr).alloc _
        have hb1 : Blk w1 z 66 #[.int .i64 x.kind, .slice A1 n1 d1, .slice B1 m1 e1] := by rw [← hw1, ← hz]; exact Blk.new wr 66 _
        have hs1 : w1.heap.size = z + 1 := by rw [← hw1, ← hz]; simp
        obtain ⟨w2, hw2⟩ : ∃ w2, w1.alloc (.cells #[.int .i64 y.kind, .slice A3 n3 d3, .slice B2 m2 e2] 66) = w2 := ⟨_, rfl⟩
        have f2 : Fr No w1 w2 := by rw [← hw2]; exact (Fr.refl No w1).alloc _
        have hb2 : Blk w2 (z + 1) 66 #[.int .i64 y.kind, .slice A3 n3 d3, .slice B2 m2 e2] := by rw [← hw2, ← hs1]; exact Blk.new w1 66 _
        have hb12 := hb1.of (f2.block z hb1.lt id)
        have r0 : w1.cell? ⟨g2, off2 + j * 3, none⟩ = some (.int .i64 y.kind) := (cell_of_heap (f1.block g2 (Nat.lt_of_lt_of_le hg2 hf.size) id)).trans q0
        have r1 : w1.cell? ⟨g2, off2 + j * 3 + 1, none⟩ = some (.slice A3 n3 d3) := (cell_of_heap (f1.block g2 (Nat.lt_of_lt_of_le hg2 hf.size) id)).trans q1
        have r2 : w1.cell? ⟨g2, off2 + j * 3 + 2, none⟩ = some (.slice B2 m2 e2) := (cell_of_heap (f1.block g2 (Nat.lt_of_lt_of_le hg2 hf.size) id)).trans q2
        have s0 : w2.cell? ⟨z, 0, none⟩ = some (.int .i64 x.kind) := hb12.cell 0
        have s1 : w2.cell? ⟨z, 1, none⟩ = some (.slice A1 n1 d1) := hb12.cell 1
        have s2 : w2.cell? ⟨z, 2, none⟩ = some (.slice B1 m1 e1) := hb12.cell 2
        have t0 : w2.cell? ⟨z + 1, 0, none⟩ = some (.int .i64 y.kind) := hb2.cell 0
        have t1 : w2.cell? ⟨z + 1, 1, none⟩ = some (.slice A3 n3 d3) := hb2.cell 1
        have t2 : w2.cell? ⟨z + 1, 2, none⟩ = some (.slice B2 m2 e2) := hb2.cell 2
        have HFN := Lib.hid (hf.trans (f1.trans f2 fun _ _ h => h) fun _ _ h => h)
        have HC := Lib.hid (samegroup_any x y w2 (hR1.at_ strG_elem HFN.out) (hS1.at_ lsG_elem HFN.out) (hR2.at_ strG_elem HFN.out) (hS2.at_ lsG_elem HFN.out))
        have HW1 := Lib.hid hw1
        have HW2 := Lib.hid hw2
        have HZ := Lib.hid hz
        have HS1 := Lib.hid hs1
        clear hw1 hz f1 hb1 hs1 hw2 f2 hb2 hb12 q0 q1 q2
        clear hcs hcl hel hK hf hEx hcs2 hcl2 hel2 hK2 hEy hx hy hR1 hR2 hS1 hS2
        go_upto_region 6 with fail
        rw [HZ.out, HW1.out]
        go_upto_region 7 with fail
        rw [HS1.out, HW2.out]
        go_wp2_with fail
        refine HC.out.mono ?_
        rintro e w5 ⟨rfl, f5⟩
        have HF5 := Lib.hid (HFN.out.trans f5 fun _ _ h => h)
        clear f5
        by_cases hxy : x = y
        · rw [decide_eq_true hxy]
          have HT : Hid (l.take (j + 1) = m.take (j + 1)) := Lib.hid (take_eq hjl hjm HALL.out (by rw [HX.out, HY.out]; exact hxy))
          clear hxy
          go_wp2_with fail
          obtain ⟨g1, rfl⟩ : ∃ g1, gk = g1 + 1 := ⟨gk - 1, by omega⟩
          go_roundg g1
          case rel => exact Lib.hid ⟨j + 1, by go_num, by omega, HF5.out, HT.out⟩
          all_goals omega
        · rw [decide_eq_false hxy]
          have HT : Hid (decide (l = m) = false) := Lib.hid (decide_eq_false (nth_ne hjl hjm (by rw [HX.out, HY.out]; exact hxy)))
          clear hxy
          go_wp2_with fail
          go_ret
          exact ⟨by rw [HT.out]; rfl, HF5.out⟩
      · have hji : (n : Int) ≤ (j : Int) := by omega
        have HT : Hid (decide (l = m) = true) := Lib.hid (decide_eq_true (by have := HALL.out; rwa [List.take_of_length_le (by rw [HN.out]; omega), List.take_of_length_le (by rw [HN2.out]; omega)] at this))
        have HFE := Lib.hid hf
        clear hf
        go_wp2_with fail
        go_ret
        exact ⟨by rw [HT.out]; rfl, HFE.out⟩
  · have hne : ((l.length : Int) != (m.length : Int)) = true := by simp; omega
    have HT : Hid (decide (l = m) = false) := Lib.hid (decide_eq_false (fun e => hlm (by rw [e])))
    clear hrow hrow2
    go_enter Tryz.func105, Tryz.ntmps105
    go_wp2_with fail
    go_ret
    exact ⟨by rw [HT.out]; rfl, Fr.refl _ _⟩
end Go.Proofs.YtkcnbmgaeompjaaGreatDoor
/- Whether two nodes, two queries are the same. -/
namespace Go.Proofs.YtkcnbmgaeompjaaGreatDoor
open Go.RowKit Go.Maps
set_option linter.unusedVariables false

/-- What is read of a node that is held against another. -/
def NodeS (w : World) (g o : Nat) (k : Int) (col : Tx) (op : Int) (V : Value) : Prop := w.cell? ⟨g, o, none⟩ = some (.int .i64 k) ∧ w.cell? ⟨g, o + 3, none⟩ = some (sv col) ∧ w.cell? ⟨g, o + 4, none⟩ = some (.int .i64 op) ∧ w.cell? ⟨g, o + 5, none⟩ = some V
theorem NodeC.s {w : World} {g o : Nat} {k : Int} {L R : Value} {col : Tx} {op : Int} {V : Value} (h : NodeC w g o k L R col op V) : NodeS w g o k col op V := ⟨h.c0, h.c3, h.c4, h.c5⟩
def nodeB (k : Int) (col : Tx) (op : Int) (vals : List Vl) (k2 : Int) (col2 : Tx) (op2 : Int) (vals2 : List Vl) : Bool := k == k2 && col == col2 && op == op2 && decide (vals = vals2)
set_option maxRecDepth 100000 in
set_option maxHeartbeats 4000000 in
theorem samenode_any {K K2 : Nat → Prop} {w : World} {g o g2 o2 : Nat} {k k2 : Int} {L R L2 R2 : Value} {col col2 : Tx} {op op2 : Int} {V V2 : Value} {vals vals2 : List Vl} (h : NodeC w g o k L R col op V) (h2 : NodeC w g2 o2 k2 L2 R2 col2 op2 V2) (hg : g < w.heap.size) (hg2 : g2 < w.heap.size)
    (hr : RowE K w 3 (vlG K w) V vals) (hr2 : RowE K2 w 3 (vlG K2 w) V2 vals2) :
    Calls Tryz.prog 107 #[.pointer (some ⟨g, o, none⟩), .pointer (some ⟨g2, o2, none⟩)] w (TellsB (nodeB k col op vals k2 col2 op2 vals2) w) := by
  obtain ⟨A, n, c, rfl⟩ : ∃ A n c, V = .slice A n c := by obtain ⟨A, c, e, _⟩ := hr; exact ⟨_, _, _, e⟩
  obtain ⟨A2, n2, d2, rfl⟩ : ∃ A n c, V2 = .slice A n c := by obtain ⟨A, c, e, _⟩ := hr2; exact ⟨_, _, _, e⟩
  have HC : Hid (∀ w1, Fr No w w1 → Calls Tryz.prog 145 #[.slice A n c, .slice A2 n2 d2] w1 (TellsB (decide (vals = vals2)) w1)) := Lib.hid fun w1 f1 => eq145_any w1 (hr.at_ vlG_elem f1) (hr2.at_ vlG_elem f1)
  have HFD := Lib.hid ((Fr.refl No w).drew)
  have HEND : Hid (∀ (bb : Bool) e w', nodeB k col op vals k2 col2 op2 vals2 = bb → e = .returned (.bool bb) → Fr No w w' → TellsB (nodeB k col op vals k2 col2 op2 vals2) w e w') := Lib.hid fun bb e w' h1 h2 h3 => ⟨by rw [h2, h1], h3⟩
  have HSS : Hid (∀ w', Fr No w w' → w'.cell? ⟨g, o, none⟩ = some (.int .i64 k) ∧ w'.cell? ⟨g, o + 3, none⟩ = some (sv col) ∧ w'.cell? ⟨g, o + 4, none⟩ = some (.int .i64 op) ∧ w'.cell? ⟨g, o + 5, none⟩ = some (.slice A n c) ∧ w'.cell? ⟨g2, o2, none⟩ = some (.int .i64 k2) ∧ w'.cell? ⟨g2, o2 + 3, none⟩ = some (sv col2) ∧ w'.cell? ⟨g2, o2 + 4, none⟩ = some (.int .i64 op2) ∧ w'.cell? ⟨g2, o2 + 5, none⟩ = some (.slice A2 n2 d2)) := Lib.hid fun w' f' => by have a := h.of (f'.block g hg id); have b := h2.of (f'.block g2 hg2 id); exact ⟨a.c0, a.c3, a.c4, a.c5, b.c0, b.c3, b.c4, b.c5⟩
  have HSD := Lib.hid (HSS.out w.drew HFD.out)
  obtain ⟨c0, -, -, c3, c4, c5⟩ := h
  obtain ⟨p0, -, -, p3, p4, p5⟩ := h2
  clear hr hr2
  by_cases e1 : k = k2
  · by_cases e2 : col = col2
    · by_cases e3 : op = op2
      · subst e1 e2 e3
        have HV : Hid (nodeB k col op vals k col op vals2 = decide (vals = vals2)) := Lib.hid (by unfold nodeB; simp)
        go_enter Tryz.func107, Tryz.ntmps107
        go_upto_region 1 with fail
        generalize decide (vals = vals2) = dv at *
        refine wp_region_held_drew (S := fun w' => w'.cell? ⟨g, o, none⟩ = some (.int .i64 k) ∧ w'.cell? ⟨g, o + 3, none⟩ = some (sv col) ∧ w'.cell? ⟨g, o + 4, none⟩ = some (.int .i64 op) ∧ w'.cell? ⟨g, o + 5, none⟩ = some (.slice A n c) ∧ w'.cell? ⟨g2, o2, none⟩ = some (.int .i64 k) ∧ w'.cell? ⟨g2, o2 + 3, none⟩ = some (sv col) ∧ w'.cell? ⟨g2, o2 + 4, none⟩ = some (.int .i64 op) ∧ w'.cell? ⟨g2, o2 + 5, none⟩ = some (.slice A2 n2 d2)) (by kernel_rfl) (HSD.out) (fun hHeld => ?_)
        refine wpAnyH_take (i := 0) (oi := ({ dst := some 5, op := Go.Op.move (Go.Operand.tmp 0), type := 24, pos := "same.go:22", after := #[], guard := none } : Go.Oper)) (v := ?_) rfl (by kernel_rfl) (by kernel_rfl) (by kernel_rfl) (fun _ _ _ h => h) (Or.inl ⟨by rfl, ?_⟩) (by assumption) ?_
        rotate_left 1
        · intro w hSw; (try dsimp only at hSw); first | (go_simp; done) | (go_simp; with_reducible rfl)
        try simp only [Act.put, List.setIfInBounds_toArray, List.set_cons_zero, List.set_cons_succ]
        refine wpAnyH_take (i := 1) (oi := ({ dst := some 6, op := Go.Op.nilCheck (Go.Operand.tmp 5), type := 0, pos := "same.go:22", after := #[{ on := 0, ground := Go.Ground.data }], guard := none } : Go.Oper)) (v := ?_) rfl (by kernel_rfl) (by kernel_rfl) (by kernel_rfl) (fun _ _ _ h => h) (Or.inl ⟨by rfl, ?_⟩) (by assumption) ?_
        rotate_left 1
        · intro w hSw; (try dsimp only at hSw); first | (go_simp; done) | (go_simp; with_reducible rfl)
        try simp only [Act.put, List.setIfInBounds_toArray, List.set_cons_zero, List.set_cons_succ]
        refine wpAnyH_take (i := 2) (oi := ({ dst := some 7, op := Go.Op.fieldAddr 50 (Go.Operand.tmp 6) 0, type := 0, pos := "same.go:22", after := #[{ on := 1, ground := Go.Ground.data }], guard := none } : Go.Oper)) (v := ?_) rfl (by kernel_rfl) (by kernel_rfl) (by kernel_rfl) (fun _ _ _ h => h) (Or.inl ⟨by rfl, ?_⟩) (by assumption) ?_
        rotate_left 1
        · intro w hSw; (try dsimp only at hSw); first | (go_simp; done) | (go_simp; with_reducible rfl)
        try simp only [Act.put, List.setIfInBounds_toArray, List.set_cons_zero, List.set_cons_succ]
        refine wpAnyH_take (i := 3) (oi := ({ dst := some 8, op := Go.Op.load 3 (Go.Operand.tmp 7), type := 3, pos := "same.go:22", after := #[{ on := 2, ground := Go.Ground.data }], guard := none } : Go.Oper)) (v := ?_) rfl (by kernel_rfl) (by kernel_rfl) (by kernel_rfl) (fun _ _ _ h => h) (Or.inl ⟨by rfl, ?_⟩) (by assumption) ?_
        rotate_left 1
        · intro w hSw; (try dsimp only at hSw); first | (go_simp; done) | (go_simp; with_reducible rfl)
        try simp only [Act.put, List.setIfInBounds_toArray, List.set_cons_zero, List.set_cons_succ]
        refine wpAnyH_take (i := 4) (oi := ({ dst := some 9, op := Go.Op.move (Go.Operand.tmp 1), type := 24, pos := "same.go:22", after := #[], guard := none } : Go.Oper)) (v := ?_) rfl (by kernel_rfl) (by kernel_rfl) (by kernel_rfl) (fun _ _ _ h => h) (Or.inl ⟨by rfl, ?_⟩) (by assumption) ?_
        rotate_left 1
        · intro w hSw; (try dsimp only at hSw); first | (go_simp; done) | (go_simp; with_reducible rfl)
        try simp only [Act.put, List.setIfInBounds_toArray, List.set_cons_zero, List.set_cons_succ]
        refine wpAnyH_take (i := 5) (oi := ({ dst := some 10, op := Go.Op.nilCheck (Go.Operand.tmp 9), type := 0, pos := "same.go:22", after := #[{ on := 4, ground := Go.Ground.data }], guard := none } : Go.Oper)) (v := ?_) rfl (by kernel_rfl) (by kernel_rfl) (by kernel_rfl) (fun _ _ _ h => h) (Or.inl ⟨by rfl, ?_⟩) (by assumption) ?_
        rotate_left 1
        · intro w hSw; (try dsimp only at hSw); first | (go_simp; done) | (go_simp; with_reducible rfl)
        try simp only [Act.put, List.setIfInBounds_toArray, List.set_cons_zero, List.set_cons_succ]
        refine wpAnyH_take (i := 6) (oi := ({ dst := some 11, op := Go.Op.fieldAddr 50 (Go.Operand.tmp 10) 0, type := 0, pos := "same.go:22", after := #[{ on := 5, ground := Go.Ground.data }], guard := none } : Go.Oper)) (v := ?_) rfl (by kernel_rfl) (by kernel_rfl) (by kernel_rfl) (fun _ _ _ h => h) (Or.inl ⟨by rfl, ?_⟩) (by assumption) ?_
        rotate_left 1
        · intro w hSw; (try dsimp only at hSw); first | (go_simp; done) | (go_simp; with_reducible rfl)
        try simp only [Act.put, List.setIfInBounds_toArray, List.set_cons_zero, List.set_cons_succ]
        refine wpAnyH_take (i := 7) (oi := ({ dst := some 12, op := Go.Op.load 3 (Go.Operand.tmp 11), type := 3, pos := "same.go:22", after := #[{ on := 6, ground := Go.Ground.data }], guard := none } : Go.Oper)) (v := ?_) rfl (by kernel_rfl) (by kernel_rfl) (by kernel_rfl) (fun _ _ _ h => h) (Or.inl ⟨by rfl, ?_⟩) (by assumption) ?_
        rotate_left 1
        · intro w hSw; (try dsimp only at hSw); first | (go_simp; done) | (go_simp; with_reducible rfl)
        try simp only [Act.put, List.setIfInBounds_toArray, List.set_cons_zero, List.set_cons_succ]
        refine wpAnyH_take (i := 8) (oi := ({ dst := some 13, op := Go.Op.binOp Go.BinOp.eql 3 (Go.Operand.tmp 8) (Go.Operand.tmp 12) 3, type := 4, pos := "same.go:22", after := #[{ on := 3, ground := Go.Ground.data }, { on := 7, ground := Go.Ground.data }], guard := none } : Go.Oper)) (v := ?_) rfl (by kernel_rfl) (by kernel_rfl) (by kernel_rfl) (fun _ _ _ h => h) (Or.inl ⟨by rfl, ?_⟩) (by assumption) ?_
        rotate_left 1
        · intro w hSw; (try dsimp only at hSw); first | (go_simp; done) | (go_simp; with_reducible rfl)
        try simp only [Act.put, List.setIfInBounds_toArray, List.set_cons_zero, List.set_cons_succ]
        refine wpAnyH_take (i := 9) (oi := ({ dst := some 14, op := Go.Op.move (Go.Operand.tmp 13), type := 4, pos := "same.go:22", after := #[{ on := 8, ground := Go.Ground.data }], guard := none } : Go.Oper)) (v := ?_) rfl (by kernel_rfl) (by kernel_rfl) (by kernel_rfl) (fun _ _ _ h => h) (Or.inl ⟨by rfl, ?_⟩) (by assumption) ?_
        rotate_left 1
        · intro w hSw; (try dsimp only at hSw); first | (go_simp; done) | (go_simp; with_reducible rfl)
        try simp only [Act.put, List.setIfInBounds_toArray, List.set_cons_zero, List.set_cons_succ]
        refine wpAnyH_take (i := 10) (oi := ({ dst := some 15, op := Go.Op.move (Go.Operand.tmp 0), type := 24, pos := "same.go:22", after := #[{ on := 9, ground := Go.Ground.guard }], guard := some (9, true) } : Go.Oper)) (v := ?_) rfl (by kernel_rfl) (by kernel_rfl) (by kernel_rfl) (fun _ _ _ h => h) (Or.inl ⟨by rfl, ?_⟩) (by assumption) ?_
        rotate_left 1
        · intro w hSw; (try dsimp only at hSw); first | (go_simp; done) | (go_simp; with_reducible rfl)
        try simp only [Act.put, List.setIfInBounds_toArray, List.set_cons_zero, List.set_cons_succ]
        refine wpAnyH_take (i := 11) (oi := ({ dst := some 16, op := Go.Op.nilCheck (Go.Operand.tmp 15), type := 0, pos := "same.go:22", after := #[{ on := 10, ground := Go.Ground.data }, { on := 9, ground := Go.Ground.guard }], guard := some (9, true) } : Go.Oper)) (v := ?_) rfl (by kernel_rfl) (by kernel_rfl) (by kernel_rfl) (fun _ _ _ h => h) (Or.inl ⟨by rfl, ?_⟩) (by assumption) ?_
        rotate_left 1
        · intro w hSw; (try dsimp only at hSw); first | (go_simp; done) | (go_simp; with_reducible rfl)
        try simp only [Act.put, List.setIfInBounds_toArray, List.set_cons_zero, List.set_cons_succ]
        refine wpAnyH_take (i := 12) (oi := ({ dst := some 17, op := Go.Op.fieldAddr 50 (Go.Operand.tmp 16) 3, type := 0, pos := "same.go:22", after := #[{ on := 11, ground := Go.Ground.data }, { on := 9, ground := Go.Ground.guard }], guard := some (9, true) } : Go.Oper)) (v := ?_) rfl (by kernel_rfl) (by kernel_rfl) (by kernel_rfl) (fun _ _ _ h => h) (Or.inl ⟨by rfl, ?_⟩) (by assumption) ?_
        rotate_left 1
        · intro w hSw; (try dsimp only at hSw); first | (go_simp; done) | (go_simp; with_reducible rfl)
        try simp only [Act.put, List.setIfInBounds_toArray, List.set_cons_zero, List.set_cons_succ]
        refine wpAnyH_take (i := 13) (oi := ({ dst := some 18, op := Go.Op.load 9 (Go.Operand.tmp 17), type := 9, pos := "same.go:22", after := #[{ on := 12, ground := Go.Ground.data }, { on := 9, ground := Go.Ground.guard }], guard := some (9, true) } : Go.Oper)) (v := ?_) rfl (by kernel_rfl) (by kernel_rfl) (by kernel_rfl) (fun _ _ _ h => h) (Or.inl ⟨by rfl, ?_⟩) (by assumption) ?_
        rotate_left 1
        · intro w hSw; (try dsimp only at hSw); first | (go_simp; done) | (go_simp; with_reducible rfl)
        try simp only [Act.put, List.setIfInBounds_toArray, List.set_cons_zero, List.set_cons_succ]
        refine wpAnyH_take (i := 14) (oi := ({ dst := some 19, op := Go.Op.move (Go.Operand.tmp 1), type := 24, pos := "same.go:22", after := #[{ on := 9, ground := Go.Ground.guard }], guard := some (9, true) } : Go.Oper)) (v := ?_) rfl (by kernel_rfl) (by kernel_rfl) (by kernel_rfl) (fun _ _ _ h => h) (Or.inl ⟨by rfl, ?_⟩) (by assumption) ?_
        rotate_left 1
        · intro w hSw; (try dsimp only at hSw); first | (go_simp; done) | (go_simp; with_reducible rfl)
        try simp only [Act.put, List.setIfInBounds_toArray, List.set_cons_zero, List.set_cons_succ]
        refine wpAnyH_take (i := 15) (oi := ({ dst := some 20, op := Go.Op.nilCheck (Go.Operand.tmp 19), type := 0, pos := "same.go:22", after := #[{ on := 14, ground := Go.Ground.data }, { on := 9, ground := Go.Ground.guard }], guard := some (9, true) } : Go.Oper)) (v := ?_) rfl (by kernel_rfl) (by kernel_rfl) (by kernel_rfl) (fun _ _ _ h => h) (Or.inl ⟨by rfl, ?_⟩) (by assumption) ?_
        rotate_left 1
        · intro w hSw; (try dsimp only at hSw); first | (go_simp; done) | (go_simp; with_reducible rfl)
        try simp only [Act.put, List.setIfInBounds_toArray, List.set_cons_zero, List.set_cons_succ]
        refine wpAnyH_take (i := 16) (oi := ({ dst := some 21, op := Go.Op.fieldAddr 50 (Go.Operand.tmp 20) 3, type := 0, pos := "same.go:22", after := #[{ on := 15, ground := Go.Ground.data }, { on := 9, ground := Go.Ground.guard }], guard := some (9, true) } : Go.Oper)) (v := ?_) rfl (by kernel_rfl) (by kernel_rfl) (by kernel_rfl) (fun _ _ _ h => h) (Or.inl ⟨by rfl, ?_⟩) (by assumption) ?_
        rotate_left 1
        · intro w hSw; (try dsimp only at hSw); first | (go_simp; done) | (go_simp; with_reducible rfl)
        try simp only [Act.put, List.setIfInBounds_toArray, List.set_cons_zero, List.set_cons_succ]
        refine wpAnyH_take (i := 17) (oi := ({ dst := some 22, op := Go.Op.load 9 (Go.Operand.tmp 21), type := 9, pos := "same.go:22", after := #[{ on := 16, ground := Go.Ground.data }, { on := 9, ground := Go.Ground.guard }], guard := some (9, true) } : Go.Oper)) (v := ?_) rfl (by kernel_rfl) (by kernel_rfl) (by kernel_rfl) (fun _ _ _ h => h) (Or.inl ⟨by rfl, ?_⟩) (by assumption) ?_
        rotate_left 1
        · intro w hSw; (try dsimp only at hSw); first | (go_simp; done) | (go_simp; with_reducible rfl)
        try simp only [Act.put, List.setIfInBounds_toArray, List.set_cons_zero, List.set_cons_succ]
        refine wpAnyH_take (i := 18) (oi := ({ dst := some 23, op := Go.Op.binOp Go.BinOp.eql 9 (Go.Operand.tmp 18) (Go.Operand.tmp 22) 9, type := 4, pos := "same.go:22", after := #[{ on := 13, ground := Go.Ground.data }, { on := 17, ground := Go.Ground.data }, { on := 9, ground := Go.Ground.guard }], guard := some (9, true) } : Go.Oper)) (v := ?_) rfl (by kernel_rfl) (by kernel_rfl) (by kernel_rfl) (fun _ _ _ h => h) (Or.inl ⟨by rfl, ?_⟩) (by assumption) ?_
        rotate_left 1
        · intro w hSw; (try dsimp only at hSw); first | (go_simp; done) | (go_simp; with_reducible rfl)
        try simp only [Act.put, List.setIfInBounds_toArray, List.set_cons_zero, List.set_cons_succ]
        refine wpAnyH_take (i := 19) (oi := ({ dst := some 24, op := Go.Op.pick (Go.Operand.tmp 14) (Go.Operand.tmp 23) (Go.Operand.const (Go.Value.bool false)), type := 4, pos := "same.go:22", after := #[{ on := 9, ground := Go.Ground.data }, { on := 18, ground := Go.Ground.data }], guard := none } : Go.Oper)) (v := ?_) rfl (by kernel_rfl) (by kernel_rfl) (by kernel_rfl) (fun _ _ _ h => h) (Or.inl ⟨by rfl, ?_⟩) (by assumption) ?_
        rotate_left 1
        · intro w hSw; (try dsimp only at hSw); first | (go_simp; done) | (go_simp; with_reducible rfl)
        try simp only [Act.put, List.setIfInBounds_toArray, List.set_cons_zero, List.set_cons_succ]
        refine wpAnyH_take (i := 20) (oi := ({ dst := some 25, op := Go.Op.move (Go.Operand.tmp 24), type := 4, pos := "same.go:22", after := #[{ on := 19, ground := Go.Ground.data }, { on := 9, ground := Go.Ground.chain }], guard := none } : Go.Oper)) (v := ?_) rfl (by kernel_rfl) (by kernel_rfl) (by kernel_rfl) (fun _ _ _ h => h) (Or.inl ⟨by rfl, ?_⟩) (by assumption) ?_
        rotate_left 1
        · intro w hSw; (try dsimp only at hSw); first | (go_simp; done) | (go_simp; with_reducible rfl)
        try simp only [Act.put, List.setIfInBounds_toArray, List.set_cons_zero, List.set_cons_succ]
        refine wpAnyH_take (i := 21) (oi := ({ dst := some 26, op := Go.Op.move (Go.Operand.tmp 0), type := 24, pos := "same.go:22", after := #[{ on := 20, ground := Go.Ground.guard }], guard := some (20, true) } : Go.Oper)) (v := ?_) rfl (by kernel_rfl) (by kernel_rfl) (by kernel_rfl) (fun _ _ _ h => h) (Or.inl ⟨by rfl, ?_⟩) (by assumption) ?_
        rotate_left 1
        · intro w hSw; (try dsimp only at hSw); first | (go_simp; done) | (go_simp; with_reducible rfl)
        try simp only [Act.put, List.setIfInBounds_toArray, List.set_cons_zero, List.set_cons_succ]
        refine wpAnyH_take (i := 22) (oi := ({ dst := some 27, op := Go.Op.nilCheck (Go.Operand.tmp 26), type := 0, pos := "same.go:22", after := #[{ on := 21, ground := Go.Ground.data }, { on := 20, ground := Go.Ground.guard }], guard := some (20, true) } : Go.Oper)) (v := ?_) rfl (by kernel_rfl) (by kernel_rfl) (by kernel_rfl) (fun _ _ _ h => h) (Or.inl ⟨by rfl, ?_⟩) (by assumption) ?_
        rotate_left 1
        · intro w hSw; (try dsimp only at hSw); first | (go_simp; done) | (go_simp; with_reducible rfl)
        try simp only [Act.put, List.setIfInBounds_toArray, List.set_cons_zero, List.set_cons_succ]
        refine wpAnyH_take (i := 23) (oi := ({ dst := some 28, op := Go.Op.fieldAddr 50 (Go.Operand.tmp 27) 4, type := 0, pos := "same.go:22", after := #[{ on := 22, ground := Go.Ground.data }, { on := 20, ground := Go.Ground.guard }], guard := some (20, true) } : Go.Oper)) (v := ?_) rfl (by kernel_rfl) (by kernel_rfl) (by kernel_rfl) (fun _ _ _ h => h) (Or.inl ⟨by rfl, ?_⟩) (by assumption) ?_
        rotate_left 1
        · intro w hSw; (try dsimp only at hSw); first | (go_simp; done) | (go_simp; with_reducible rfl)
        try simp only [Act.put, List.setIfInBounds_toArray, List.set_cons_zero, List.set_cons_succ]
        refine wpAnyH_take (i := 24) (oi := ({ dst := some 29, op := Go.Op.load 3 (Go.Operand.tmp 28), type := 3, pos := "same.go:22", after := #[{ on := 23, ground := Go.Ground.data }, { on := 20, ground := Go.Ground.guard }], guard := some (20, true) } : Go.Oper)) (v := ?_) rfl (by kernel_rfl) (by kernel_rfl) (by kernel_rfl) (fun _ _ _ h => h) (Or.inl ⟨by rfl, ?_⟩) (by assumption) ?_
        rotate_left 1
        · intro w hSw; (try dsimp only at hSw); first | (go_simp; done) | (go_simp; with_reducible rfl)
        try simp only [Act.put, List.setIfInBounds_toArray, List.set_cons_zero, List.set_cons_succ]
        refine wpAnyH_take (i := 25) (oi := ({ dst := some 30, op := Go.Op.move (Go.Operand.tmp 1), type := 24, pos := "same.go:22", after := #[{ on := 20, ground := Go.Ground.guard }], guard := some (20, true) } : Go.Oper)) (v := ?_) rfl (by kernel_rfl) (by kernel_rfl) (by kernel_rfl) (fun _ _ _ h => h) (Or.inl ⟨by rfl, ?_⟩) (by assumption) ?_
        rotate_left 1
        · intro w hSw; (try dsimp only at hSw); first | (go_simp; done) | (go_simp; with_reducible rfl)
        try simp only [Act.put, List.setIfInBounds_toArray, List.set_cons_zero, List.set_cons_succ]
        refine wpAnyH_take (i := 26) (oi := ({ dst := some 31, op := Go.Op.nilCheck (Go.Operand.tmp 30), type := 0, pos := "same.go:22", after := #[{ on := 25, ground := Go.Ground.data }, { on := 20, ground := Go.Ground.guard }], guard := some (20, true) } : Go.Oper)) (v := ?_) rfl (by kernel_rfl) (by kernel_rfl) (by kernel_rfl) (fun _ _ _ h => h) (Or.inl ⟨by rfl, ?_⟩) (by assumption) ?_
        rotate_left 1
        · intro w hSw; (try dsimp only at hSw); first | (go_simp; done) | (go_simp; with_reducible rfl)
        try simp only [Act.put, List.setIfInBounds_toArray, List.set_cons_zero, List.set_cons_succ]
        refine wpAnyH_take (i := 27) (oi := ({ dst := some 32, op := Go.Op.fieldAddr 50 (Go.Operand.tmp 31) 4, type := 0, pos := "same.go:22", after := #[{ on := 26, ground := Go.Ground.data }, { on := 20, ground := Go.Ground.guard }], guard := some (20, true) } : Go.Oper)) (v := ?_) rfl (by kernel_rfl) (by kernel_rfl) (by kernel_rfl) (fun _ _ _ h => h) (Or.inl ⟨by rfl, ?_⟩) (by assumption) ?_
        rotate_left 1
        · intro w hSw; (try dsimp only at hSw); first | (go_simp; done) | (go_simp; with_reducible rfl)
        try simp only [Act.put, List.setIfInBounds_toArray, List.set_cons_zero, List.set_cons_succ]
        refine wpAnyH_take (i := 28) (oi := ({ dst := some 33, op := Go.Op.load 3 (Go.Operand.tmp 32), type := 3, pos := "same.go:22", after := #[{ on := 27, ground := Go.Ground.data }, { on := 20, ground := Go.Ground.guard }], guard := some (20, true) } : Go.Oper)) (v := ?_) rfl (by kernel_rfl) (by kernel_rfl) (by kernel_rfl) (fun _ _ _ h => h) (Or.inl ⟨by rfl, ?_⟩) (by assumption) ?_
        rotate_left 1
        · intro w hSw; (try dsimp only at hSw); first | (go_simp; done) | (go_simp; with_reducible rfl)
        try simp only [Act.put, List.setIfInBounds_toArray, List.set_cons_zero, List.set_cons_succ]
        refine wpAnyH_take (i := 29) (oi := ({ dst := some 34, op := Go.Op.binOp Go.BinOp.eql 3 (Go.Operand.tmp 29) (Go.Operand.tmp 33) 3, type := 4, pos := "same.go:22", after := #[{ on := 24, ground := Go.Ground.data }, { on := 28, ground := Go.Ground.data }, { on := 20, ground := Go.Ground.guard }], guard := some (20, true) } : Go.Oper)) (v := ?_) rfl (by kernel_rfl) (by kernel_rfl) (by kernel_rfl) (fun _ _ _ h => h) (Or.inl ⟨by rfl, ?_⟩) (by assumption) ?_
        rotate_left 1
        · intro w hSw; (try dsimp only at hSw); first | (go_simp; done) | (go_simp; with_reducible rfl)
        try simp only [Act.put, List.setIfInBounds_toArray, List.set_cons_zero, List.set_cons_succ]
        refine wpAnyH_take (i := 30) (oi := ({ dst := some 35, op := Go.Op.pick (Go.Operand.tmp 25) (Go.Operand.tmp 34) (Go.Operand.const (Go.Value.bool false)), type := 4, pos := "same.go:22", after := #[{ on := 20, ground := Go.Ground.data }, { on := 29, ground := Go.Ground.data }], guard := none } : Go.Oper)) (v := ?_) rfl (by kernel_rfl) (by kernel_rfl) (by kernel_rfl) (fun _ _ _ h => h) (Or.inl ⟨by rfl, ?_⟩) (by assumption) ?_
        rotate_left 1
        · intro w hSw; (try dsimp only at hSw); first | (go_simp; done) | (go_simp; with_reducible rfl)
        try simp only [Act.put, List.setIfInBounds_toArray, List.set_cons_zero, List.set_cons_succ]
        refine wpAnyH_take (i := 31) (oi := ({ dst := some 36, op := Go.Op.move (Go.Operand.tmp 35), type := 4, pos := "same.go:22", after := #[{ on := 30, ground := Go.Ground.data }, { on := 20, ground := Go.Ground.chain }], guard := none } : Go.Oper)) (v := ?_) rfl (by kernel_rfl) (by kernel_rfl) (by kernel_rfl) (fun _ _ _ h => h) (Or.inl ⟨by rfl, ?_⟩) (by assumption) ?_
        rotate_left 1
        · intro w hSw; (try dsimp only at hSw); first | (go_simp; done) | (go_simp; with_reducible rfl)
        try simp only [Act.put, List.setIfInBounds_toArray, List.set_cons_zero, List.set_cons_succ]
        refine wpAnyH_take (i := 32) (oi := ({ dst := some 37, op := Go.Op.move (Go.Operand.tmp 0), type := 24, pos := "same.go:22", after := #[{ on := 31, ground := Go.Ground.guard }], guard := some (31, true) } : Go.Oper)) (v := ?_) rfl (by kernel_rfl) (by kernel_rfl) (by kernel_rfl) (fun _ _ _ h => h) (Or.inl ⟨by rfl, ?_⟩) (by assumption) ?_
        rotate_left 1
        · intro w hSw; (try dsimp only at hSw); first | (go_simp; done) | (go_simp; with_reducible rfl)
        try simp only [Act.put, List.setIfInBounds_toArray, List.set_cons_zero, List.set_cons_succ]
        refine wpAnyH_take (i := 33) (oi := ({ dst := some 38, op := Go.Op.nilCheck (Go.Operand.tmp 37), type := 0, pos := "same.go:22", after := #[{ on := 32, ground := Go.Ground.data }, { on := 31, ground := Go.Ground.guard }], guard := some (31, true) } : Go.Oper)) (v := ?_) rfl (by kernel_rfl) (by kernel_rfl) (by kernel_rfl) (fun _ _ _ h => h) (Or.inl ⟨by rfl, ?_⟩) (by assumption) ?_
        rotate_left 1
        · intro w hSw; (try dsimp only at hSw); first | (go_simp; done) | (go_simp; with_reducible rfl)
        try simp only [Act.put, List.setIfInBounds_toArray, List.set_cons_zero, List.set_cons_succ]
        refine wpAnyH_take (i := 34) (oi := ({ dst := some 39, op := Go.Op.fieldAddr 50 (Go.Operand.tmp 38) 5, type := 0, pos := "same.go:22", after := #[{ on := 33, ground := Go.Ground.data }, { on := 31, ground := Go.Ground.guard }], guard := some (31, true) } : Go.Oper)) (v := ?_) rfl (by kernel_rfl) (by kernel_rfl) (by kernel_rfl) (fun _ _ _ h => h) (Or.inl ⟨by rfl, ?_⟩) (by assumption) ?_
        rotate_left 1
        · intro w hSw; (try dsimp only at hSw); first | (go_simp; done) | (go_simp; with_reducible rfl)
        try simp only [Act.put, List.setIfInBounds_toArray, List.set_cons_zero, List.set_cons_succ]
        refine wpAnyH_take (i := 35) (oi := ({ dst := some 40, op := Go.Op.load 48 (Go.Operand.tmp 39), type := 48, pos := "same.go:22", after := #[{ on := 34, ground := Go.Ground.data }, { on := 31, ground := Go.Ground.guard }], guard := some (31, true) } : Go.Oper)) (v := ?_) rfl (by kernel_rfl) (by kernel_rfl) (by kernel_rfl) (fun _ _ _ h => h) (Or.inl ⟨by rfl, ?_⟩) (by assumption) ?_
        rotate_left 1
        · intro w hSw; (try dsimp only at hSw); first | (go_simp; done) | (go_simp; with_reducible rfl)
        try simp only [Act.put, List.setIfInBounds_toArray, List.set_cons_zero, List.set_cons_succ]
        refine wpAnyH_take (i := 36) (oi := ({ dst := some 41, op := Go.Op.move (Go.Operand.tmp 1), type := 24, pos := "same.go:22", after := #[{ on := 31, ground := Go.Ground.guard }], guard := some (31, true) } : Go.Oper)) (v := ?_) rfl (by kernel_rfl) (by kernel_rfl) (by kernel_rfl) (fun _ _ _ h => h) (Or.inl ⟨by rfl, ?_⟩) (by assumption) ?_
        rotate_left 1
        · intro w hSw; (try dsimp only at hSw); first | (go_simp; done) | (go_simp; with_reducible rfl)
        try simp only [Act.put, List.setIfInBounds_toArray, List.set_cons_zero, List.set_cons_succ]
        refine wpAnyH_take (i := 37) (oi := ({ dst := some 42, op := Go.Op.nilCheck (Go.Operand.tmp 41), type := 0, pos := "same.go:22", after := #[{ on := 36, ground := Go.Ground.data }, { on := 31, ground := Go.Ground.guard }], guard := some (31, true) } : Go.Oper)) (v := ?_) rfl (by kernel_rfl) (by kernel_rfl) (by kernel_rfl) (fun _ _ _ h => h) (Or.inl ⟨by rfl, ?_⟩) (by assumption) ?_
        rotate_left 1
        · intro w hSw; (try dsimp only at hSw); first | (go_simp; done) | (go_simp; with_reducible rfl)
        try simp only [Act.put, List.setIfInBounds_toArray, List.set_cons_zero, List.set_cons_succ]
        refine wpAnyH_take (i := 38) (oi := ({ dst := some 43, op := Go.Op.fieldAddr 50 (Go.Operand.tmp 42) 5, type := 0, pos := "same.go:22", after := #[{ on := 37, ground := Go.Ground.data }, { on := 31, ground := Go.Ground.guard }], guard := some (31, true) } : Go.Oper)) (v := ?_) rfl (by kernel_rfl) (by kernel_rfl) (by kernel_rfl) (fun _ _ _ h => h) (Or.inl ⟨by rfl, ?_⟩) (by assumption) ?_
        rotate_left 1
        · intro w hSw; (try dsimp only at hSw); first | (go_simp; done) | (go_simp; with_reducible rfl)
        try simp only [Act.put, List.setIfInBounds_toArray, List.set_cons_zero, List.set_cons_succ]
        refine wpAnyH_take (i := 39) (oi := ({ dst := some 44, op := Go.Op.load 48 (Go.Operand.tmp 43), type := 48, pos := "same.go:22", after := #[{ on := 38, ground := Go.Ground.data }, { on := 31, ground := Go.Ground.guard }], guard := some (31, true) } : Go.Oper)) (v := ?_) rfl (by kernel_rfl) (by kernel_rfl) (by kernel_rfl) (fun _ _ _ h => h) (Or.inl ⟨by rfl, ?_⟩) (by assumption) ?_
        rotate_left 1
        · intro w hSw; (try dsimp only at hSw); first | (go_simp; done) | (go_simp; with_reducible rfl)
        try simp only [Act.put, List.setIfInBounds_toArray, List.set_cons_zero, List.set_cons_succ]
        refine wpAnyH_ready (rs := [40]) (by kernel_rfl) (by simp) ?_
        refine AllReadyH.cons (o := ({ dst := some 45, op := Go.Op.call { callee := Go.Callee.value (Go.Operand.func 145), args := #[Go.Operand.tmp 40, Go.Operand.tmp 44], argTypes := #[48, 48] }, type := 4, pos := "same.go:22", after := #[{ on := 35, ground := Go.Ground.data }, { on := 39, ground := Go.Ground.data }, { on := 31, ground := Go.Ground.chain }, { on := 31, ground := Go.Ground.guard }], guard := some (31, true) } : Go.Oper)) rfl (fun K hK => ?_) AllReadyH.nil
        go_simp
        (go_at_call 145; (with_reducible refine (HC.out _ HFD.out).mono ?_); rintro e w1 ⟨rfl, f1⟩; have HSC := Lib.hid (HSS.out w1 (HFD.out.trans f1 fun _ _ h => h)); have HFC := Lib.hid (HFD.out.trans f1 fun _ _ h => h); clear f1)
        try (go_wp2_with fail)
        refine hK.out _ _ (HSC.out) (fun hHeld1 => ?_)
        clear hK K
        try simp only [Act.put, List.setIfInBounds_toArray, List.set_cons_zero, List.set_cons_succ]
        refine wpAnyH_take (i := 41) (oi := ({ dst := some 46, op := Go.Op.pick (Go.Operand.tmp 36) (Go.Operand.tmp 45) (Go.Operand.const (Go.Value.bool false)), type := 4, pos := "same.go:22", after := #[{ on := 31, ground := Go.Ground.data }, { on := 40, ground := Go.Ground.data }], guard := none } : Go.Oper)) (v := ?_) rfl (by kernel_rfl) (by kernel_rfl) (by kernel_rfl) (fun _ _ _ h => h) (Or.inl ⟨by rfl, ?_⟩) (by assumption) ?_
        rotate_left 1
        · intro w hSw; (try dsimp only at hSw); first | (go_simp; done) | (go_simp; with_reducible rfl)
        try simp only [Act.put, List.setIfInBounds_toArray, List.set_cons_zero, List.set_cons_succ]
        refine wpAnyH_take (i := 42) (oi := ({ dst := some 4, op := Go.Op.assign (Go.Operand.tmp 46), type := 4, pos := "same.go:22", after := #[{ on := 41, ground := Go.Ground.data }, { on := 40, ground := Go.Ground.chain }, { on := 0, ground := Go.Ground.phase }, { on := 1, ground := Go.Ground.phase }, { on := 2, ground := Go.Ground.phase }, { on := 3, ground := Go.Ground.phase }, { on := 4, ground := Go.Ground.phase }, { on := 5, ground := Go.Ground.phase }, { on := 6, ground := Go.Ground.phase }, { on := 7, ground := Go.Ground.phase }, { on := 8, ground := Go.Ground.phase }, { on := 9, ground := Go.Ground.phase }, { on := 10, ground := Go.Ground.phase }, { on := 11, ground := Go.Ground.phase }, { on := 12, ground := Go.Ground.phase }, { on := 13, ground := Go.Ground.phase }, { on := 14, ground := Go.Ground.phase }, { on := 15, ground := Go.Ground.phase }, { on := 16, ground := Go.Ground.phase }, { on := 17, ground := Go.Ground.phase }, { on := 18, ground := Go.Ground.phase }, { on := 19, ground := Go.Ground.phase }, { on := 20, ground := Go.Ground.phase }, { on := 21, ground := Go.Ground.phase }, { on := 22, ground := Go.Ground.phase }, { on := 23, ground := Go.Ground.phase }, { on := 24, ground := Go.Ground.phase }, { on := 25, ground := Go.Ground.phase }, { on := 26, ground := Go.Ground.phase }, { on := 27, ground := Go.Ground.phase }, { on := 28, ground := Go.Ground.phase }, { on := 29, ground := Go.Ground.phase }, { on := 30, ground := Go.Ground.phase }, { on := 31, ground := Go.Ground.phase }, { on := 32, ground := Go.Ground.phase }, { on := 33, ground := Go.Ground.phase }, { on := 34, ground := Go.Ground.phase }, { on := 35, ground := Go.Ground.phase }, { on := 36, ground := Go.Ground.phase }, { on := 37, ground := Go.Ground.phase }, { on := 38, ground := Go.Ground.phase }, { on := 39, ground := Go.Ground.phase }, { on := 40, ground := Go.Ground.phase }, { on := 41, ground := Go.Ground.phase }], guard := none } : Go.Oper)) (v := ?_) rfl (by kernel_rfl) (by kernel_rfl) (by kernel_rfl) (fun _ _ _ h => h) (Or.inl ⟨by rfl, ?_⟩) (by assumption) ?_
        rotate_left 1
        · intro w hSw; (try dsimp only at hSw); first | (go_simp; done) | (go_simp; with_reducible rfl)
        try simp only [Act.put, List.setIfInBounds_toArray, List.set_cons_zero, List.set_cons_succ]
        refine wpAnyH_done (by kernel_rfl) ?_ _
        go_wp2_with fail
        go_ret
        exact HEND.out _ _ _ HV.out rfl HFC.out
      · have b : (op == op2) = false := by simpa using e3
        have HV : Hid (nodeB k col op vals k2 col2 op2 vals2 = false) := Lib.hid (by unfold nodeB; rw [b]; simp)
        subst e1 e2
        clear e3
        go_enter Tryz.func107, Tryz.ntmps107
        go_upto_region 1 with fail
        go_big_quiet (fail)
        go_wp2_with fail
        go_ret
        exact HEND.out _ _ _ HV.out rfl ((Fr.refl No w).drewN nq)
    · have b : (col == col2) = false := by simpa using e2
      have HV : Hid (nodeB k col op vals k2 col2 op2 vals2 = false) := Lib.hid (by unfold nodeB; rw [b]; simp)
      subst e1
      clear e2
      go_enter Tryz.func107, Tryz.ntmps107
      go_upto_region 1 with fail
      go_big_quiet (fail)
      go_wp2_with fail
      go_ret
      exact HEND.out _ _ _ HV.out rfl ((Fr.refl No w).drewN nq)
  · have b : (k == k2) = false := by simpa using e1
    have HV : Hid (nodeB k col op vals k2 col2 op2 vals2 = false) := Lib.hid (by unfold nodeB; rw [b]; simp)
    clear e1
    go_enter Tryz.func107, Tryz.ntmps107
    go_upto_region 1 with fail
    go_big_quiet (fail)
    go_wp2_with fail
    go_ret
    exact HEND.out _ _ _ HV.out rfl ((Fr.refl No w).drewN nq)
end Go.Proofs.YtkcnbmgaeompjaaGreatDoor
/- Whether two conditions are the same. -/
namespace Go.Proofs.YtkcnbmgaeompjaaGreatDoor
open Go.RowKit Go.Maps
set_option linter.unusedVariables false

theorem CdTo.p {K : Nat → Prop} {w : World} {d : Nat} {c : Cd} {v : Value} (h : CdTo K w d c v) : ∃ p, v = .pointer p := by rcases h.ptr with ⟨_, e⟩ | ⟨_, _, _, e⟩ <;> exact ⟨_, e⟩
theorem eql_nil_ptr (g o : Nat) (w : World) : (binOp .eql 24 (.pointer none) (.pointer (some ⟨g, o, none⟩))).run Tryz.prog w = .ok (.bool false) w := by kernel_rfl
def sameC : Cd → Cd → Nat → Option Nat
  | .none, .none, n => some n
  | .none, .node .., _ => none
  | .node .., .none, _ => none
  | .node .., .node .., 0 => none
  | .node k l r c o v, .node k2 l2 r2 c2 o2 v2, n + 1 => if nodeB k c o v k2 c2 o2 v2 then (sameC l l2 n).bind fun m => sameC r r2 m else none
theorem same_le : ∀ (c c2 : Cd) (n m : Nat), sameC c c2 n = some m → m ≤ n
  | .none, .none, n, m, h => by cases h; exact Nat.le_refl _
  | .none, .node .., _, _, h => by cases h
  | .node .., .none, _, _, h => by cases h
  | .node .., .node .., 0, _, h => by cases h
  | .node k l r c o v, .node k2 l2 r2 c2 o2 v2, n + 1, m, h => by
    unfold sameC at h
    split at h
    · obtain ⟨a, h1, h2⟩ := Option.bind_eq_some_iff.1 h
      have := same_le l l2 _ _ h1
      have := same_le r r2 _ _ h2
      omega
    · cases h
set_option maxRecDepth 100000 in
set_option maxHeartbeats 4000000 in
theorem same_any (K K2 : Nat → Prop) (b : Nat) (hKb : ∀ k, K k → k ≠ b) (hKb2 : ∀ k, K2 k → k ≠ b) : ∀ (d : Nat) (c c2 : Cd) (v v2 : Value) (w : World) (n : Nat), n ≤ d → CdTo K w d c v → CdTo K2 w d c2 v2 → Blk w b 77 #[.int .i64 (n : Nat)] → n ≤ 100000 →
    Calls Tryz.prog 47 #[.pointer (some ⟨b, 0, none⟩), v, v2] w (RightP b (sameC c c2 n) w)
  | d, .none, .none, v, v2, w, n, hd, hA, hB, hb, hn => by
    obtain rfl : v = .pointer none := by cases d <;> exact hA
    obtain rfl : v2 = .pointer none := by cases d <;> exact hB
    have HB := Lib.hid hb
    clear hA hB hb
    go_enter Tryz.func47, Tryz.ntmps47
    go_wp2_with fail
    refine bodyPost_ret (v := .bool true) (by simp [results, Tryz.results47, go_sem]) rfl ?_
    exact ⟨by unfold sameC; rfl, Fr.refl _ _, fun m h => by unfold sameC at h; cases h; exact HB.out⟩
  | d, .none, .node .., v, v2, w, n, hd, hA, hB, hb, hn => by
    obtain rfl : v = .pointer none := by cases d <;> exact hA
    obtain ⟨g, o, rfl⟩ : ∃ g o, v2 = .pointer (some ⟨g, o, none⟩) := by
      rcases hB.ptr with h | h
      · cases h.1
      · exact h.2
    clear hA hB hb
    have hpe : ∀ w, (binOp .eql 24 (.pointer none) (.pointer (some ⟨g, o, none⟩))).run Tryz.prog w = .ok (.bool false) w := fun w => eql_nil_ptr g o w
    go_enter Tryz.func47, Tryz.ntmps47
    go_wp2_with fail
    go_ret
    exact ⟨by unfold sameC; rfl, Fr.refl _ _, fun m h => by unfold sameC at h; cases h⟩
  | d, .node .., .none, v, v2, w, n, hd, hA, hB, hb, hn => by
    obtain rfl : v2 = .pointer none := by cases d <;> exact hB
    obtain ⟨g, o, rfl⟩ : ∃ g o, v = .pointer (some ⟨g, o, none⟩) := by
      rcases hA.ptr with h | h
      · cases h.1
      · exact h.2
    clear hA hB hb
    go_enter Tryz.func47, Tryz.ntmps47
    go_wp2_with fail
    go_ret
    exact ⟨by unfold sameC; rfl, Fr.refl _ _, fun m h => by unfold sameC at h; cases h⟩
  | d, .node k l r col op vals, .node k2 l2 r2 col2 op2 vals2, v, v2, w, 0, hd, hA, hB, hb, hn => by
    obtain ⟨g, o, rfl⟩ : ∃ g o, v = .pointer (some ⟨g, o, none⟩) := by
      rcases hA.ptr with h | h
      · cases h.1
      · exact h.2
    obtain ⟨g2, o2, rfl⟩ : ∃ g o, v2 = .pointer (some ⟨g, o, none⟩) := by
      rcases hB.ptr with h | h
      · cases h.1
      · exact h.2
    have fd := (Fr.refl (fun k => k = b) w).drew
    have HFD := Lib.hid fd
    have HONE : Hid (Calls Tryz.prog 94 #[.pointer (some ⟨b, 0, none⟩)] w.drew fun e w' => e = .returned (.bool false) ∧ Fr (fun k => k = b) w w') := Lib.hid ((one_any (hb.of (((Fr.refl No w).drew).block b hb.lt id)) (by omega) (by omega)).mono fun e w' h => ⟨by rw [h.1]; rfl, fd.trans h.2.2 fun _ _ h => h⟩)
    clear hA hB hb fd
    go_enter Tryz.func47, Tryz.ntmps47
    go_upto_region 3 with fail
    refine wp_region_held_drew (S := fun _ => True) (by kernel_rfl) (trivial) (fun hHeld => ?_)
    refine wpAnyH_take (i := 0) (oi := ({ dst := some 16, op := Go.Op.move (Go.Operand.tmp 0), type := 126, pos := "same.go:17", after := #[], guard := none } : Go.Oper)) (v := ?_) rfl (by kernel_rfl) (by kernel_rfl) (by kernel_rfl) (fun _ _ _ h => h) (Or.inl ⟨by rfl, ?_⟩) (by assumption) ?_
    rotate_left 1
    · intro w hSw; (try dsimp only at hSw); first | (go_simp; done) | (go_simp; with_reducible rfl)
    try simp only [Act.put, List.setIfInBounds_toArray, List.set_cons_zero, List.set_cons_succ]
    refine wpAnyH_ready (rs := [1]) (by kernel_rfl) (by simp) ?_
    refine AllReadyH.cons (o := ({ dst := some 17, op := Go.Op.call { callee := Go.Callee.value (Go.Operand.func 94), args := #[Go.Operand.tmp 16], argTypes := #[126] }, type := 4, pos := "same.go:17", after := #[{ on := 0, ground := Go.Ground.data }], guard := none } : Go.Oper)) rfl (fun K hK => ?_) AllReadyH.nil
    go_simp
    (go_at_call 94; (with_reducible refine HONE.out.mono ?_); rintro e w1 ⟨rfl, f1⟩; have HF1 := Lib.hid f1; clear f1)
    try (go_wp2_with fail)
    refine hK.out _ _ (trivial) (fun hHeld1 => ?_)
    clear hK K
    try simp only [Act.put, List.setIfInBounds_toArray, List.set_cons_zero, List.set_cons_succ]
    refine wpAnyH_take (i := 2) (oi := ({ dst := some 18, op := Go.Op.move (Go.Operand.tmp 17), type := 4, pos := "same.go:17", after := #[{ on := 1, ground := Go.Ground.data }, { on := 1, ground := Go.Ground.chain }], guard := none } : Go.Oper)) (v := ?_) rfl (by kernel_rfl) (by kernel_rfl) (by kernel_rfl) (fun _ _ _ h => h) (Or.inl ⟨by rfl, ?_⟩) (by assumption) ?_
    rotate_left 1
    · intro w hSw; (try dsimp only at hSw); first | (go_simp; done) | (go_simp; with_reducible rfl)
    try simp only [Act.put, List.setIfInBounds_toArray, List.set_cons_zero, List.set_cons_succ]
    refine wpAnyH_take (i := 3) (oi := ({ dst := some 19, op := Go.Op.move (Go.Operand.tmp 1), type := 24, pos := "same.go:17", after := #[{ on := 2, ground := Go.Ground.guard }], guard := some (2, true) } : Go.Oper)) (v := undef) rfl (by kernel_rfl) (by kernel_rfl) (by kernel_rfl) (fun _ _ _ h => h) (Or.inr ⟨by rfl, rfl⟩) (by assumption) ?_
    try simp only [Act.put, List.setIfInBounds_toArray, List.set_cons_zero, List.set_cons_succ]
    refine wpAnyH_take (i := 4) (oi := ({ dst := some 20, op := Go.Op.move (Go.Operand.tmp 2), type := 24, pos := "same.go:17", after := #[{ on := 2, ground := Go.Ground.guard }], guard := some (2, true) } : Go.Oper)) (v := undef) rfl (by kernel_rfl) (by kernel_rfl) (by kernel_rfl) (fun _ _ _ h => h) (Or.inr ⟨by rfl, rfl⟩) (by assumption) ?_
    try simp only [Act.put, List.setIfInBounds_toArray, List.set_cons_zero, List.set_cons_succ]
    refine wpAnyH_take (i := 5) (oi := ({ dst := some 21, op := Go.Op.call { callee := Go.Callee.value (Go.Operand.func 107), args := #[Go.Operand.tmp 19, Go.Operand.tmp 20], argTypes := #[24, 24] }, type := 4, pos := "same.go:17", after := #[{ on := 3, ground := Go.Ground.data }, { on := 4, ground := Go.Ground.data }, { on := 2, ground := Go.Ground.chain }, { on := 2, ground := Go.Ground.guard }], guard := some (2, true) } : Go.Oper)) (v := undef) rfl (by kernel_rfl) (by kernel_rfl) (by kernel_rfl) (fun _ _ _ h => h) (Or.inr ⟨by rfl, rfl⟩) (by assumption) ?_
    try simp only [Act.put, List.setIfInBounds_toArray, List.set_cons_zero, List.set_cons_succ]
    refine wpAnyH_take (i := 6) (oi := ({ dst := some 22, op := Go.Op.pick (Go.Operand.tmp 18) (Go.Operand.tmp 21) (Go.Operand.const (Go.Value.bool false)), type := 4, pos := "same.go:17", after := #[{ on := 2, ground := Go.Ground.data }, { on := 5, ground := Go.Ground.data }], guard := none } : Go.Oper)) (v := ?_) rfl (by kernel_rfl) (by kernel_rfl) (by kernel_rfl) (fun _ _ _ h => h) (Or.inl ⟨by rfl, ?_⟩) (by assumption) ?_
    rotate_left 1
    · intro w hSw; (try dsimp only at hSw); first | (go_simp; done) | (go_simp; with_reducible rfl)
    try simp only [Act.put, List.setIfInBounds_toArray, List.set_cons_zero, List.set_cons_succ]
    refine wpAnyH_take (i := 7) (oi := ({ dst := some 23, op := Go.Op.move (Go.Operand.tmp 22), type := 4, pos := "same.go:17", after := #[{ on := 6, ground := Go.Ground.data }, { on := 5, ground := Go.Ground.chain }], guard := none } : Go.Oper)) (v := ?_) rfl (by kernel_rfl) (by kernel_rfl) (by kernel_rfl) (fun _ _ _ h => h) (Or.inl ⟨by rfl, ?_⟩) (by assumption) ?_
    rotate_left 1
    · intro w hSw; (try dsimp only at hSw); first | (go_simp; done) | (go_simp; with_reducible rfl)
    try simp only [Act.put, List.setIfInBounds_toArray, List.set_cons_zero, List.set_cons_succ]
    refine wpAnyH_take (i := 8) (oi := ({ dst := some 24, op := Go.Op.move (Go.Operand.tmp 0), type := 126, pos := "same.go:17", after := #[{ on := 7, ground := Go.Ground.guard }], guard := some (7, true) } : Go.Oper)) (v := undef) rfl (by kernel_rfl) (by kernel_rfl) (by kernel_rfl) (fun _ _ _ h => h) (Or.inr ⟨by rfl, rfl⟩) (by assumption) ?_
    try simp only [Act.put, List.setIfInBounds_toArray, List.set_cons_zero, List.set_cons_succ]
    refine wpAnyH_take (i := 9) (oi := ({ dst := some 25, op := Go.Op.move (Go.Operand.tmp 1), type := 24, pos := "same.go:17", after := #[{ on := 7, ground := Go.Ground.guard }], guard := some (7, true) } : Go.Oper)) (v := undef) rfl (by kernel_rfl) (by kernel_rfl) (by kernel_rfl) (fun _ _ _ h => h) (Or.inr ⟨by rfl, rfl⟩) (by assumption) ?_
    try simp only [Act.put, List.setIfInBounds_toArray, List.set_cons_zero, List.set_cons_succ]
    refine wpAnyH_take (i := 10) (oi := ({ dst := some 26, op := Go.Op.nilCheck (Go.Operand.tmp 25), type := 0, pos := "same.go:17", after := #[{ on := 9, ground := Go.Ground.data }, { on := 7, ground := Go.Ground.guard }], guard := some (7, true) } : Go.Oper)) (v := undef) rfl (by kernel_rfl) (by kernel_rfl) (by kernel_rfl) (fun _ _ _ h => h) (Or.inr ⟨by rfl, rfl⟩) (by assumption) ?_
    try simp only [Act.put, List.setIfInBounds_toArray, List.set_cons_zero, List.set_cons_succ]
    refine wpAnyH_take (i := 11) (oi := ({ dst := some 27, op := Go.Op.fieldAddr 50 (Go.Operand.tmp 26) 1, type := 0, pos := "same.go:17", after := #[{ on := 10, ground := Go.Ground.data }, { on := 7, ground := Go.Ground.guard }], guard := some (7, true) } : Go.Oper)) (v := undef) rfl (by kernel_rfl) (by kernel_rfl) (by kernel_rfl) (fun _ _ _ h => h) (Or.inr ⟨by rfl, rfl⟩) (by assumption) ?_
    try simp only [Act.put, List.setIfInBounds_toArray, List.set_cons_zero, List.set_cons_succ]
    refine wpAnyH_take (i := 12) (oi := ({ dst := some 28, op := Go.Op.load 24 (Go.Operand.tmp 27), type := 24, pos := "same.go:17", after := #[{ on := 11, ground := Go.Ground.data }, { on := 7, ground := Go.Ground.guard }], guard := some (7, true) } : Go.Oper)) (v := undef) rfl (by kernel_rfl) (by kernel_rfl) (by kernel_rfl) (fun _ _ _ h => h) (Or.inr ⟨by rfl, rfl⟩) (by assumption) ?_
    try simp only [Act.put, List.setIfInBounds_toArray, List.set_cons_zero, List.set_cons_succ]
    refine wpAnyH_take (i := 13) (oi := ({ dst := some 29, op := Go.Op.move (Go.Operand.tmp 2), type := 24, pos := "same.go:17", after := #[{ on := 7, ground := Go.Ground.guard }], guard := some (7, true) } : Go.Oper)) (v := undef) rfl (by kernel_rfl) (by kernel_rfl) (by kernel_rfl) (fun _ _ _ h => h) (Or.inr ⟨by rfl, rfl⟩) (by assumption) ?_
    try simp only [Act.put, List.setIfInBounds_toArray, List.set_cons_zero, List.set_cons_succ]
    refine wpAnyH_take (i := 14) (oi := ({ dst := some 30, op := Go.Op.nilCheck (Go.Operand.tmp 29), type := 0, pos := "same.go:17", after := #[{ on := 13, ground := Go.Ground.data }, { on := 7, ground := Go.Ground.guard }], guard := some (7, true) } : Go.Oper)) (v := undef) rfl (by kernel_rfl) (by kernel_rfl) (by kernel_rfl) (fun _ _ _ h => h) (Or.inr ⟨by rfl, rfl⟩) (by assumption) ?_
    try simp only [Act.put, List.setIfInBounds_toArray, List.set_cons_zero, List.set_cons_succ]
    refine wpAnyH_take (i := 15) (oi := ({ dst := some 31, op := Go.Op.fieldAddr 50 (Go.Operand.tmp 30) 1, type := 0, pos := "same.go:17", after := #[{ on := 14, ground := Go.Ground.data }, { on := 7, ground := Go.Ground.guard }], guard := some (7, true) } : Go.Oper)) (v := undef) rfl (by kernel_rfl) (by kernel_rfl) (by kernel_rfl) (fun _ _ _ h => h) (Or.inr ⟨by rfl, rfl⟩) (by assumption) ?_
    try simp only [Act.put, List.setIfInBounds_toArray, List.set_cons_zero, List.set_cons_succ]
    refine wpAnyH_take (i := 16) (oi := ({ dst := some 32, op := Go.Op.load 24 (Go.Operand.tmp 31), type := 24, pos := "same.go:17", after := #[{ on := 15, ground := Go.Ground.data }, { on := 7, ground := Go.Ground.guard }], guard := some (7, true) } : Go.Oper)) (v := undef) rfl (by kernel_rfl) (by kernel_rfl) (by kernel_rfl) (fun _ _ _ h => h) (Or.inr ⟨by rfl, rfl⟩) (by assumption) ?_
    try simp only [Act.put, List.setIfInBounds_toArray, List.set_cons_zero, List.set_cons_succ]
    refine wpAnyH_take (i := 17) (oi := ({ dst := some 33, op := Go.Op.call { callee := Go.Callee.value (Go.Operand.func 47), args := #[Go.Operand.tmp 24, Go.Operand.tmp 28, Go.Operand.tmp 32], argTypes := #[126, 24, 24] }, type := 4, pos := "same.go:17", after := #[{ on := 8, ground := Go.Ground.data }, { on := 12, ground := Go.Ground.data }, { on := 16, ground := Go.Ground.data }, { on := 7, ground := Go.Ground.chain }, { on := 7, ground := Go.Ground.guard }], guard := some (7, true) } : Go.Oper)) (v := undef) rfl (by kernel_rfl) (by kernel_rfl) (by kernel_rfl) (fun _ _ _ h => h) (Or.inr ⟨by rfl, rfl⟩) (by assumption) ?_
    try simp only [Act.put, List.setIfInBounds_toArray, List.set_cons_zero, List.set_cons_succ]
    refine wpAnyH_take (i := 18) (oi := ({ dst := some 34, op := Go.Op.pick (Go.Operand.tmp 23) (Go.Operand.tmp 33) (Go.Operand.const (Go.Value.bool false)), type := 4, pos := "same.go:17", after := #[{ on := 7, ground := Go.Ground.data }, { on := 17, ground := Go.Ground.data }], guard := none } : Go.Oper)) (v := ?_) rfl (by kernel_rfl) (by kernel_rfl) (by kernel_rfl) (fun _ _ _ h => h) (Or.inl ⟨by rfl, ?_⟩) (by assumption) ?_
    rotate_left 1
    · intro w hSw; (try dsimp only at hSw); first | (go_simp; done) | (go_simp; with_reducible rfl)
    try simp only [Act.put, List.setIfInBounds_toArray, List.set_cons_zero, List.set_cons_succ]
    refine wpAnyH_take (i := 19) (oi := ({ dst := some 35, op := Go.Op.move (Go.Operand.tmp 34), type := 4, pos := "same.go:17", after := #[{ on := 18, ground := Go.Ground.data }, { on := 17, ground := Go.Ground.chain }], guard := none } : Go.Oper)) (v := ?_) rfl (by kernel_rfl) (by kernel_rfl) (by kernel_rfl) (fun _ _ _ h => h) (Or.inl ⟨by rfl, ?_⟩) (by assumption) ?_
    rotate_left 1
    · intro w hSw; (try dsimp only at hSw); first | (go_simp; done) | (go_simp; with_reducible rfl)
    try simp only [Act.put, List.setIfInBounds_toArray, List.set_cons_zero, List.set_cons_succ]
    refine wpAnyH_take (i := 20) (oi := ({ dst := some 36, op := Go.Op.move (Go.Operand.tmp 0), type := 126, pos := "same.go:17", after := #[{ on := 19, ground := Go.Ground.guard }], guard := some (19, true) } : Go.Oper)) (v := undef) rfl (by kernel_rfl) (by kernel_rfl) (by kernel_rfl) (fun _ _ _ h => h) (Or.inr ⟨by rfl, rfl⟩) (by assumption) ?_
    try simp only [Act.put, List.setIfInBounds_toArray, List.set_cons_zero, List.set_cons_succ]
    refine wpAnyH_take (i := 21) (oi := ({ dst := some 37, op := Go.Op.move (Go.Operand.tmp 1), type := 24, pos := "same.go:17", after := #[{ on := 19, ground := Go.Ground.guard }], guard := some (19, true) } : Go.Oper)) (v := undef) rfl (by kernel_rfl) (by kernel_rfl) (by kernel_rfl) (fun _ _ _ h => h) (Or.inr ⟨by rfl, rfl⟩) (by assumption) ?_
    try simp only [Act.put, List.setIfInBounds_toArray, List.set_cons_zero, List.set_cons_succ]
    refine wpAnyH_take (i := 22) (oi := ({ dst := some 38, op := Go.Op.nilCheck (Go.Operand.tmp 37), type := 0, pos := "same.go:17", after := #[{ on := 21, ground := Go.Ground.data }, { on := 19, ground := Go.Ground.guard }], guard := some (19, true) } : Go.Oper)) (v := undef) rfl (by kernel_rfl) (by kernel_rfl) (by kernel_rfl) (fun _ _ _ h => h) (Or.inr ⟨by rfl, rfl⟩) (by assumption) ?_
    try simp only [Act.put, List.setIfInBounds_toArray, List.set_cons_zero, List.set_cons_succ]
    refine wpAnyH_take (i := 23) (oi := ({ dst := some 39, op := Go.Op.fieldAddr 50 (Go.Operand.tmp 38) 2, type := 0, pos := "same.go:17", after := #[{ on := 22, ground := Go.Ground.data }, { on := 19, ground := Go.Ground.guard }], guard := some (19, true) } : Go.Oper)) (v := undef) rfl (by kernel_rfl) (by kernel_rfl) (by kernel_rfl) (fun _ _ _ h => h) (Or.inr ⟨by rfl, rfl⟩) (by assumption) ?_
    try simp only [Act.put, List.setIfInBounds_toArray, List.set_cons_zero, List.set_cons_succ]
    refine wpAnyH_take (i := 24) (oi := ({ dst := some 40, op := Go.Op.load 24 (Go.Operand.tmp 39), type := 24, pos := "same.go:17", after := #[{ on := 23, ground := Go.Ground.data }, { on := 19, ground := Go.Ground.guard }], guard := some (19, true) } : Go.Oper)) (v := undef) rfl (by kernel_rfl) (by kernel_rfl) (by kernel_rfl) (fun _ _ _ h => h) (Or.inr ⟨by rfl, rfl⟩) (by assumption) ?_
    try simp only [Act.put, List.setIfInBounds_toArray, List.set_cons_zero, List.set_cons_succ]
    refine wpAnyH_take (i := 25) (oi := ({ dst := some 41, op := Go.Op.move (Go.Operand.tmp 2), type := 24, pos := "same.go:17", after := #[{ on := 19, ground := Go.Ground.guard }], guard := some (19, true) } : Go.Oper)) (v := undef) rfl (by kernel_rfl) (by kernel_rfl) (by kernel_rfl) (fun _ _ _ h => h) (Or.inr ⟨by rfl, rfl⟩) (by assumption) ?_
    try simp only [Act.put, List.setIfInBounds_toArray, List.set_cons_zero, List.set_cons_succ]
    refine wpAnyH_take (i := 26) (oi := ({ dst := some 42, op := Go.Op.nilCheck (Go.Operand.tmp 41), type := 0, pos := "same.go:17", after := #[{ on := 25, ground := Go.Ground.data }, { on := 19, ground := Go.Ground.guard }], guard := some (19, true) } : Go.Oper)) (v := undef) rfl (by kernel_rfl) (by kernel_rfl) (by kernel_rfl) (fun _ _ _ h => h) (Or.inr ⟨by rfl, rfl⟩) (by assumption) ?_
    try simp only [Act.put, List.setIfInBounds_toArray, List.set_cons_zero, List.set_cons_succ]
    refine wpAnyH_take (i := 27) (oi := ({ dst := some 43, op := Go.Op.fieldAddr 50 (Go.Operand.tmp 42) 2, type := 0, pos := "same.go:17", after := #[{ on := 26, ground := Go.Ground.data }, { on := 19, ground := Go.Ground.guard }], guard := some (19, true) } : Go.Oper)) (v := undef) rfl (by kernel_rfl) (by kernel_rfl) (by kernel_rfl) (fun _ _ _ h => h) (Or.inr ⟨by rfl, rfl⟩) (by assumption) ?_
    try simp only [Act.put, List.setIfInBounds_toArray, List.set_cons_zero, List.set_cons_succ]
    refine wpAnyH_take (i := 28) (oi := ({ dst := some 44, op := Go.Op.load 24 (Go.Operand.tmp 43), type := 24, pos := "same.go:17", after := #[{ on := 27, ground := Go.Ground.data }, { on := 19, ground := Go.Ground.guard }], guard := some (19, true) } : Go.Oper)) (v := undef) rfl (by kernel_rfl) (by kernel_rfl) (by kernel_rfl) (fun _ _ _ h => h) (Or.inr ⟨by rfl, rfl⟩) (by assumption) ?_
    try simp only [Act.put, List.setIfInBounds_toArray, List.set_cons_zero, List.set_cons_succ]
    refine wpAnyH_take (i := 29) (oi := ({ dst := some 45, op := Go.Op.call { callee := Go.Callee.value (Go.Operand.func 47), args := #[Go.Operand.tmp 36, Go.Operand.tmp 40, Go.Operand.tmp 44], argTypes := #[126, 24, 24] }, type := 4, pos := "same.go:17", after := #[{ on := 20, ground := Go.Ground.data }, { on := 24, ground := Go.Ground.data }, { on := 28, ground := Go.Ground.data }, { on := 19, ground := Go.Ground.chain }, { on := 19, ground := Go.Ground.guard }], guard := some (19, true) } : Go.Oper)) (v := undef) rfl (by kernel_rfl) (by kernel_rfl) (by kernel_rfl) (fun _ _ _ h => h) (Or.inr ⟨by rfl, rfl⟩) (by assumption) ?_
    try simp only [Act.put, List.setIfInBounds_toArray, List.set_cons_zero, List.set_cons_succ]
    refine wpAnyH_take (i := 30) (oi := ({ dst := some 46, op := Go.Op.pick (Go.Operand.tmp 35) (Go.Operand.tmp 45) (Go.Operand.const (Go.Value.bool false)), type := 4, pos := "same.go:17", after := #[{ on := 19, ground := Go.Ground.data }, { on := 29, ground := Go.Ground.data }], guard := none } : Go.Oper)) (v := ?_) rfl (by kernel_rfl) (by kernel_rfl) (by kernel_rfl) (fun _ _ _ h => h) (Or.inl ⟨by rfl, ?_⟩) (by assumption) ?_
    rotate_left 1
    · intro w hSw; (try dsimp only at hSw); first | (go_simp; done) | (go_simp; with_reducible rfl)
    try simp only [Act.put, List.setIfInBounds_toArray, List.set_cons_zero, List.set_cons_succ]
    refine wpAnyH_take (i := 31) (oi := ({ dst := some 6, op := Go.Op.assign (Go.Operand.tmp 46), type := 4, pos := "same.go:17", after := #[{ on := 30, ground := Go.Ground.data }, { on := 29, ground := Go.Ground.chain }, { on := 0, ground := Go.Ground.phase }, { on := 1, ground := Go.Ground.phase }, { on := 2, ground := Go.Ground.phase }, { on := 3, ground := Go.Ground.phase }, { on := 4, ground := Go.Ground.phase }, { on := 5, ground := Go.Ground.phase }, { on := 6, ground := Go.Ground.phase }, { on := 7, ground := Go.Ground.phase }, { on := 8, ground := Go.Ground.phase }, { on := 9, ground := Go.Ground.phase }, { on := 10, ground := Go.Ground.phase }, { on := 11, ground := Go.Ground.phase }, { on := 12, ground := Go.Ground.phase }, { on := 13, ground := Go.Ground.phase }, { on := 14, ground := Go.Ground.phase }, { on := 15, ground := Go.Ground.phase }, { on := 16, ground := Go.Ground.phase }, { on := 17, ground := Go.Ground.phase }, { on := 18, ground := Go.Ground.phase }, { on := 19, ground := Go.Ground.phase }, { on := 20, ground := Go.Ground.phase }, { on := 21, ground := Go.Ground.phase }, { on := 22, ground := Go.Ground.phase }, { on := 23, ground := Go.Ground.phase }, { on := 24, ground := Go.Ground.phase }, { on := 25, ground := Go.Ground.phase }, { on := 26, ground := Go.Ground.phase }, { on := 27, ground := Go.Ground.phase }, { on := 28, ground := Go.Ground.phase }, { on := 29, ground := Go.Ground.phase }, { on := 30, ground := Go.Ground.phase }], guard := none } : Go.Oper)) (v := ?_) rfl (by kernel_rfl) (by kernel_rfl) (by kernel_rfl) (fun _ _ _ h => h) (Or.inl ⟨by rfl, ?_⟩) (by assumption) ?_
    rotate_left 1
    · intro w hSw; (try dsimp only at hSw); first | (go_simp; done) | (go_simp; with_reducible rfl)
    try simp only [Act.put, List.setIfInBounds_toArray, List.set_cons_zero, List.set_cons_succ]
    refine wpAnyH_done (by kernel_rfl) ?_ _
    go_wp2_with fail
    go_ret
    exact ⟨by unfold sameC; rfl, HF1.out, fun m h => by unfold sameC at h; cases h⟩
  | 0, .node .., .node .., v, v2, w, n + 1, hd, hA, hB, hb, hn => by omega
  | d + 1, .node k l r col op vals, .node k2 l2 r2 col2 op2 vals2, v, v2, w, n + 1, hd, hA, hB, hb, hn => by
    obtain ⟨g, o, L, R, V, rfl, hK, hg, hN, hl, hr, hv, hcl, _, _⟩ := hA
    obtain ⟨g2, o2, L2, R2, V2, rfl, hK2, hg2, hN2, hl2, hr2, hv2, hcl2, _, _⟩ := hB
    obtain ⟨pl, rfl⟩ : ∃ p, L = .pointer p := hl.p
    obtain ⟨pr, rfl⟩ : ∃ p, R = .pointer p := hr.p
    obtain ⟨ql, rfl⟩ : ∃ p, L2 = .pointer p := hl2.p
    obtain ⟨qr, rfl⟩ : ∃ p, R2 = .pointer p := hr2.p
    have hgb := hKb g hK
    have hgb2 := hKb2 g2 hK2
    have HAT : Hid (∀ w', Fr (fun k => k = b) w w' → NodeC w' g o k (.pointer pl) (.pointer pr) col op V ∧ NodeC w' g2 o2 k2 (.pointer ql) (.pointer qr) col2 op2 V2 ∧ CdTo K w' d l (.pointer pl) ∧ CdTo K w' d r (.pointer pr) ∧ CdTo K2 w' d l2 (.pointer ql) ∧ CdTo K2 w' d r2 (.pointer qr) ∧ RowE K w' 3 (vlG K w') V vals ∧ RowE K2 w' 3 (vlG K2 w') V2 vals2 ∧ g < w'.heap.size ∧ g2 < w'.heap.size) := Lib.hid fun w' f' =>
      have hk : ∀ k, K k → k < w.heap.size → K k ∧ w'.heap[k]? = w.heap[k]? := fun k h1 h2 => ⟨h1, f'.block k h2 (hKb k h1)⟩
      have hk2 : ∀ k, K2 k → k < w.heap.size → K2 k ∧ w'.heap[k]? = w.heap[k]? := fun k h1 h2 => ⟨h1, f'.block k h2 (hKb2 k h1)⟩
      ⟨hN.of (f'.block g hg hgb), hN2.of (f'.block g2 hg2 hgb2), hl.mono hk, hr.mono hk, hl2.mono hk2, hr2.mono hk2, hv.mono hk fun _ _ h => h, hv2.mono hk2 fun _ _ h => h, Nat.lt_of_lt_of_le hg f'.size, Nat.lt_of_lt_of_le hg2 f'.size⟩
    have HSAT : Hid (∀ w', Fr (fun k => k = b) w w' → w'.cell? ⟨g, o + 1, none⟩ = some (.pointer pl) ∧ w'.cell? ⟨g, o + 2, none⟩ = some (.pointer pr) ∧ w'.cell? ⟨g2, o2 + 1, none⟩ = some (.pointer ql) ∧ w'.cell? ⟨g2, o2 + 2, none⟩ = some (.pointer qr)) := Lib.hid fun w' f' => ⟨(HAT.out w' f').1.c1, (HAT.out w' f').1.c2, (HAT.out w' f').2.1.c1, (HAT.out w' f').2.1.c2⟩
    have fd := (Fr.refl (fun k => k = b) w).drew
    have HFD := Lib.hid fd
    have HONE : Hid (Calls Tryz.prog 94 #[.pointer (some ⟨b, 0, none⟩)] w.drew fun e w' => e = .returned (.bool true) ∧ Fr (fun k => k = b) w w' ∧ Blk w' b 77 #[.int .i64 (n : Nat)]) := Lib.hid ((one_any (hb.of (((Fr.refl No w).drew).block b hb.lt id)) (by omega) (by omega)).mono fun e w' h => ⟨by rw [h.1, decide_eq_true (by omega)], fd.trans h.2.2 fun _ _ h => h, by have := h.2.1; rwa [show (((n + 1 : Nat) : Int) - 1) = ((n : Nat) : Int) by omega] at this⟩)
    have HND : Hid (∀ w', Fr (fun k => k = b) w w' → Calls Tryz.prog 107 #[.pointer (some ⟨g, o, none⟩), .pointer (some ⟨g2, o2, none⟩)] w' (TellsB (nodeB k col op vals k2 col2 op2 vals2) w')) := Lib.hid fun w' f' => by
      obtain ⟨a1, a2, _, _, _, _, a7, a8, a9, a10⟩ := HAT.out w' f'
      exact samenode_any a1 a2 a9 a10 a7 a8
    have HIL : Hid (∀ w', Fr (fun k => k = b) w w' → Blk w' b 77 #[.int .i64 (n : Nat)] → Calls Tryz.prog 47 #[.pointer (some ⟨b, 0, none⟩), .pointer pl, .pointer ql] w' (RightP b (sameC l l2 n) w')) := Lib.hid fun w' f' hb' => same_any K K2 b hKb hKb2 d l l2 _ _ w' n (by omega) (HAT.out w' f').2.2.1 (HAT.out w' f').2.2.2.2.1 hb' (by omega)
    have HIR : Hid (∀ w' m, m ≤ n → Fr (fun k => k = b) w w' → Blk w' b 77 #[.int .i64 (m : Nat)] → Calls Tryz.prog 47 #[.pointer (some ⟨b, 0, none⟩), .pointer pr, .pointer qr] w' (RightP b (sameC r r2 m) w')) := Lib.hid fun w' m hm f' hb' => same_any K K2 b hKb hKb2 d r r2 _ _ w' m (by omega) (HAT.out w' f').2.2.2.1 (HAT.out w' f').2.2.2.2.2.1 hb' (by omega)
    have HEND : Hid (∀ (x : Option Nat) e w', sameC (.node k l r col op vals) (.node k2 l2 r2 col2 op2 vals2) (n + 1) = x → e = .returned (.bool x.isSome) → Fr (fun k => k = b) w w' → (∀ m : Nat, x = some m → Blk w' b 77 #[.int .i64 (m : Nat)]) → RightP b (sameC (.node k l r col op vals) (.node k2 l2 r2 col2 op2 vals2) (n + 1)) w e w') := Lib.hid fun x e w' h1 h2 h3 h4 => by rw [h1]; exact ⟨h2, h3, h4⟩
    have HU : Hid (sameC (.node k l r col op vals) (.node k2 l2 r2 col2 op2 vals2) (n + 1) = if nodeB k col op vals k2 col2 op2 vals2 then (sameC l l2 n).bind fun m => sameC r r2 m else none) := Lib.hid (by conv => lhs; unfold sameC)
    have HSD := Lib.hid (HSAT.out _ fd)
    clear hN hN2 hl hr hl2 hr2 hv hv2 hb fd hK hK2 hgb hgb2
    go_enter Tryz.func47, Tryz.ntmps47
    go_upto_region 3 with fail
    cases hnb : nodeB k col op vals k2 col2 op2 vals2 with
    | false =>
      have HV2 : Hid (sameC (.node k l r col op vals) (.node k2 l2 r2 col2 op2 vals2) (n + 1) = none) := Lib.hid (by rw [HU.out, hnb]; rfl)
      refine wp_region_held_drew (S := fun w' => w'.cell? ⟨g, o + 1, none⟩ = some (.pointer pl) ∧ w'.cell? ⟨g, o + 2, none⟩ = some (.pointer pr) ∧ w'.cell? ⟨g2, o2 + 1, none⟩ = some (.pointer ql) ∧ w'.cell? ⟨g2, o2 + 2, none⟩ = some (.pointer qr)) (by kernel_rfl) (HSD.out) (fun hHeld => ?_)
      refine wpAnyH_take (i := 0) (oi := ({ dst := some 16, op := Go.Op.move (Go.Operand.tmp 0), type := 126, pos := "same.go:17", after := #[], guard := none } : Go.Oper)) (v := ?_) rfl (by kernel_rfl) (by kernel_rfl) (by kernel_rfl) (fun _ _ _ h => h) (Or.inl ⟨by rfl, ?_⟩) (by assumption) ?_
      rotate_left 1
      · intro w hSw; (try dsimp only at hSw); first | (go_simp; done) | (go_simp; with_reducible rfl)
      try simp only [Act.put, List.setIfInBounds_toArray, List.set_cons_zero, List.set_cons_succ]
      refine wpAnyH_ready (rs := [1]) (by kernel_rfl) (by simp) ?_
      refine AllReadyH.cons (o := ({ dst := some 17, op := Go.Op.call { callee := Go.Callee.value (Go.Operand.func 94), args := #[Go.Operand.tmp 16], argTypes := #[126] }, type := 4, pos := "same.go:17", after := #[{ on := 0, ground := Go.Ground.data }], guard := none } : Go.Oper)) rfl (fun K hK => ?_) AllReadyH.nil
      go_simp
      (go_at_call 94; (with_reducible refine HONE.out.mono ?_); rintro e w1 ⟨rfl, f1, hb1⟩; have HF1 := Lib.hid f1; have HB1 := Lib.hid hb1; have HS1 := Lib.hid (HSAT.out w1 f1); have HN1 := Lib.hid (HND.out w1 f1); clear f1 hb1)
      rw [hnb] at HN1
      try (go_wp2_with fail)
      refine hK.out _ _ (HS1.out) (fun hHeld1 => ?_)
      clear hK K
      try simp only [Act.put, List.setIfInBounds_toArray, List.set_cons_zero, List.set_cons_succ]
      refine wpAnyH_take (i := 2) (oi := ({ dst := some 18, op := Go.Op.move (Go.Operand.tmp 17), type := 4, pos := "same.go:17", after := #[{ on := 1, ground := Go.Ground.data }, { on := 1, ground := Go.Ground.chain }], guard := none } : Go.Oper)) (v := ?_) rfl (by kernel_rfl) (by kernel_rfl) (by kernel_rfl) (fun _ _ _ h => h) (Or.inl ⟨by rfl, ?_⟩) (by assumption) ?_
      rotate_left 1
      · intro w hSw; (try dsimp only at hSw); first | (go_simp; done) | (go_simp; with_reducible rfl)
      try simp only [Act.put, List.setIfInBounds_toArray, List.set_cons_zero, List.set_cons_succ]
      refine wpAnyH_take (i := 3) (oi := ({ dst := some 19, op := Go.Op.move (Go.Operand.tmp 1), type := 24, pos := "same.go:17", after := #[{ on := 2, ground := Go.Ground.guard }], guard := some (2, true) } : Go.Oper)) (v := ?_) rfl (by kernel_rfl) (by kernel_rfl) (by kernel_rfl) (fun _ _ _ h => h) (Or.inl ⟨by rfl, ?_⟩) (by assumption) ?_
      rotate_left 1
      · intro w hSw; (try dsimp only at hSw); first | (go_simp; done) | (go_simp; with_reducible rfl)
      try simp only [Act.put, List.setIfInBounds_toArray, List.set_cons_zero, List.set_cons_succ]
      refine wpAnyH_take (i := 4) (oi := ({ dst := some 20, op := Go.Op.move (Go.Operand.tmp 2), type := 24, pos := "same.go:17", after := #[{ on := 2, ground := Go.Ground.guard }], guard := some (2, true) } : Go.Oper)) (v := ?_) rfl (by kernel_rfl) (by kernel_rfl) (by kernel_rfl) (fun _ _ _ h => h) (Or.inl ⟨by rfl, ?_⟩) (by assumption) ?_
      rotate_left 1
      · intro w hSw; (try dsimp only at hSw); first | (go_simp; done) | (go_simp; with_reducible rfl)
      try simp only [Act.put, List.setIfInBounds_toArray, List.set_cons_zero, List.set_cons_succ]
      refine wpAnyH_ready (rs := [5]) (by kernel_rfl) (by simp) ?_
      refine AllReadyH.cons (o := ({ dst := some 21, op := Go.Op.call { callee := Go.Callee.value (Go.Operand.func 107), args := #[Go.Operand.tmp 19, Go.Operand.tmp 20], argTypes := #[24, 24] }, type := 4, pos := "same.go:17", after := #[{ on := 3, ground := Go.Ground.data }, { on := 4, ground := Go.Ground.data }, { on := 2, ground := Go.Ground.chain }, { on := 2, ground := Go.Ground.guard }], guard := some (2, true) } : Go.Oper)) rfl (fun K hK => ?_) AllReadyH.nil
      go_simp
      (go_at_call 107; (with_reducible refine HN1.out.mono ?_); rintro e w2 ⟨rfl, f2⟩; have HF2 := Lib.hid (HF1.out.trans f2.any fun _ _ h => h); have HB2 := Lib.hid (HB1.out.of (f2.block b HB1.out.lt id)); have HS2 := Lib.hid (HSAT.out w2 HF2.out); have HL2 := Lib.hid (HIL.out w2 HF2.out HB2.out); clear f2)
      try (go_wp2_with fail)
      refine hK.out _ _ (HS2.out) (fun hHeld2 => ?_)
      clear hK K
      try simp only [Act.put, List.setIfInBounds_toArray, List.set_cons_zero, List.set_cons_succ]
      refine wpAnyH_take (i := 6) (oi := ({ dst := some 22, op := Go.Op.pick (Go.Operand.tmp 18) (Go.Operand.tmp 21) (Go.Operand.const (Go.Value.bool false)), type := 4, pos := "same.go:17", after := #[{ on := 2, ground := Go.Ground.data }, { on := 5, ground := Go.Ground.data }], guard := none } : Go.Oper)) (v := ?_) rfl (by kernel_rfl) (by kernel_rfl) (by kernel_rfl) (fun _ _ _ h => h) (Or.inl ⟨by rfl, ?_⟩) (by assumption) ?_
      rotate_left 1
      · intro w hSw; (try dsimp only at hSw); first | (go_simp; done) | (go_simp; with_reducible rfl)
      try simp only [Act.put, List.setIfInBounds_toArray, List.set_cons_zero, List.set_cons_succ]
      refine wpAnyH_take (i := 7) (oi := ({ dst := some 23, op := Go.Op.move (Go.Operand.tmp 22), type := 4, pos := "same.go:17", after := #[{ on := 6, ground := Go.Ground.data }, { on := 5, ground := Go.Ground.chain }], guard := none } : Go.Oper)) (v := ?_) rfl (by kernel_rfl) (by kernel_rfl) (by kernel_rfl) (fun _ _ _ h => h) (Or.inl ⟨by rfl, ?_⟩) (by assumption) ?_
      rotate_left 1
      · intro w hSw; (try dsimp only at hSw); first | (go_simp; done) | (go_simp; with_reducible rfl)
      try simp only [Act.put, List.setIfInBounds_toArray, List.set_cons_zero, List.set_cons_succ]
      refine wpAnyH_take (i := 8) (oi := ({ dst := some 24, op := Go.Op.move (Go.Operand.tmp 0), type := 126, pos := "same.go:17", after := #[{ on := 7, ground := Go.Ground.guard }], guard := some (7, true) } : Go.Oper)) (v := undef) rfl (by kernel_rfl) (by kernel_rfl) (by kernel_rfl) (fun _ _ _ h => h) (Or.inr ⟨by rfl, rfl⟩) (by assumption) ?_
      try simp only [Act.put, List.setIfInBounds_toArray, List.set_cons_zero, List.set_cons_succ]
      refine wpAnyH_take (i := 9) (oi := ({ dst := some 25, op := Go.Op.move (Go.Operand.tmp 1), type := 24, pos := "same.go:17", after := #[{ on := 7, ground := Go.Ground.guard }], guard := some (7, true) } : Go.Oper)) (v := undef) rfl (by kernel_rfl) (by kernel_rfl) (by kernel_rfl) (fun _ _ _ h => h) (Or.inr ⟨by rfl, rfl⟩) (by assumption) ?_
      try simp only [Act.put, List.setIfInBounds_toArray, List.set_cons_zero, List.set_cons_succ]
      refine wpAnyH_take (i := 10) (oi := ({ dst := some 26, op := Go.Op.nilCheck (Go.Operand.tmp 25), type := 0, pos := "same.go:17", after := #[{ on := 9, ground := Go.Ground.data }, { on := 7, ground := Go.Ground.guard }], guard := some (7, true) } : Go.Oper)) (v := undef) rfl (by kernel_rfl) (by kernel_rfl) (by kernel_rfl) (fun _ _ _ h => h) (Or.inr ⟨by rfl, rfl⟩) (by assumption) ?_
      try simp only [Act.put, List.setIfInBounds_toArray, List.set_cons_zero, List.set_cons_succ]
      refine wpAnyH_take (i := 11) (oi := ({ dst := some 27, op := Go.Op.fieldAddr 50 (Go.Operand.tmp 26) 1, type := 0, pos := "same.go:17", after := #[{ on := 10, ground := Go.Ground.data }, { on := 7, ground := Go.Ground.guard }], guard := some (7, true) } : Go.Oper)) (v := undef) rfl (by kernel_rfl) (by kernel_rfl) (by kernel_rfl) (fun _ _ _ h => h) (Or.inr ⟨by rfl, rfl⟩) (by assumption) ?_
      try simp only [Act.put, List.setIfInBounds_toArray, List.set_cons_zero, List.set_cons_succ]
      refine wpAnyH_take (i := 12) (oi := ({ dst := some 28, op := Go.Op.load 24 (Go.Operand.tmp 27), type := 24, pos := "same.go:17", after := #[{ on := 11, ground := Go.Ground.data }, { on := 7, ground := Go.Ground.guard }], guard := some (7, true) } : Go.Oper)) (v := undef) rfl (by kernel_rfl) (by kernel_rfl) (by kernel_rfl) (fun _ _ _ h => h) (Or.inr ⟨by rfl, rfl⟩) (by assumption) ?_
      try simp only [Act.put, List.setIfInBounds_toArray, List.set_cons_zero, List.set_cons_succ]
      refine wpAnyH_take (i := 13) (oi := ({ dst := some 29, op := Go.Op.move (Go.Operand.tmp 2), type := 24, pos := "same.go:17", after := #[{ on := 7, ground := Go.Ground.guard }], guard := some (7, true) } : Go.Oper)) (v := undef) rfl (by kernel_rfl) (by kernel_rfl) (by kernel_rfl) (fun _ _ _ h => h) (Or.inr ⟨by rfl, rfl⟩) (by assumption) ?_
      try simp only [Act.put, List.setIfInBounds_toArray, List.set_cons_zero, List.set_cons_succ]
      refine wpAnyH_take (i := 14) (oi := ({ dst := some 30, op := Go.Op.nilCheck (Go.Operand.tmp 29), type := 0, pos := "same.go:17", after := #[{ on := 13, ground := Go.Ground.data }, { on := 7, ground := Go.Ground.guard }], guard := some (7, true) } : Go.Oper)) (v := undef) rfl (by kernel_rfl) (by kernel_rfl) (by kernel_rfl) (fun _ _ _ h => h) (Or.inr ⟨by rfl, rfl⟩) (by assumption) ?_
      try simp only [Act.put, List.setIfInBounds_toArray, List.set_cons_zero, List.set_cons_succ]
      refine wpAnyH_take (i := 15) (oi := ({ dst := some 31, op := Go.Op.fieldAddr 50 (Go.Operand.tmp 30) 1, type := 0, pos := "same.go:17", after := #[{ on := 14, ground := Go.Ground.data }, { on := 7, ground := Go.Ground.guard }], guard := some (7, true) } : Go.Oper)) (v := undef) rfl (by kernel_rfl) (by kernel_rfl) (by kernel_rfl) (fun _ _ _ h => h) (Or.inr ⟨by rfl, rfl⟩) (by assumption) ?_
      try simp only [Act.put, List.setIfInBounds_toArray, List.set_cons_zero, List.set_cons_succ]
      refine wpAnyH_take (i := 16) (oi := ({ dst := some 32, op := Go.Op.load 24 (Go.Operand.tmp 31), type := 24, pos := "same.go:17", after := #[{ on := 15, ground := Go.Ground.data }, { on := 7, ground := Go.Ground.guard }], guard := some (7, true) } : Go.Oper)) (v := undef) rfl (by kernel_rfl) (by kernel_rfl) (by kernel_rfl) (fun _ _ _ h => h) (Or.inr ⟨by rfl, rfl⟩) (by assumption) ?_
      try simp only [Act.put, List.setIfInBounds_toArray, List.set_cons_zero, List.set_cons_succ]
      refine wpAnyH_take (i := 17) (oi := ({ dst := some 33, op := Go.Op.call { callee := Go.Callee.value (Go.Operand.func 47), args := #[Go.Operand.tmp 24, Go.Operand.tmp 28, Go.Operand.tmp 32], argTypes := #[126, 24, 24] }, type := 4, pos := "same.go:17", after := #[{ on := 8, ground := Go.Ground.data }, { on := 12, ground := Go.Ground.data }, { on := 16, ground := Go.Ground.data }, { on := 7, ground := Go.Ground.chain }, { on := 7, ground := Go.Ground.guard }], guard := some (7, true) } : Go.Oper)) (v := undef) rfl (by kernel_rfl) (by kernel_rfl) (by kernel_rfl) (fun _ _ _ h => h) (Or.inr ⟨by rfl, rfl⟩) (by assumption) ?_
      try simp only [Act.put, List.setIfInBounds_toArray, List.set_cons_zero, List.set_cons_succ]
      refine wpAnyH_take (i := 18) (oi := ({ dst := some 34, op := Go.Op.pick (Go.Operand.tmp 23) (Go.Operand.tmp 33) (Go.Operand.const (Go.Value.bool false)), type := 4, pos := "same.go:17", after := #[{ on := 7, ground := Go.Ground.data }, { on := 17, ground := Go.Ground.data }], guard := none } : Go.Oper)) (v := ?_) rfl (by kernel_rfl) (by kernel_rfl) (by kernel_rfl) (fun _ _ _ h => h) (Or.inl ⟨by rfl, ?_⟩) (by assumption) ?_
      rotate_left 1
      · intro w hSw; (try dsimp only at hSw); first | (go_simp; done) | (go_simp; with_reducible rfl)
      try simp only [Act.put, List.setIfInBounds_toArray, List.set_cons_zero, List.set_cons_succ]
      refine wpAnyH_take (i := 19) (oi := ({ dst := some 35, op := Go.Op.move (Go.Operand.tmp 34), type := 4, pos := "same.go:17", after := #[{ on := 18, ground := Go.Ground.data }, { on := 17, ground := Go.Ground.chain }], guard := none } : Go.Oper)) (v := ?_) rfl (by kernel_rfl) (by kernel_rfl) (by kernel_rfl) (fun _ _ _ h => h) (Or.inl ⟨by rfl, ?_⟩) (by assumption) ?_
      rotate_left 1
      · intro w hSw; (try dsimp only at hSw); first | (go_simp; done) | (go_simp; with_reducible rfl)
      try simp only [Act.put, List.setIfInBounds_toArray, List.set_cons_zero, List.set_cons_succ]
      refine wpAnyH_take (i := 20) (oi := ({ dst := some 36, op := Go.Op.move (Go.Operand.tmp 0), type := 126, pos := "same.go:17", after := #[{ on := 19, ground := Go.Ground.guard }], guard := some (19, true) } : Go.Oper)) (v := undef) rfl (by kernel_rfl) (by kernel_rfl) (by kernel_rfl) (fun _ _ _ h => h) (Or.inr ⟨by rfl, rfl⟩) (by assumption) ?_
      try simp only [Act.put, List.setIfInBounds_toArray, List.set_cons_zero, List.set_cons_succ]
      refine wpAnyH_take (i := 21) (oi := ({ dst := some 37, op := Go.Op.move (Go.Operand.tmp 1), type := 24, pos := "same.go:17", after := #[{ on := 19, ground := Go.Ground.guard }], guard := some (19, true) } : Go.Oper)) (v := undef) rfl (by kernel_rfl) (by kernel_rfl) (by kernel_rfl) (fun _ _ _ h => h) (Or.inr ⟨by rfl, rfl⟩) (by assumption) ?_
      try simp only [Act.put, List.setIfInBounds_toArray, List.set_cons_zero, List.set_cons_succ]
      refine wpAnyH_take (i := 22) (oi := ({ dst := some 38, op := Go.Op.nilCheck (Go.Operand.tmp 37), type := 0, pos := "same.go:17", after := #[{ on := 21, ground := Go.Ground.data }, { on := 19, ground := Go.Ground.guard }], guard := some (19, true) } : Go.Oper)) (v := undef) rfl (by kernel_rfl) (by kernel_rfl) (by kernel_rfl) (fun _ _ _ h => h) (Or.inr ⟨by rfl, rfl⟩) (by assumption) ?_
      try simp only [Act.put, List.setIfInBounds_toArray, List.set_cons_zero, List.set_cons_succ]
      refine wpAnyH_take (i := 23) (oi := ({ dst := some 39, op := Go.Op.fieldAddr 50 (Go.Operand.tmp 38) 2, type := 0, pos := "same.go:17", after := #[{ on := 22, ground := Go.Ground.data }, { on := 19, ground := Go.Ground.guard }], guard := some (19, true) } : Go.Oper)) (v := undef) rfl (by kernel_rfl) (by kernel_rfl) (by kernel_rfl) (fun _ _ _ h => h) (Or.inr ⟨by rfl, rfl⟩) (by assumption) ?_
      try simp only [Act.put, List.setIfInBounds_toArray, List.set_cons_zero, List.set_cons_succ]
      refine wpAnyH_take (i := 24) (oi := ({ dst := some 40, op := Go.Op.load 24 (Go.Operand.tmp 39), type := 24, pos := "same.go:17", after := #[{ on := 23, ground := Go.Ground.data }, { on := 19, ground := Go.Ground.guard }], guard := some (19, true) } : Go.Oper)) (v := undef) rfl (by kernel_rfl) (by kernel_rfl) (by kernel_rfl) (fun _ _ _ h => h) (Or.inr ⟨by rfl, rfl⟩) (by assumption) ?_
      try simp only [Act.put, List.setIfInBounds_toArray, List.set_cons_zero, List.set_cons_succ]
      refine wpAnyH_take (i := 25) (oi := ({ dst := some 41, op := Go.Op.move (Go.Operand.tmp 2), type := 24, pos := "same.go:17", after := #[{ on := 19, ground := Go.Ground.guard }], guard := some (19, true) } : Go.Oper)) (v := undef) rfl (by kernel_rfl) (by kernel_rfl) (by kernel_rfl) (fun _ _ _ h => h) (Or.inr ⟨by rfl, rfl⟩) (by assumption) ?_
      try simp only [Act.put, List.setIfInBounds_toArray, List.set_cons_zero, List.set_cons_succ]
      refine wpAnyH_take (i := 26) (oi := ({ dst := some 42, op := Go.Op.nilCheck (Go.Operand.tmp 41), type := 0, pos := "same.go:17", after := #[{ on := 25, ground := Go.Ground.data }, { on := 19, ground := Go.Ground.guard }], guard := some (19, true) } : Go.Oper)) (v := undef) rfl (by kernel_rfl) (by kernel_rfl) (by kernel_rfl) (fun _ _ _ h => h) (Or.inr ⟨by rfl, rfl⟩) (by assumption) ?_
      try simp only [Act.put, List.setIfInBounds_toArray, List.set_cons_zero, List.set_cons_succ]
      refine wpAnyH_take (i := 27) (oi := ({ dst := some 43, op := Go.Op.fieldAddr 50 (Go.Operand.tmp 42) 2, type := 0, pos := "same.go:17", after := #[{ on := 26, ground := Go.Ground.data }, { on := 19, ground := Go.Ground.guard }], guard := some (19, true) } : Go.Oper)) (v := undef) rfl (by kernel_rfl) (by kernel_rfl) (by kernel_rfl) (fun _ _ _ h => h) (Or.inr ⟨by rfl, rfl⟩) (by assumption) ?_
      try simp only [Act.put, List.setIfInBounds_toArray, List.set_cons_zero, List.set_cons_succ]
      refine wpAnyH_take (i := 28) (oi := ({ dst := some 44, op := Go.Op.load 24 (Go.Operand.tmp 43), type := 24, pos := "same.go:17", after := #[{ on := 27, ground := Go.Ground.data }, { on := 19, ground := Go.Ground.guard }], guard := some (19, true) } : Go.Oper)) (v := undef) rfl (by kernel_rfl) (by kernel_rfl) (by kernel_rfl) (fun _ _ _ h => h) (Or.inr ⟨by rfl, rfl⟩) (by assumption) ?_
      try simp only [Act.put, List.setIfInBounds_toArray, List.set_cons_zero, List.set_cons_succ]
      refine wpAnyH_take (i := 29) (oi := ({ dst := some 45, op := Go.Op.call { callee := Go.Callee.value (Go.Operand.func 47), args := #[Go.Operand.tmp 36, Go.Operand.tmp 40, Go.Operand.tmp 44], argTypes := #[126, 24, 24] }, type := 4, pos := "same.go:17", after := #[{ on := 20, ground := Go.Ground.data }, { on := 24, ground := Go.Ground.data }, { on := 28, ground := Go.Ground.data }, { on := 19, ground := Go.Ground.chain }, { on := 19, ground := Go.Ground.guard }], guard := some (19, true) } : Go.Oper)) (v := undef) rfl (by kernel_rfl) (by kernel_rfl) (by kernel_rfl) (fun _ _ _ h => h) (Or.inr ⟨by rfl, rfl⟩) (by assumption) ?_
      try simp only [Act.put, List.setIfInBounds_toArray, List.set_cons_zero, List.set_cons_succ]
      refine wpAnyH_take (i := 30) (oi := ({ dst := some 46, op := Go.Op.pick (Go.Operand.tmp 35) (Go.Operand.tmp 45) (Go.Operand.const (Go.Value.bool false)), type := 4, pos := "same.go:17", after := #[{ on := 19, ground := Go.Ground.data }, { on := 29, ground := Go.Ground.data }], guard := none } : Go.Oper)) (v := ?_) rfl (by kernel_rfl) (by kernel_rfl) (by kernel_rfl) (fun _ _ _ h => h) (Or.inl ⟨by rfl, ?_⟩) (by assumption) ?_
      rotate_left 1
      · intro w hSw; (try dsimp only at hSw); first | (go_simp; done) | (go_simp; with_reducible rfl)
      try simp only [Act.put, List.setIfInBounds_toArray, List.set_cons_zero, List.set_cons_succ]
      refine wpAnyH_take (i := 31) (oi := ({ dst := some 6, op := Go.Op.assign (Go.Operand.tmp 46), type := 4, pos := "same.go:17", after := #[{ on := 30, ground := Go.Ground.data }, { on := 29, ground := Go.Ground.chain }, { on := 0, ground := Go.Ground.phase }, { on := 1, ground := Go.Ground.phase }, { on := 2, ground := Go.Ground.phase }, { on := 3, ground := Go.Ground.phase }, { on := 4, ground := Go.Ground.phase }, { on := 5, ground := Go.Ground.phase }, { on := 6, ground := Go.Ground.phase }, { on := 7, ground := Go.Ground.phase }, { on := 8, ground := Go.Ground.phase }, { on := 9, ground := Go.Ground.phase }, { on := 10, ground := Go.Ground.phase }, { on := 11, ground := Go.Ground.phase }, { on := 12, ground := Go.Ground.phase }, { on := 13, ground := Go.Ground.phase }, { on := 14, ground := Go.Ground.phase }, { on := 15, ground := Go.Ground.phase }, { on := 16, ground := Go.Ground.phase }, { on := 17, ground := Go.Ground.phase }, { on := 18, ground := Go.Ground.phase }, { on := 19, ground := Go.Ground.phase }, { on := 20, ground := Go.Ground.phase }, { on := 21, ground := Go.Ground.phase }, { on := 22, ground := Go.Ground.phase }, { on := 23, ground := Go.Ground.phase }, { on := 24, ground := Go.Ground.phase }, { on := 25, ground := Go.Ground.phase }, { on := 26, ground := Go.Ground.phase }, { on := 27, ground := Go.Ground.phase }, { on := 28, ground := Go.Ground.phase }, { on := 29, ground := Go.Ground.phase }, { on := 30, ground := Go.Ground.phase }], guard := none } : Go.Oper)) (v := ?_) rfl (by kernel_rfl) (by kernel_rfl) (by kernel_rfl) (fun _ _ _ h => h) (Or.inl ⟨by rfl, ?_⟩) (by assumption) ?_
      rotate_left 1
      · intro w hSw; (try dsimp only at hSw); first | (go_simp; done) | (go_simp; with_reducible rfl)
      try simp only [Act.put, List.setIfInBounds_toArray, List.set_cons_zero, List.set_cons_succ]
      refine wpAnyH_done (by kernel_rfl) ?_ _
      go_wp2_with fail
      go_ret
      exact HEND.out none _ _ HV2.out rfl HF2.out (fun m h => by cases h)
    | true =>
      cases hsl : sameC l l2 n with
      | none =>
        have HV2 : Hid (sameC (.node k l r col op vals) (.node k2 l2 r2 col2 op2 vals2) (n + 1) = none) := Lib.hid (by rw [HU.out, hnb, hsl]; rfl)
        have HSX := Lib.hid hsl
        clear hsl
        refine wp_region_held_drew (S := fun w' => w'.cell? ⟨g, o + 1, none⟩ = some (.pointer pl) ∧ w'.cell? ⟨g, o + 2, none⟩ = some (.pointer pr) ∧ w'.cell? ⟨g2, o2 + 1, none⟩ = some (.pointer ql) ∧ w'.cell? ⟨g2, o2 + 2, none⟩ = some (.pointer qr)) (by kernel_rfl) (HSD.out) (fun hHeld => ?_)
        refine wpAnyH_take (i := 0) (oi := ({ dst := some 16, op := Go.Op.move (Go.Operand.tmp 0), type := 126, pos := "same.go:17", after := #[], guard := none } : Go.Oper)) (v := ?_) rfl (by kernel_rfl) (by kernel_rfl) (by kernel_rfl) (fun _ _ _ h => h) (Or.inl ⟨by rfl, ?_⟩) (by assumption) ?_
        rotate_left 1
        · intro w hSw; (try dsimp only at hSw); first | (go_simp; done) | (go_simp; with_reducible rfl)
        try simp only [Act.put, List.setIfInBounds_toArray, List.set_cons_zero, List.set_cons_succ]
        refine wpAnyH_ready (rs := [1]) (by kernel_rfl) (by simp) ?_
        refine AllReadyH.cons (o := ({ dst := some 17, op := Go.Op.call { callee := Go.Callee.value (Go.Operand.func 94), args := #[Go.Operand.tmp 16], argTypes := #[126] }, type := 4, pos := "same.go:17", after := #[{ on := 0, ground := Go.Ground.data }], guard := none } : Go.Oper)) rfl (fun K hK => ?_) AllReadyH.nil
        go_simp
        (go_at_call 94; (with_reducible refine HONE.out.mono ?_); rintro e w1 ⟨rfl, f1, hb1⟩; have HF1 := Lib.hid f1; have HB1 := Lib.hid hb1; have HS1 := Lib.hid (HSAT.out w1 f1); have HN1 := Lib.hid (HND.out w1 f1); clear f1 hb1)
        rw [hnb] at HN1
        try (go_wp2_with fail)
        refine hK.out _ _ (HS1.out) (fun hHeld1 => ?_)
        clear hK K
        try simp only [Act.put, List.setIfInBounds_toArray, List.set_cons_zero, List.set_cons_succ]
        refine wpAnyH_take (i := 2) (oi := ({ dst := some 18, op := Go.Op.move (Go.Operand.tmp 17), type := 4, pos := "same.go:17", after := #[{ on := 1, ground := Go.Ground.data }, { on := 1, ground := Go.Ground.chain }], guard := none } : Go.Oper)) (v := ?_) rfl (by kernel_rfl) (by kernel_rfl) (by kernel_rfl) (fun _ _ _ h => h) (Or.inl ⟨by rfl, ?_⟩) (by assumption) ?_
        rotate_left 1
        · intro w hSw; (try dsimp only at hSw); first | (go_simp; done) | (go_simp; with_reducible rfl)
        try simp only [Act.put, List.setIfInBounds_toArray, List.set_cons_zero, List.set_cons_succ]
        refine wpAnyH_take (i := 3) (oi := ({ dst := some 19, op := Go.Op.move (Go.Operand.tmp 1), type := 24, pos := "same.go:17", after := #[{ on := 2, ground := Go.Ground.guard }], guard := some (2, true) } : Go.Oper)) (v := ?_) rfl (by kernel_rfl) (by kernel_rfl) (by kernel_rfl) (fun _ _ _ h => h) (Or.inl ⟨by rfl, ?_⟩) (by assumption) ?_
        rotate_left 1
        · intro w hSw; (try dsimp only at hSw); first | (go_simp; done) | (go_simp; with_reducible rfl)
        try simp only [Act.put, List.setIfInBounds_toArray, List.set_cons_zero, List.set_cons_succ]
        refine wpAnyH_take (i := 4) (oi := ({ dst := some 20, op := Go.Op.move (Go.Operand.tmp 2), type := 24, pos := "same.go:17", after := #[{ on := 2, ground := Go.Ground.guard }], guard := some (2, true) } : Go.Oper)) (v := ?_) rfl (by kernel_rfl) (by kernel_rfl) (by kernel_rfl) (fun _ _ _ h => h) (Or.inl ⟨by rfl, ?_⟩) (by assumption) ?_
        rotate_left 1
        · intro w hSw; (try dsimp only at hSw); first | (go_simp; done) | (go_simp; with_reducible rfl)
        try simp only [Act.put, List.setIfInBounds_toArray, List.set_cons_zero, List.set_cons_succ]
        refine wpAnyH_ready (rs := [5]) (by kernel_rfl) (by simp) ?_
        refine AllReadyH.cons (o := ({ dst := some 21, op := Go.Op.call { callee := Go.Callee.value (Go.Operand.func 107), args := #[Go.Operand.tmp 19, Go.Operand.tmp 20], argTypes := #[24, 24] }, type := 4, pos := "same.go:17", after := #[{ on := 3, ground := Go.Ground.data }, { on := 4, ground := Go.Ground.data }, { on := 2, ground := Go.Ground.chain }, { on := 2, ground := Go.Ground.guard }], guard := some (2, true) } : Go.Oper)) rfl (fun K hK => ?_) AllReadyH.nil
        go_simp
        (go_at_call 107; (with_reducible refine HN1.out.mono ?_); rintro e w2 ⟨rfl, f2⟩; have HF2 := Lib.hid (HF1.out.trans f2.any fun _ _ h => h); have HB2 := Lib.hid (HB1.out.of (f2.block b HB1.out.lt id)); have HS2 := Lib.hid (HSAT.out w2 HF2.out); have HL2 := Lib.hid (HIL.out w2 HF2.out HB2.out); clear f2)
        try (go_wp2_with fail)
        refine hK.out _ _ (HS2.out) (fun hHeld2 => ?_)
        clear hK K
        try simp only [Act.put, List.setIfInBounds_toArray, List.set_cons_zero, List.set_cons_succ]
        refine wpAnyH_take (i := 6) (oi := ({ dst := some 22, op := Go.Op.pick (Go.Operand.tmp 18) (Go.Operand.tmp 21) (Go.Operand.const (Go.Value.bool false)), type := 4, pos := "same.go:17", after := #[{ on := 2, ground := Go.Ground.data }, { on := 5, ground := Go.Ground.data }], guard := none } : Go.Oper)) (v := ?_) rfl (by kernel_rfl) (by kernel_rfl) (by kernel_rfl) (fun _ _ _ h => h) (Or.inl ⟨by rfl, ?_⟩) (by assumption) ?_
        rotate_left 1
        · intro w hSw; (try dsimp only at hSw); first | (go_simp; done) | (go_simp; with_reducible rfl)
        try simp only [Act.put, List.setIfInBounds_toArray, List.set_cons_zero, List.set_cons_succ]
        refine wpAnyH_take (i := 7) (oi := ({ dst := some 23, op := Go.Op.move (Go.Operand.tmp 22), type := 4, pos := "same.go:17", after := #[{ on := 6, ground := Go.Ground.data }, { on := 5, ground := Go.Ground.chain }], guard := none } : Go.Oper)) (v := ?_) rfl (by kernel_rfl) (by kernel_rfl) (by kernel_rfl) (fun _ _ _ h => h) (Or.inl ⟨by rfl, ?_⟩) (by assumption) ?_
        rotate_left 1
        · intro w hSw; (try dsimp only at hSw); first | (go_simp; done) | (go_simp; with_reducible rfl)
        try simp only [Act.put, List.setIfInBounds_toArray, List.set_cons_zero, List.set_cons_succ]
        refine wpAnyH_take (i := 8) (oi := ({ dst := some 24, op := Go.Op.move (Go.Operand.tmp 0), type := 126, pos := "same.go:17", after := #[{ on := 7, ground := Go.Ground.guard }], guard := some (7, true) } : Go.Oper)) (v := ?_) rfl (by kernel_rfl) (by kernel_rfl) (by kernel_rfl) (fun _ _ _ h => h) (Or.inl ⟨by rfl, ?_⟩) (by assumption) ?_
        rotate_left 1
        · intro w hSw; (try dsimp only at hSw); first | (go_simp; done) | (go_simp; with_reducible rfl)
        try simp only [Act.put, List.setIfInBounds_toArray, List.set_cons_zero, List.set_cons_succ]
        refine wpAnyH_take (i := 9) (oi := ({ dst := some 25, op := Go.Op.move (Go.Operand.tmp 1), type := 24, pos := "same.go:17", after := #[{ on := 7, ground := Go.Ground.guard }], guard := some (7, true) } : Go.Oper)) (v := ?_) rfl (by kernel_rfl) (by kernel_rfl) (by kernel_rfl) (fun _ _ _ h => h) (Or.inl ⟨by rfl, ?_⟩) (by assumption) ?_
        rotate_left 1
        · intro w hSw; (try dsimp only at hSw); first | (go_simp; done) | (go_simp; with_reducible rfl)
        try simp only [Act.put, List.setIfInBounds_toArray, List.set_cons_zero, List.set_cons_succ]
        refine wpAnyH_take (i := 10) (oi := ({ dst := some 26, op := Go.Op.nilCheck (Go.Operand.tmp 25), type := 0, pos := "same.go:17", after := #[{ on := 9, ground := Go.Ground.data }, { on := 7, ground := Go.Ground.guard }], guard := some (7, true) } : Go.Oper)) (v := ?_) rfl (by kernel_rfl) (by kernel_rfl) (by kernel_rfl) (fun _ _ _ h => h) (Or.inl ⟨by rfl, ?_⟩) (by assumption) ?_
        rotate_left 1
        · intro w hSw; (try dsimp only at hSw); first | (go_simp; done) | (go_simp; with_reducible rfl)
        try simp only [Act.put, List.setIfInBounds_toArray, List.set_cons_zero, List.set_cons_succ]
        refine wpAnyH_take (i := 11) (oi := ({ dst := some 27, op := Go.Op.fieldAddr 50 (Go.Operand.tmp 26) 1, type := 0, pos := "same.go:17", after := #[{ on := 10, ground := Go.Ground.data }, { on := 7, ground := Go.Ground.guard }], guard := some (7, true) } : Go.Oper)) (v := ?_) rfl (by kernel_rfl) (by kernel_rfl) (by kernel_rfl) (fun _ _ _ h => h) (Or.inl ⟨by rfl, ?_⟩) (by assumption) ?_
        rotate_left 1
        · intro w hSw; (try dsimp only at hSw); first | (go_simp; done) | (go_simp; with_reducible rfl)
        try simp only [Act.put, List.setIfInBounds_toArray, List.set_cons_zero, List.set_cons_succ]
        refine wpAnyH_take (i := 12) (oi := ({ dst := some 28, op := Go.Op.load 24 (Go.Operand.tmp 27), type := 24, pos := "same.go:17", after := #[{ on := 11, ground := Go.Ground.data }, { on := 7, ground := Go.Ground.guard }], guard := some (7, true) } : Go.Oper)) (v := ?_) rfl (by kernel_rfl) (by kernel_rfl) (by kernel_rfl) (fun _ _ _ h => h) (Or.inl ⟨by rfl, ?_⟩) (by assumption) ?_
        rotate_left 1
        · intro w hSw; (try dsimp only at hSw); first | (go_simp; done) | (go_simp; with_reducible rfl)
        try simp only [Act.put, List.setIfInBounds_toArray, List.set_cons_zero, List.set_cons_succ]
        refine wpAnyH_take (i := 13) (oi := ({ dst := some 29, op := Go.Op.move (Go.Operand.tmp 2), type := 24, pos := "same.go:17", after := #[{ on := 7, ground := Go.Ground.guard }], guard := some (7, true) } : Go.Oper)) (v := ?_) rfl (by kernel_rfl) (by kernel_rfl) (by kernel_rfl) (fun _ _ _ h => h) (Or.inl ⟨by rfl, ?_⟩) (by assumption) ?_
        rotate_left 1
        · intro w hSw; (try dsimp only at hSw); first | (go_simp; done) | (go_simp; with_reducible rfl)
        try simp only [Act.put, List.setIfInBounds_toArray, List.set_cons_zero, List.set_cons_succ]
        refine wpAnyH_take (i := 14) (oi := ({ dst := some 30, op := Go.Op.nilCheck (Go.Operand.tmp 29), type := 0, pos := "same.go:17", after := #[{ on := 13, ground := Go.Ground.data }, { on := 7, ground := Go.Ground.guard }], guard := some (7, true) } : Go.Oper)) (v := ?_) rfl (by kernel_rfl) (by kernel_rfl) (by kernel_rfl) (fun _ _ _ h => h) (Or.inl ⟨by rfl, ?_⟩) (by assumption) ?_
        rotate_left 1
        · intro w hSw; (try dsimp only at hSw); first | (go_simp; done) | (go_simp; with_reducible rfl)
        try simp only [Act.put, List.setIfInBounds_toArray, List.set_cons_zero, List.set_cons_succ]
        refine wpAnyH_take (i := 15) (oi := ({ dst := some 31, op := Go.Op.fieldAddr 50 (Go.Operand.tmp 30) 1, type := 0, pos := "same.go:17", after := #[{ on := 14, ground := Go.Ground.data }, { on := 7, ground := Go.Ground.guard }], guard := some (7, true) } : Go.Oper)) (v := ?_) rfl (by kernel_rfl) (by kernel_rfl) (by kernel_rfl) (fun _ _ _ h => h) (Or.inl ⟨by rfl, ?_⟩) (by assumption) ?_
        rotate_left 1
        · intro w hSw; (try dsimp only at hSw); first | (go_simp; done) | (go_simp; with_reducible rfl)
        try simp only [Act.put, List.setIfInBounds_toArray, List.set_cons_zero, List.set_cons_succ]
        refine wpAnyH_take (i := 16) (oi := ({ dst := some 32, op := Go.Op.load 24 (Go.Operand.tmp 31), type := 24, pos := "same.go:17", after := #[{ on := 15, ground := Go.Ground.data }, { on := 7, ground := Go.Ground.guard }], guard := some (7, true) } : Go.Oper)) (v := ?_) rfl (by kernel_rfl) (by kernel_rfl) (by kernel_rfl) (fun _ _ _ h => h) (Or.inl ⟨by rfl, ?_⟩) (by assumption) ?_
        rotate_left 1
        · intro w hSw; (try dsimp only at hSw); first | (go_simp; done) | (go_simp; with_reducible rfl)
        try simp only [Act.put, List.setIfInBounds_toArray, List.set_cons_zero, List.set_cons_succ]
        refine wpAnyH_ready (rs := [17]) (by kernel_rfl) (by simp) ?_
        refine AllReadyH.cons (o := ({ dst := some 33, op := Go.Op.call { callee := Go.Callee.value (Go.Operand.func 47), args := #[Go.Operand.tmp 24, Go.Operand.tmp 28, Go.Operand.tmp 32], argTypes := #[126, 24, 24] }, type := 4, pos := "same.go:17", after := #[{ on := 8, ground := Go.Ground.data }, { on := 12, ground := Go.Ground.data }, { on := 16, ground := Go.Ground.data }, { on := 7, ground := Go.Ground.chain }, { on := 7, ground := Go.Ground.guard }], guard := some (7, true) } : Go.Oper)) rfl (fun K hK => ?_) AllReadyH.nil
        go_simp
        rw [HSX.out] at HL2
        (go_at_call 47; (with_reducible refine HL2.out.mono ?_); rintro e w3 ⟨rfl, f3, hb3⟩; have HF3 := Lib.hid (HF2.out.trans f3 fun _ _ h => h); have HS3 := Lib.hid (HSAT.out w3 HF3.out); have HB3 := Lib.hid hb3; clear f3 hb3)
        try (go_wp2_with fail)
        refine hK.out _ _ (HS3.out) (fun hHeld3 => ?_)
        clear hK K
        try simp only [Act.put, List.setIfInBounds_toArray, List.set_cons_zero, List.set_cons_succ]
        refine wpAnyH_take (i := 18) (oi := ({ dst := some 34, op := Go.Op.pick (Go.Operand.tmp 23) (Go.Operand.tmp 33) (Go.Operand.const (Go.Value.bool false)), type := 4, pos := "same.go:17", after := #[{ on := 7, ground := Go.Ground.data }, { on := 17, ground := Go.Ground.data }], guard := none } : Go.Oper)) (v := ?_) rfl (by kernel_rfl) (by kernel_rfl) (by kernel_rfl) (fun _ _ _ h => h) (Or.inl ⟨by rfl, ?_⟩) (by assumption) ?_
        rotate_left 1
        · intro w hSw; (try dsimp only at hSw); first | (go_simp; done) | (go_simp; with_reducible rfl)
        try simp only [Act.put, List.setIfInBounds_toArray, List.set_cons_zero, List.set_cons_succ]
        refine wpAnyH_take (i := 19) (oi := ({ dst := some 35, op := Go.Op.move (Go.Operand.tmp 34), type := 4, pos := "same.go:17", after := #[{ on := 18, ground := Go.Ground.data }, { on := 17, ground := Go.Ground.chain }], guard := none } : Go.Oper)) (v := ?_) rfl (by kernel_rfl) (by kernel_rfl) (by kernel_rfl) (fun _ _ _ h => h) (Or.inl ⟨by rfl, ?_⟩) (by assumption) ?_
        rotate_left 1
        · intro w hSw; (try dsimp only at hSw); first | (go_simp; done) | (go_simp; with_reducible rfl)
        try simp only [Act.put, List.setIfInBounds_toArray, List.set_cons_zero, List.set_cons_succ]
        refine wpAnyH_take (i := 20) (oi := ({ dst := some 36, op := Go.Op.move (Go.Operand.tmp 0), type := 126, pos := "same.go:17", after := #[{ on := 19, ground := Go.Ground.guard }], guard := some (19, true) } : Go.Oper)) (v := undef) rfl (by kernel_rfl) (by kernel_rfl) (by kernel_rfl) (fun _ _ _ h => h) (Or.inr ⟨by rfl, rfl⟩) (by assumption) ?_
        try simp only [Act.put, List.setIfInBounds_toArray, List.set_cons_zero, List.set_cons_succ]
        refine wpAnyH_take (i := 21) (oi := ({ dst := some 37, op := Go.Op.move (Go.Operand.tmp 1), type := 24, pos := "same.go:17", after := #[{ on := 19, ground := Go.Ground.guard }], guard := some (19, true) } : Go.Oper)) (v := undef) rfl (by kernel_rfl) (by kernel_rfl) (by kernel_rfl) (fun _ _ _ h => h) (Or.inr ⟨by rfl, rfl⟩) (by assumption) ?_
        try simp only [Act.put, List.setIfInBounds_toArray, List.set_cons_zero, List.set_cons_succ]
        refine wpAnyH_take (i := 22) (oi := ({ dst := some 38, op := Go.Op.nilCheck (Go.Operand.tmp 37), type := 0, pos := "same.go:17", after := #[{ on := 21, ground := Go.Ground.data }, { on := 19, ground := Go.Ground.guard }], guard := some (19, true) } : Go.Oper)) (v := undef) rfl (by kernel_rfl) (by kernel_rfl) (by kernel_rfl) (fun _ _ _ h => h) (Or.inr ⟨by rfl, rfl⟩) (by assumption) ?_
        try simp only [Act.put, List.setIfInBounds_toArray, List.set_cons_zero, List.set_cons_succ]
        refine wpAnyH_take (i := 23) (oi := ({ dst := some 39, op := Go.Op.fieldAddr 50 (Go.Operand.tmp 38) 2, type := 0, pos := "same.go:17", after := #[{ on := 22, ground := Go.Ground.data }, { on := 19, ground := Go.Ground.guard }], guard := some (19, true) } : Go.Oper)) (v := undef) rfl (by kernel_rfl) (by kernel_rfl) (by kernel_rfl) (fun _ _ _ h => h) (Or.inr ⟨by rfl, rfl⟩) (by assumption) ?_
        try simp only [Act.put, List.setIfInBounds_toArray, List.set_cons_zero, List.set_cons_succ]
        refine wpAnyH_take (i := 24) (oi := ({ dst := some 40, op := Go.Op.load 24 (Go.Operand.tmp 39), type := 24, pos := "same.go:17", after := #[{ on := 23, ground := Go.Ground.data }, { on := 19, ground := Go.Ground.guard }], guard := some (19, true) } : Go.Oper)) (v := undef) rfl (by kernel_rfl) (by kernel_rfl) (by kernel_rfl) (fun _ _ _ h => h) (Or.inr ⟨by rfl, rfl⟩) (by assumption) ?_
        try simp only [Act.put, List.setIfInBounds_toArray, List.set_cons_zero, List.set_cons_succ]
        refine wpAnyH_take (i := 25) (oi := ({ dst := some 41, op := Go.Op.move (Go.Operand.tmp 2), type := 24, pos := "same.go:17", after := #[{ on := 19, ground := Go.Ground.guard }], guard := some (19, true) } : Go.Oper)) (v := undef) rfl (by kernel_rfl) (by kernel_rfl) (by kernel_rfl) (fun _ _ _ h => h) (Or.inr ⟨by rfl, rfl⟩) (by assumption) ?_
        try simp only [Act.put, List.setIfInBounds_toArray, List.set_cons_zero, List.set_cons_succ]
        refine wpAnyH_take (i := 26) (oi := ({ dst := some 42, op := Go.Op.nilCheck (Go.Operand.tmp 41), type := 0, pos := "same.go:17", after := #[{ on := 25, ground := Go.Ground.data }, { on := 19, ground := Go.Ground.guard }], guard := some (19, true) } : Go.Oper)) (v := undef) rfl (by kernel_rfl) (by kernel_rfl) (by kernel_rfl) (fun _ _ _ h => h) (Or.inr ⟨by rfl, rfl⟩) (by assumption) ?_
        try simp only [Act.put, List.setIfInBounds_toArray, List.set_cons_zero, List.set_cons_succ]
        refine wpAnyH_take (i := 27) (oi := ({ dst := some 43, op := Go.Op.fieldAddr 50 (Go.Operand.tmp 42) 2, type := 0, pos := "same.go:17", after := #[{ on := 26, ground := Go.Ground.data }, { on := 19, ground := Go.Ground.guard }], guard := some (19, true) } : Go.Oper)) (v := undef) rfl (by kernel_rfl) (by kernel_rfl) (by kernel_rfl) (fun _ _ _ h => h) (Or.inr ⟨by rfl, rfl⟩) (by assumption) ?_
        try simp only [Act.put, List.setIfInBounds_toArray, List.set_cons_zero, List.set_cons_succ]
        refine wpAnyH_take (i := 28) (oi := ({ dst := some 44, op := Go.Op.load 24 (Go.Operand.tmp 43), type := 24, pos := "same.go:17", after := #[{ on := 27, ground := Go.Ground.data }, { on := 19, ground := Go.Ground.guard }], guard := some (19, true) } : Go.Oper)) (v := undef) rfl (by kernel_rfl) (by kernel_rfl) (by kernel_rfl) (fun _ _ _ h => h) (Or.inr ⟨by rfl, rfl⟩) (by assumption) ?_
        try simp only [Act.put, List.setIfInBounds_toArray, List.set_cons_zero, List.set_cons_succ]
        refine wpAnyH_take (i := 29) (oi := ({ dst := some 45, op := Go.Op.call { callee := Go.Callee.value (Go.Operand.func 47), args := #[Go.Operand.tmp 36, Go.Operand.tmp 40, Go.Operand.tmp 44], argTypes := #[126, 24, 24] }, type := 4, pos := "same.go:17", after := #[{ on := 20, ground := Go.Ground.data }, { on := 24, ground := Go.Ground.data }, { on := 28, ground := Go.Ground.data }, { on := 19, ground := Go.Ground.chain }, { on := 19, ground := Go.Ground.guard }], guard := some (19, true) } : Go.Oper)) (v := undef) rfl (by kernel_rfl) (by kernel_rfl) (by kernel_rfl) (fun _ _ _ h => h) (Or.inr ⟨by rfl, rfl⟩) (by assumption) ?_
        try simp only [Act.put, List.setIfInBounds_toArray, List.set_cons_zero, List.set_cons_succ]
        refine wpAnyH_take (i := 30) (oi := ({ dst := some 46, op := Go.Op.pick (Go.Operand.tmp 35) (Go.Operand.tmp 45) (Go.Operand.const (Go.Value.bool false)), type := 4, pos := "same.go:17", after := #[{ on := 19, ground := Go.Ground.data }, { on := 29, ground := Go.Ground.data }], guard := none } : Go.Oper)) (v := ?_) rfl (by kernel_rfl) (by kernel_rfl) (by kernel_rfl) (fun _ _ _ h => h) (Or.inl ⟨by rfl, ?_⟩) (by assumption) ?_
        rotate_left 1
        · intro w hSw; (try dsimp only at hSw); first | (go_simp; done) | (go_simp; with_reducible rfl)
        try simp only [Act.put, List.setIfInBounds_toArray, List.set_cons_zero, List.set_cons_succ]
        refine wpAnyH_take (i := 31) (oi := ({ dst := some 6, op := Go.Op.assign (Go.Operand.tmp 46), type := 4, pos := "same.go:17", after := #[{ on := 30, ground := Go.Ground.data }, { on := 29, ground := Go.Ground.chain }, { on := 0, ground := Go.Ground.phase }, { on := 1, ground := Go.Ground.phase }, { on := 2, ground := Go.Ground.phase }, { on := 3, ground := Go.Ground.phase }, { on := 4, ground := Go.Ground.phase }, { on := 5, ground := Go.Ground.phase }, { on := 6, ground := Go.Ground.phase }, { on := 7, ground := Go.Ground.phase }, { on := 8, ground := Go.Ground.phase }, { on := 9, ground := Go.Ground.phase }, { on := 10, ground := Go.Ground.phase }, { on := 11, ground := Go.Ground.phase }, { on := 12, ground := Go.Ground.phase }, { on := 13, ground := Go.Ground.phase }, { on := 14, ground := Go.Ground.phase }, { on := 15, ground := Go.Ground.phase }, { on := 16, ground := Go.Ground.phase }, { on := 17, ground := Go.Ground.phase }, { on := 18, ground := Go.Ground.phase }, { on := 19, ground := Go.Ground.phase }, { on := 20, ground := Go.Ground.phase }, { on := 21, ground := Go.Ground.phase }, { on := 22, ground := Go.Ground.phase }, { on := 23, ground := Go.Ground.phase }, { on := 24, ground := Go.Ground.phase }, { on := 25, ground := Go.Ground.phase }, { on := 26, ground := Go.Ground.phase }, { on := 27, ground := Go.Ground.phase }, { on := 28, ground := Go.Ground.phase }, { on := 29, ground := Go.Ground.phase }, { on := 30, ground := Go.Ground.phase }], guard := none } : Go.Oper)) (v := ?_) rfl (by kernel_rfl) (by kernel_rfl) (by kernel_rfl) (fun _ _ _ h => h) (Or.inl ⟨by rfl, ?_⟩) (by assumption) ?_
        rotate_left 1
        · intro w hSw; (try dsimp only at hSw); first | (go_simp; done) | (go_simp; with_reducible rfl)
        try simp only [Act.put, List.setIfInBounds_toArray, List.set_cons_zero, List.set_cons_succ]
        refine wpAnyH_done (by kernel_rfl) ?_ _
        go_wp2_with fail
        go_ret
        exact HEND.out none _ _ HV2.out rfl HF3.out (fun m h => by cases h)
      | some sm =>
        have HV2 : Hid (sameC (.node k l r col op vals) (.node k2 l2 r2 col2 op2 vals2) (n + 1) = sameC r r2 sm) := Lib.hid (by rw [HU.out, hnb, hsl]; rfl)
        have HSX := Lib.hid hsl
        have HM := Lib.hid (same_le _ _ _ _ hsl)
        clear hsl
        refine wp_region_held_drew (S := fun w' => w'.cell? ⟨g, o + 1, none⟩ = some (.pointer pl) ∧ w'.cell? ⟨g, o + 2, none⟩ = some (.pointer pr) ∧ w'.cell? ⟨g2, o2 + 1, none⟩ = some (.pointer ql) ∧ w'.cell? ⟨g2, o2 + 2, none⟩ = some (.pointer qr)) (by kernel_rfl) (HSD.out) (fun hHeld => ?_)
        refine wpAnyH_take (i := 0) (oi := ({ dst := some 16, op := Go.Op.move (Go.Operand.tmp 0), type := 126, pos := "same.go:17", after := #[], guard := none } : Go.Oper)) (v := ?_) rfl (by kernel_rfl) (by kernel_rfl) (by kernel_rfl) (fun _ _ _ h => h) (Or.inl ⟨by rfl, ?_⟩) (by assumption) ?_
        rotate_left 1
        · intro w hSw; (try dsimp only at hSw); first | (go_simp; done) | (go_simp; with_reducible rfl)
        try simp only [Act.put, List.setIfInBounds_toArray, List.set_cons_zero, List.set_cons_succ]
        refine wpAnyH_ready (rs := [1]) (by kernel_rfl) (by simp) ?_
        refine AllReadyH.cons (o := ({ dst := some 17, op := Go.Op.call { callee := Go.Callee.value (Go.Operand.func 94), args := #[Go.Operand.tmp 16], argTypes := #[126] }, type := 4, pos := "same.go:17", after := #[{ on := 0, ground := Go.Ground.data }], guard := none } : Go.Oper)) rfl (fun K hK => ?_) AllReadyH.nil
        go_simp
        (go_at_call 94; (with_reducible refine HONE.out.mono ?_); rintro e w1 ⟨rfl, f1, hb1⟩; have HF1 := Lib.hid f1; have HB1 := Lib.hid hb1; have HS1 := Lib.hid (HSAT.out w1 f1); have HN1 := Lib.hid (HND.out w1 f1); clear f1 hb1)
        rw [hnb] at HN1
        try (go_wp2_with fail)
        refine hK.out _ _ (HS1.out) (fun hHeld1 => ?_)
        clear hK K
        try simp only [Act.put, List.setIfInBounds_toArray, List.set_cons_zero, List.set_cons_succ]
        refine wpAnyH_take (i := 2) (oi := ({ dst := some 18, op := Go.Op.move (Go.Operand.tmp 17), type := 4, pos := "same.go:17", after := #[{ on := 1, ground := Go.Ground.data }, { on := 1, ground := Go.Ground.chain }], guard := none } : Go.Oper)) (v := ?_) rfl (by kernel_rfl) (by kernel_rfl) (by kernel_rfl) (fun _ _ _ h => h) (Or.inl ⟨by rfl, ?_⟩) (by assumption) ?_
        rotate_left 1
        · intro w hSw; (try dsimp only at hSw); first | (go_simp; done) | (go_simp; with_reducible rfl)
        try simp only [Act.put, List.setIfInBounds_toArray, List.set_cons_zero, List.set_cons_succ]
        refine wpAnyH_take (i := 3) (oi := ({ dst := some 19, op := Go.Op.move (Go.Operand.tmp 1), type := 24, pos := "same.go:17", after := #[{ on := 2, ground := Go.Ground.guard }], guard := some (2, true) } : Go.Oper)) (v := ?_) rfl (by kernel_rfl) (by kernel_rfl) (by kernel_rfl) (fun _ _ _ h => h) (Or.inl ⟨by rfl, ?_⟩) (by assumption) ?_
        rotate_left 1
        · intro w hSw; (try dsimp only at hSw); first | (go_simp; done) | (go_simp; with_reducible rfl)
        try simp only [Act.put, List.setIfInBounds_toArray, List.set_cons_zero, List.set_cons_succ]
        refine wpAnyH_take (i := 4) (oi := ({ dst := some 20, op := Go.Op.move (Go.Operand.tmp 2), type := 24, pos := "same.go:17", after := #[{ on := 2, ground := Go.Ground.guard }], guard := some (2, true) } : Go.Oper)) (v := ?_) rfl (by kernel_rfl) (by kernel_rfl) (by kernel_rfl) (fun _ _ _ h => h) (Or.inl ⟨by rfl, ?_⟩) (by assumption) ?_
        rotate_left 1
        · intro w hSw; (try dsimp only at hSw); first | (go_simp; done) | (go_simp; with_reducible rfl)
        try simp only [Act.put, List.setIfInBounds_toArray, List.set_cons_zero, List.set_cons_succ]
        refine wpAnyH_ready (rs := [5]) (by kernel_rfl) (by simp) ?_
        refine AllReadyH.cons (o := ({ dst := some 21, op := Go.Op.call { callee := Go.Callee.value (Go.Operand.func 107), args := #[Go.Operand.tmp 19, Go.Operand.tmp 20], argTypes := #[24, 24] }, type := 4, pos := "same.go:17", after := #[{ on := 3, ground := Go.Ground.data }, { on := 4, ground := Go.Ground.data }, { on := 2, ground := Go.Ground.chain }, { on := 2, ground := Go.Ground.guard }], guard := some (2, true) } : Go.Oper)) rfl (fun K hK => ?_) AllReadyH.nil
        go_simp
        (go_at_call 107; (with_reducible refine HN1.out.mono ?_); rintro e w2 ⟨rfl, f2⟩; have HF2 := Lib.hid (HF1.out.trans f2.any fun _ _ h => h); have HB2 := Lib.hid (HB1.out.of (f2.block b HB1.out.lt id)); have HS2 := Lib.hid (HSAT.out w2 HF2.out); have HL2 := Lib.hid (HIL.out w2 HF2.out HB2.out); clear f2)
        try (go_wp2_with fail)
        refine hK.out _ _ (HS2.out) (fun hHeld2 => ?_)
        clear hK K
        try simp only [Act.put, List.setIfInBounds_toArray, List.set_cons_zero, List.set_cons_succ]
        refine wpAnyH_take (i := 6) (oi := ({ dst := some 22, op := Go.Op.pick (Go.Operand.tmp 18) (Go.Operand.tmp 21) (Go.Operand.const (Go.Value.bool false)), type := 4, pos := "same.go:17", after := #[{ on := 2, ground := Go.Ground.data }, { on := 5, ground := Go.Ground.data }], guard := none } : Go.Oper)) (v := ?_) rfl (by kernel_rfl) (by kernel_rfl) (by kernel_rfl) (fun _ _ _ h => h) (Or.inl ⟨by rfl, ?_⟩) (by assumption) ?_
        rotate_left 1
        · intro w hSw; (try dsimp only at hSw); first | (go_simp; done) | (go_simp; with_reducible rfl)
        try simp only [Act.put, List.setIfInBounds_toArray, List.set_cons_zero, List.set_cons_succ]
        refine wpAnyH_take (i := 7) (oi := ({ dst := some 23, op := Go.Op.move (Go.Operand.tmp 22), type := 4, pos := "same.go:17", after := #[{ on := 6, ground := Go.Ground.data }, { on := 5, ground := Go.Ground.chain }], guard := none } : Go.Oper)) (v := ?_) rfl (by kernel_rfl) (by kernel_rfl) (by kernel_rfl) (fun _ _ _ h => h) (Or.inl ⟨by rfl, ?_⟩) (by assumption) ?_
        rotate_left 1
        · intro w hSw; (try dsimp only at hSw); first | (go_simp; done) | (go_simp; with_reducible rfl)
        try simp only [Act.put, List.setIfInBounds_toArray, List.set_cons_zero, List.set_cons_succ]
        refine wpAnyH_take (i := 8) (oi := ({ dst := some 24, op := Go.Op.move (Go.Operand.tmp 0), type := 126, pos := "same.go:17", after := #[{ on := 7, ground := Go.Ground.guard }], guard := some (7, true) } : Go.Oper)) (v := ?_) rfl (by kernel_rfl) (by kernel_rfl) (by kernel_rfl) (fun _ _ _ h => h) (Or.inl ⟨by rfl, ?_⟩) (by assumption) ?_
        rotate_left 1
        · intro w hSw; (try dsimp only at hSw); first | (go_simp; done) | (go_simp; with_reducible rfl)
        try simp only [Act.put, List.setIfInBounds_toArray, List.set_cons_zero, List.set_cons_succ]
        refine wpAnyH_take (i := 9) (oi := ({ dst := some 25, op := Go.Op.move (Go.Operand.tmp 1), type := 24, pos := "same.go:17", after := #[{ on := 7, ground := Go.Ground.guard }], guard := some (7, true) } : Go.Oper)) (v := ?_) rfl (by kernel_rfl) (by kernel_rfl) (by kernel_rfl) (fun _ _ _ h => h) (Or.inl ⟨by rfl, ?_⟩) (by assumption) ?_
        rotate_left 1
        · intro w hSw; (try dsimp only at hSw); first | (go_simp; done) | (go_simp; with_reducible rfl)
        try simp only [Act.put, List.setIfInBounds_toArray, List.set_cons_zero, List.set_cons_succ]
        refine wpAnyH_take (i := 10) (oi := ({ dst := some 26, op := Go.Op.nilCheck (Go.Operand.tmp 25), type := 0, pos := "same.go:17", after := #[{ on := 9, ground := Go.Ground.data }, { on := 7, ground := Go.Ground.guard }], guard := some (7, true) } : Go.Oper)) (v := ?_) rfl (by kernel_rfl) (by kernel_rfl) (by kernel_rfl) (fun _ _ _ h => h) (Or.inl ⟨by rfl, ?_⟩) (by assumption) ?_
        rotate_left 1
        · intro w hSw; (try dsimp only at hSw); first | (go_simp; done) | (go_simp; with_reducible rfl)
        try simp only [Act.put, List.setIfInBounds_toArray, List.set_cons_zero, List.set_cons_succ]
        refine wpAnyH_take (i := 11) (oi := ({ dst := some 27, op := Go.Op.fieldAddr 50 (Go.Operand.tmp 26) 1, type := 0, pos := "same.go:17", after := #[{ on := 10, ground := Go.Ground.data }, { on := 7, ground := Go.Ground.guard }], guard := some (7, true) } : Go.Oper)) (v := ?_) rfl (by kernel_rfl) (by kernel_rfl) (by kernel_rfl) (fun _ _ _ h => h) (Or.inl ⟨by rfl, ?_⟩) (by assumption) ?_
        rotate_left 1
        · intro w hSw; (try dsimp only at hSw); first | (go_simp; done) | (go_simp; with_reducible rfl)
        try simp only [Act.put, List.setIfInBounds_toArray, List.set_cons_zero, List.set_cons_succ]
        refine wpAnyH_take (i := 12) (oi := ({ dst := some 28, op := Go.Op.load 24 (Go.Operand.tmp 27), type := 24, pos := "same.go:17", after := #[{ on := 11, ground := Go.Ground.data }, { on := 7, ground := Go.Ground.guard }], guard := some (7, true) } : Go.Oper)) (v := ?_) rfl (by kernel_rfl) (by kernel_rfl) (by kernel_rfl) (fun _ _ _ h => h) (Or.inl ⟨by rfl, ?_⟩) (by assumption) ?_
        rotate_left 1
        · intro w hSw; (try dsimp only at hSw); first | (go_simp; done) | (go_simp; with_reducible rfl)
        try simp only [Act.put, List.setIfInBounds_toArray, List.set_cons_zero, List.set_cons_succ]
        refine wpAnyH_take (i := 13) (oi := ({ dst := some 29, op := Go.Op.move (Go.Operand.tmp 2), type := 24, pos := "same.go:17", after := #[{ on := 7, ground := Go.Ground.guard }], guard := some (7, true) } : Go.Oper)) (v := ?_) rfl (by kernel_rfl) (by kernel_rfl) (by kernel_rfl) (fun _ _ _ h => h) (Or.inl ⟨by rfl, ?_⟩) (by assumption) ?_
        rotate_left 1
        · intro w hSw; (try dsimp only at hSw); first | (go_simp; done) | (go_simp; with_reducible rfl)
        try simp only [Act.put, List.setIfInBounds_toArray, List.set_cons_zero, List.set_cons_succ]
        refine wpAnyH_take (i := 14) (oi := ({ dst := some 30, op := Go.Op.nilCheck (Go.Operand.tmp 29), type := 0, pos := "same.go:17", after := #[{ on := 13, ground := Go.Ground.data }, { on := 7, ground := Go.Ground.guard }], guard := some (7, true) } : Go.Oper)) (v := ?_) rfl (by kernel_rfl) (by kernel_rfl) (by kernel_rfl) (fun _ _ _ h => h) (Or.inl ⟨by rfl, ?_⟩) (by assumption) ?_
        rotate_left 1
        · intro w hSw; (try dsimp only at hSw); first | (go_simp; done) | (go_simp; with_reducible rfl)
        try simp only [Act.put, List.setIfInBounds_toArray, List.set_cons_zero, List.set_cons_succ]
        refine wpAnyH_take (i := 15) (oi := ({ dst := some 31, op := Go.Op.fieldAddr 50 (Go.Operand.tmp 30) 1, type := 0, pos := "same.go:17", after := #[{ on := 14, ground := Go.Ground.data }, { on := 7, ground := Go.Ground.guard }], guard := some (7, true) } : Go.Oper)) (v := ?_) rfl (by kernel_rfl) (by kernel_rfl) (by kernel_rfl) (fun _ _ _ h => h) (Or.inl ⟨by rfl, ?_⟩) (by assumption) ?_
        rotate_left 1
        · intro w hSw; (try dsimp only at hSw); first | (go_simp; done) | (go_simp; with_reducible rfl)
        try simp only [Act.put, List.setIfInBounds_toArray, List.set_cons_zero, List.set_cons_succ]
        refine wpAnyH_take (i := 16) (oi := ({ dst := some 32, op := Go.Op.load 24 (Go.Operand.tmp 31), type := 24, pos := "same.go:17", after := #[{ on := 15, ground := Go.Ground.data }, { on := 7, ground := Go.Ground.guard }], guard := some (7, true) } : Go.Oper)) (v := ?_) rfl (by kernel_rfl) (by kernel_rfl) (by kernel_rfl) (fun _ _ _ h => h) (Or.inl ⟨by rfl, ?_⟩) (by assumption) ?_
        rotate_left 1
        · intro w hSw; (try dsimp only at hSw); first | (go_simp; done) | (go_simp; with_reducible rfl)
        try simp only [Act.put, List.setIfInBounds_toArray, List.set_cons_zero, List.set_cons_succ]
        refine wpAnyH_ready (rs := [17]) (by kernel_rfl) (by simp) ?_
        refine AllReadyH.cons (o := ({ dst := some 33, op := Go.Op.call { callee := Go.Callee.value (Go.Operand.func 47), args := #[Go.Operand.tmp 24, Go.Operand.tmp 28, Go.Operand.tmp 32], argTypes := #[126, 24, 24] }, type := 4, pos := "same.go:17", after := #[{ on := 8, ground := Go.Ground.data }, { on := 12, ground := Go.Ground.data }, { on := 16, ground := Go.Ground.data }, { on := 7, ground := Go.Ground.chain }, { on := 7, ground := Go.Ground.guard }], guard := some (7, true) } : Go.Oper)) rfl (fun K hK => ?_) AllReadyH.nil
        go_simp
        rw [HSX.out] at HL2
        (go_at_call 47; (with_reducible refine HL2.out.mono ?_); rintro e w3 ⟨rfl, f3, hb3⟩; have HF3 := Lib.hid (HF2.out.trans f3 fun _ _ h => h); have HS3 := Lib.hid (HSAT.out w3 HF3.out); have HB3 := Lib.hid hb3; clear f3 hb3)
        have HR3 := Lib.hid (HIR.out w3 sm HM.out HF3.out (HB3.out sm rfl))
        obtain ⟨xr, hxr⟩ : ∃ xr, sameC r r2 sm = xr := ⟨_, rfl⟩
        rw [hxr] at HR3 HV2
        obtain ⟨xb, hxb⟩ : ∃ xb, xr.isSome = xb := ⟨_, rfl⟩
        have HXB := Lib.hid hxb
        clear hxr hxb
        try (go_wp2_with fail)
        refine hK.out _ _ (HS3.out) (fun hHeld3 => ?_)
        clear hK K
        try simp only [Act.put, List.setIfInBounds_toArray, List.set_cons_zero, List.set_cons_succ]
        refine wpAnyH_take (i := 18) (oi := ({ dst := some 34, op := Go.Op.pick (Go.Operand.tmp 23) (Go.Operand.tmp 33) (Go.Operand.const (Go.Value.bool false)), type := 4, pos := "same.go:17", after := #[{ on := 7, ground := Go.Ground.data }, { on := 17, ground := Go.Ground.data }], guard := none } : Go.Oper)) (v := ?_) rfl (by kernel_rfl) (by kernel_rfl) (by kernel_rfl) (fun _ _ _ h => h) (Or.inl ⟨by rfl, ?_⟩) (by assumption) ?_
        rotate_left 1
        · intro w hSw; (try dsimp only at hSw); first | (go_simp; done) | (go_simp; with_reducible rfl)
        try simp only [Act.put, List.setIfInBounds_toArray, List.set_cons_zero, List.set_cons_succ]
        refine wpAnyH_take (i := 19) (oi := ({ dst := some 35, op := Go.Op.move (Go.Operand.tmp 34), type := 4, pos := "same.go:17", after := #[{ on := 18, ground := Go.Ground.data }, { on := 17, ground := Go.Ground.chain }], guard := none } : Go.Oper)) (v := ?_) rfl (by kernel_rfl) (by kernel_rfl) (by kernel_rfl) (fun _ _ _ h => h) (Or.inl ⟨by rfl, ?_⟩) (by assumption) ?_
        rotate_left 1
        · intro w hSw; (try dsimp only at hSw); first | (go_simp; done) | (go_simp; with_reducible rfl)
        try simp only [Act.put, List.setIfInBounds_toArray, List.set_cons_zero, List.set_cons_succ]
        refine wpAnyH_take (i := 20) (oi := ({ dst := some 36, op := Go.Op.move (Go.Operand.tmp 0), type := 126, pos := "same.go:17", after := #[{ on := 19, ground := Go.Ground.guard }], guard := some (19, true) } : Go.Oper)) (v := ?_) rfl (by kernel_rfl) (by kernel_rfl) (by kernel_rfl) (fun _ _ _ h => h) (Or.inl ⟨by rfl, ?_⟩) (by assumption) ?_
        rotate_left 1
        · intro w hSw; (try dsimp only at hSw); first | (go_simp; done) | (go_simp; with_reducible rfl)
        try simp only [Act.put, List.setIfInBounds_toArray, List.set_cons_zero, List.set_cons_succ]
        refine wpAnyH_take (i := 21) (oi := ({ dst := some 37, op := Go.Op.move (Go.Operand.tmp 1), type := 24, pos := "same.go:17", after := #[{ on := 19, ground := Go.Ground.guard }], guard := some (19, true) } : Go.Oper)) (v := ?_) rfl (by kernel_rfl) (by kernel_rfl) (by kernel_rfl) (fun _ _ _ h => h) (Or.inl ⟨by rfl, ?_⟩) (by assumption) ?_
        rotate_left 1
        · intro w hSw; (try dsimp only at hSw); first | (go_simp; done) | (go_simp; with_reducible rfl)
        try simp only [Act.put, List.setIfInBounds_toArray, List.set_cons_zero, List.set_cons_succ]
        refine wpAnyH_take (i := 22) (oi := ({ dst := some 38, op := Go.Op.nilCheck (Go.Operand.tmp 37), type := 0, pos := "same.go:17", after := #[{ on := 21, ground := Go.Ground.data }, { on := 19, ground := Go.Ground.guard }], guard := some (19, true) } : Go.Oper)) (v := ?_) rfl (by kernel_rfl) (by kernel_rfl) (by kernel_rfl) (fun _ _ _ h => h) (Or.inl ⟨by rfl, ?_⟩) (by assumption) ?_
        rotate_left 1
        · intro w hSw; (try dsimp only at hSw); first | (go_simp; done) | (go_simp; with_reducible rfl)
        try simp only [Act.put, List.setIfInBounds_toArray, List.set_cons_zero, List.set_cons_succ]
        refine wpAnyH_take (i := 23) (oi := ({ dst := some 39, op := Go.Op.fieldAddr 50 (Go.Operand.tmp 38) 2, type := 0, pos := "same.go:17", after := #[{ on := 22, ground := Go.Ground.data }, { on := 19, ground := Go.Ground.guard }], guard := some (19, true) } : Go.Oper)) (v := ?_) rfl (by kernel_rfl) (by kernel_rfl) (by kernel_rfl) (fun _ _ _ h => h) (Or.inl ⟨by rfl, ?_⟩) (by assumption) ?_
        rotate_left 1
        · intro w hSw; (try dsimp only at hSw); first | (go_simp; done) | (go_simp; with_reducible rfl)
        try simp only [Act.put, List.setIfInBounds_toArray, List.set_cons_zero, List.set_cons_succ]
        refine wpAnyH_take (i := 24) (oi := ({ dst := some 40, op := Go.Op.load 24 (Go.Operand.tmp 39), type := 24, pos := "same.go:17", after := #[{ on := 23, ground := Go.Ground.data }, { on := 19, ground := Go.Ground.guard }], guard := some (19, true) } : Go.Oper)) (v := ?_) rfl (by kernel_rfl) (by kernel_rfl) (by kernel_rfl) (fun _ _ _ h => h) (Or.inl ⟨by rfl, ?_⟩) (by assumption) ?_
        rotate_left 1
        · intro w hSw; (try dsimp only at hSw); first | (go_simp; done) | (go_simp; with_reducible rfl)
        try simp only [Act.put, List.setIfInBounds_toArray, List.set_cons_zero, List.set_cons_succ]
        refine wpAnyH_take (i := 25) (oi := ({ dst := some 41, op := Go.Op.move (Go.Operand.tmp 2), type := 24, pos := "same.go:17", after := #[{ on := 19, ground := Go.Ground.guard }], guard := some (19, true) } : Go.Oper)) (v := ?_) rfl (by kernel_rfl) (by kernel_rfl) (by kernel_rfl) (fun _ _ _ h => h) (Or.inl ⟨by rfl, ?_⟩) (by assumption) ?_
        rotate_left 1
        · intro w hSw; (try dsimp only at hSw); first | (go_simp; done) | (go_simp; with_reducible rfl)
        try simp only [Act.put, List.setIfInBounds_toArray, List.set_cons_zero, List.set_cons_succ]
        refine wpAnyH_take (i := 26) (oi := ({ dst := some 42, op := Go.Op.nilCheck (Go.Operand.tmp 41), type := 0, pos := "same.go:17", after := #[{ on := 25, ground := Go.Ground.data }, { on := 19, ground := Go.Ground.guard }], guard := some (19, true) } : Go.Oper)) (v := ?_) rfl (by kernel_rfl) (by kernel_rfl) (by kernel_rfl) (fun _ _ _ h => h) (Or.inl ⟨by rfl, ?_⟩) (by assumption) ?_
        rotate_left 1
        · intro w hSw; (try dsimp only at hSw); first | (go_simp; done) | (go_simp; with_reducible rfl)
        try simp only [Act.put, List.setIfInBounds_toArray, List.set_cons_zero, List.set_cons_succ]
        refine wpAnyH_take (i := 27) (oi := ({ dst := some 43, op := Go.Op.fieldAddr 50 (Go.Operand.tmp 42) 2, type := 0, pos := "same.go:17", after := #[{ on := 26, ground := Go.Ground.data }, { on := 19, ground := Go.Ground.guard }], guard := some (19, true) } : Go.Oper)) (v := ?_) rfl (by kernel_rfl) (by kernel_rfl) (by kernel_rfl) (fun _ _ _ h => h) (Or.inl ⟨by rfl, ?_⟩) (by assumption) ?_
        rotate_left 1
        · intro w hSw; (try dsimp only at hSw); first | (go_simp; done) | (go_simp; with_reducible rfl)
        try simp only [Act.put, List.setIfInBounds_toArray, List.set_cons_zero, List.set_cons_succ]
        refine wpAnyH_take (i := 28) (oi := ({ dst := some 44, op := Go.Op.load 24 (Go.Operand.tmp 43), type := 24, pos := "same.go:17", after := #[{ on := 27, ground := Go.Ground.data }, { on := 19, ground := Go.Ground.guard }], guard := some (19, true) } : Go.Oper)) (v := ?_) rfl (by kernel_rfl) (by kernel_rfl) (by kernel_rfl) (fun _ _ _ h => h) (Or.inl ⟨by rfl, ?_⟩) (by assumption) ?_
        rotate_left 1
        · intro w hSw; (try dsimp only at hSw); first | (go_simp; done) | (go_simp; with_reducible rfl)
        try simp only [Act.put, List.setIfInBounds_toArray, List.set_cons_zero, List.set_cons_succ]
        refine wpAnyH_ready (rs := [29]) (by kernel_rfl) (by simp) ?_
        refine AllReadyH.cons (o := ({ dst := some 45, op := Go.Op.call { callee := Go.Callee.value (Go.Operand.func 47), args := #[Go.Operand.tmp 36, Go.Operand.tmp 40, Go.Operand.tmp 44], argTypes := #[126, 24, 24] }, type := 4, pos := "same.go:17", after := #[{ on := 20, ground := Go.Ground.data }, { on := 24, ground := Go.Ground.data }, { on := 28, ground := Go.Ground.data }, { on := 19, ground := Go.Ground.chain }, { on := 19, ground := Go.Ground.guard }], guard := some (19, true) } : Go.Oper)) rfl (fun K hK => ?_) AllReadyH.nil
        go_simp
        (go_at_call 47; (with_reducible refine HR3.out.mono ?_); rintro e w4 ⟨rfl, f4, hb4⟩; have HF4 := Lib.hid (HF3.out.trans f4 fun _ _ h => h); have HS4 := Lib.hid (HSAT.out w4 HF4.out); have HB4 := Lib.hid hb4; clear f4 hb4)
        rw [HXB.out]
        try (go_wp2_with fail)
        refine hK.out _ _ (HS4.out) (fun hHeld4 => ?_)
        clear hK K
        try simp only [Act.put, List.setIfInBounds_toArray, List.set_cons_zero, List.set_cons_succ]
        refine wpAnyH_take (i := 30) (oi := ({ dst := some 46, op := Go.Op.pick (Go.Operand.tmp 35) (Go.Operand.tmp 45) (Go.Operand.const (Go.Value.bool false)), type := 4, pos := "same.go:17", after := #[{ on := 19, ground := Go.Ground.data }, { on := 29, ground := Go.Ground.data }], guard := none } : Go.Oper)) (v := ?_) rfl (by kernel_rfl) (by kernel_rfl) (by kernel_rfl) (fun _ _ _ h => h) (Or.inl ⟨by rfl, ?_⟩) (by assumption) ?_
        rotate_left 1
        · intro w hSw; (try dsimp only at hSw); first | (go_simp; done) | (go_simp; with_reducible rfl)
        try simp only [Act.put, List.setIfInBounds_toArray, List.set_cons_zero, List.set_cons_succ]
        refine wpAnyH_take (i := 31) (oi := ({ dst := some 6, op := Go.Op.assign (Go.Operand.tmp 46), type := 4, pos := "same.go:17", after := #[{ on := 30, ground := Go.Ground.data }, { on := 29, ground := Go.Ground.chain }, { on := 0, ground := Go.Ground.phase }, { on := 1, ground := Go.Ground.phase }, { on := 2, ground := Go.Ground.phase }, { on := 3, ground := Go.Ground.phase }, { on := 4, ground := Go.Ground.phase }, { on := 5, ground := Go.Ground.phase }, { on := 6, ground := Go.Ground.phase }, { on := 7, ground := Go.Ground.phase }, { on := 8, ground := Go.Ground.phase }, { on := 9, ground := Go.Ground.phase }, { on := 10, ground := Go.Ground.phase }, { on := 11, ground := Go.Ground.phase }, { on := 12, ground := Go.Ground.phase }, { on := 13, ground := Go.Ground.phase }, { on := 14, ground := Go.Ground.phase }, { on := 15, ground := Go.Ground.phase }, { on := 16, ground := Go.Ground.phase }, { on := 17, ground := Go.Ground.phase }, { on := 18, ground := Go.Ground.phase }, { on := 19, ground := Go.Ground.phase }, { on := 20, ground := Go.Ground.phase }, { on := 21, ground := Go.Ground.phase }, { on := 22, ground := Go.Ground.phase }, { on := 23, ground := Go.Ground.phase }, { on := 24, ground := Go.Ground.phase }, { on := 25, ground := Go.Ground.phase }, { on := 26, ground := Go.Ground.phase }, { on := 27, ground := Go.Ground.phase }, { on := 28, ground := Go.Ground.phase }, { on := 29, ground := Go.Ground.phase }, { on := 30, ground := Go.Ground.phase }], guard := none } : Go.Oper)) (v := ?_) rfl (by kernel_rfl) (by kernel_rfl) (by kernel_rfl) (fun _ _ _ h => h) (Or.inl ⟨by rfl, ?_⟩) (by assumption) ?_
        rotate_left 1
        · intro w hSw; (try dsimp only at hSw); first | (go_simp; done) | (go_simp; with_reducible rfl)
        try simp only [Act.put, List.setIfInBounds_toArray, List.set_cons_zero, List.set_cons_succ]
        refine wpAnyH_done (by kernel_rfl) ?_ _
        go_wp2_with fail
        go_ret
        exact HEND.out _ _ _ HV2.out (by rw [HXB.out]; rfl) HF4.out HB4.out
end Go.Proofs.YtkcnbmgaeompjaaGreatDoor
/- Whether two queries are the same. -/
namespace Go.Proofs.YtkcnbmgaeompjaaGreatDoor
open Go.RowKit Go.Maps
set_option linter.unusedVariables false

def besideB (q q2 : Qy) : Bool := decide (q.table = q2.table) && q.grouped == q2.grouped && decide (q.items = q2.items) && decide (q.groups = q2.groups)
def sameQ (q q2 : Qy) : Bool := besideB q q2 && (sameC q.cond q2.cond 4096).isSome
/-- A query's value, taken apart. -/
structure QV (K : Nat → Prop) (w : World) (q : Qy) (A1 : Option Addr) (c1 : Nat) (px : Option Addr) (A2 : Option Addr) (c2 : Nat) : Prop where
  items : RowE K w 2 (itG K w) (.slice A1 q.items.length c1) q.items
  groups : RowE K w 3 (gpG K w) (.slice A2 q.groups.length c2) q.groups
def qyV (q : Qy) (A1 : Option Addr) (c1 : Nat) (px : Option Addr) (A2 : Option Addr) (c2 : Nat) : Value := .agg #[.slice A1 q.items.length c1, sv q.table, .pointer px, .bool q.grouped, .slice A2 q.groups.length c2]
set_option maxRecDepth 100000 in
set_option maxHeartbeats 4000000 in
theorem beside_any {K K2 : Nat → Prop} (q q2 : Qy) {A1 px A2 B1 px2 B2 : Option Addr} {c1 c2 d1 d2 : Nat} (w : World) (h : QV K w q A1 c1 px A2 c2) (h2 : QV K2 w q2 B1 d1 px2 B2 d2) : Calls Tryz.prog 46 #[qyV q A1 c1 px A2 c2, qyV q2 B1 d1 px2 B2 d2] w (TellsB (besideB q q2) w) := by
  unfold qyV
  obtain ⟨w1, hw1⟩ : ∃ w1, w.alloc (.cells #[.slice A1 q.items.length c1, sv q.table, .pointer px, .bool q.grouped, .slice A2 q.groups.length c2] 27) = w1 := ⟨_, rfl⟩
  obtain ⟨z, hz⟩ : ∃ z, w.heap.size = z := ⟨_, rfl⟩
  have f1 : Fr No w w1 := by rw [← hw1]; exact (Fr.refl No w).alloc _
  have hb1 : Blk w1 z 27 #[.slice A1 q.items.length c1, sv q.table, .pointer px, .bool q.grouped, .slice A2 q.groups.length c2] := by rw [← hw1, ← hz]; exact Blk.new w 27 _
  have hs1 : w1.heap.size = z + 1 := by rw [← hw1, ← hz]; simp
  obtain ⟨w2, hw2⟩ : ∃ w2, w1.alloc (.cells #[.slice B1 q2.items.length d1, sv q2.table, .pointer px2, .bool q2.grouped, .slice B2 q2.groups.length d2] 27) = w2 := ⟨_, rfl⟩
  have f2 : Fr No w1 w2 := by rw [← hw2]; exact (Fr.refl No w1).alloc _
  have hb2 : Blk w2 (z + 1) 27 #[.slice B1 q2.items.length d1, sv q2.table, .pointer px2, .bool q2.grouped, .slice B2 q2.groups.length d2] := by rw [← hw2, ← hs1]; exact Blk.new w1 27 _
  have hb12 := hb1.of (f2.block z hb1.lt id)
  have f12 := f1.trans f2 fun _ _ h => h
  have HB1 := Lib.hid hb12
  have HB2 := Lib.hid hb2
  have H12 := Lib.hid f12
  have HC1 := Lib.hid (eq104_any w2 (h.items.at_ itG_elem f12) (h2.items.at_ itG_elem f12))
  have HC2 : Hid (∀ w3, Fr No w w3 → Calls Tryz.prog 105 #[.slice A2 q.groups.length c2, .slice B2 q2.groups.length d2, .func (.func 106) #[] #[]] w3 (TellsB (decide (q.groups = q2.groups)) w3)) := Lib.hid fun w3 f3 => eq105_any w3 (h.groups.at_ gpG_elem f3) (h2.groups.at_ gpG_elem f3)
  have HW1 := Lib.hid hw1
  have HW2 := Lib.hid hw2
  have HZ := Lib.hid hz
  have HEND : Hid (∀ (bb : Bool) e w2, besideB q q2 = bb → e = .returned (.bool bb) → Fr No w w2 → TellsB (besideB q q2) w e w2) := Lib.hid fun bb e w2 h1 h2 h3 => ⟨by rw [h2, h1], h3⟩
  have s1 : w2.cell? ⟨z, 1, none⟩ = some (sv q.table) := hb12.cell 1
  have s3 : w2.cell? ⟨z, 3, none⟩ = some (.bool q.grouped) := hb12.cell 3
  have s0 : w2.cell? ⟨z, 0, none⟩ = some (.slice A1 q.items.length c1) := hb12.cell 0
  have t1 : w2.cell? ⟨z + 1, 1, none⟩ = some (sv q2.table) := hb2.cell 1
  have t3 : w2.cell? ⟨z + 1, 3, none⟩ = some (.bool q2.grouped) := hb2.cell 3
  have t0 : w2.cell? ⟨z + 1, 0, none⟩ = some (.slice B1 q2.items.length d1) := hb2.cell 0
  clear hw1 hz f1 hb1 hs1 hw2 f2 hb2 hb12 f12 h h2
  go_enter Tryz.func46, Tryz.ntmps46
  go_upto_region 1 with fail
  rw [HZ.out, HW1.out, HW2.out]
  by_cases e1 : q.table = q2.table
  · have b1 : (q.table == q2.table) = true := by simpa using e1
    by_cases e2 : q.grouped = q2.grouped
    · have b2 : (q.grouped == q2.grouped) = true := by simpa using e2
      have HV0 : Hid (besideB q q2 = (decide (q.items = q2.items) && decide (q.groups = q2.groups))) := Lib.hid (by unfold besideB; rw [decide_eq_true e1, b2]; simp)
      clear e1 e2
      go_wp2_with fail
      refine HC1.out.mono ?_
      rintro e w3 ⟨rfl, f3⟩
      have HF3 := Lib.hid (H12.out.trans f3 fun _ _ h => h)
      have hb3 := HB1.out.of (f3.block z HB1.out.lt id)
      have hb4 := HB2.out.of (f3.block (z + 1) HB2.out.lt id)
      have s4 : w3.cell? ⟨z, 4, none⟩ = some (.slice A2 q.groups.length c2) := hb3.cell 4
      have t4 : w3.cell? ⟨z + 1, 4, none⟩ = some (.slice B2 q2.groups.length d2) := hb4.cell 4
      clear f3 hb3 hb4 s0 s1 s3 t0 t1 t3
      by_cases hc : q.items = q2.items
      · have HD : Hid (besideB q q2 = decide (q.groups = q2.groups)) := Lib.hid (by rw [HV0.out, decide_eq_true hc, Bool.true_and])
        rw [decide_eq_true hc]
        clear hc
        go_wp2_with fail
        refine (HC2.out w3 HF3.out).mono ?_
        rintro e w4 ⟨rfl, f4⟩
        have HF4 := Lib.hid (HF3.out.trans f4 fun _ _ h => h)
        clear f4
        go_wp2_with fail
        go_ret
        exact HEND.out _ _ _ HD.out rfl HF4.out
      · have HD : Hid (besideB q q2 = false) := Lib.hid (by rw [HV0.out, decide_eq_false hc, Bool.false_and])
        rw [decide_eq_false hc]
        clear hc
        go_wp2_with fail
        go_ret
        exact HEND.out _ _ _ HD.out rfl HF3.out
    · have b2 : (q.grouped == q2.grouped) = false := by simpa using e2
      have HD : Hid (besideB q q2 = false) := Lib.hid (by unfold besideB; rw [b2]; simp)
      clear e1 e2
      go_wp2_with fail
      go_ret
      exact HEND.out _ _ _ HD.out rfl H12.out
  · have b1 : (q.table == q2.table) = false := by simpa using e1
    have HD : Hid (besideB q q2 = false) := Lib.hid (by unfold besideB; rw [decide_eq_false e1]; simp)
    clear e1
    go_wp2_with fail
    go_ret
    exact HEND.out _ _ _ HD.out rfl H12.out
theorem QyTo.qv {d : Nat} {K : Nat → Prop} {w : World} {q : Qy} {v : Value} (h : QyTo d K w q v) : ∃ A1 c1 px A2 c2, v = qyV q A1 c1 px A2 c2 ∧ QV K w q A1 c1 px A2 c2 ∧ CdTo K w d q.cond (.pointer px) := by
  obtain ⟨a, C, G, rfl, hit, htl, hcd, hgr⟩ := h
  obtain ⟨A1, c1, rfl⟩ : ∃ A1 c1, a = .slice A1 q.items.length c1 := by obtain ⟨A1, c1, e, _⟩ := hit; exact ⟨_, _, e⟩
  obtain ⟨A2, c2, rfl⟩ : ∃ A2 c2, G = .slice A2 q.groups.length c2 := by obtain ⟨A2, c2, e, _⟩ := hgr; exact ⟨_, _, e⟩
  obtain ⟨px, rfl⟩ := hcd.p
  exact ⟨A1, c1, px, A2, c2, rfl, ⟨hit, hgr⟩, hcd⟩
set_option maxRecDepth 100000 in
set_option maxHeartbeats 4000000 in
theorem same_query {d : Nat} (hd : 4096 ≤ d) {K K2 : Nat → Prop} (q q2 : Qy) {v v2 : Value} (w : World) (h : QyTo d K w q v) (h2 : QyTo d K2 w q2 v2) : Calls Tryz.prog 20 #[v, v2] w (TellsB (sameQ q q2) w) := by
  obtain ⟨A1, c1, px, A2, c2, rfl, hv, hc⟩ := h.qv
  obtain ⟨B1, d1, px2, B2, d2, rfl, hv2, hc2⟩ := h2.qv
  clear h h2
  unfold qyV
  obtain ⟨w1, hw1⟩ : ∃ w1, w.alloc (.cells #[.slice A1 q.items.length c1, sv q.table, .pointer px, .bool q.grouped, .slice A2 q.groups.length c2] 27) = w1 := ⟨_, rfl⟩
  obtain ⟨z, hz⟩ : ∃ z, w.heap.size = z := ⟨_, rfl⟩
  have f1 : Fr No w w1 := by rw [← hw1]; exact (Fr.refl No w).alloc _
  have hb1 : Blk w1 z 27 #[.slice A1 q.items.length c1, sv q.table, .pointer px, .bool q.grouped, .slice A2 q.groups.length c2] := by rw [← hw1, ← hz]; exact Blk.new w 27 _
  have hs1 : w1.heap.size = z + 1 := by rw [← hw1, ← hz]; simp
  obtain ⟨w2, hw2⟩ : ∃ w2, w1.alloc (.cells #[.slice B1 q2.items.length d1, sv q2.table, .pointer px2, .bool q2.grouped, .slice B2 q2.groups.length d2] 27) = w2 := ⟨_, rfl⟩
  have f2 : Fr No w1 w2 := by rw [← hw2]; exact (Fr.refl No w1).alloc _
  have hb2 : Blk w2 (z + 1) 27 #[.slice B1 q2.items.length d1, sv q2.table, .pointer px2, .bool q2.grouped, .slice B2 q2.groups.length d2] := by rw [← hw2, ← hs1]; exact Blk.new w1 27 _
  have hs2 : w2.heap.size = z + 2 := by rw [← hw2]; simp [hs1]
  obtain ⟨w3, hw3⟩ : ∃ w3, w2.alloc (.cells #[.int .i64 4096] 77) = w3 := ⟨_, rfl⟩
  have f3 : Fr No w2 w3 := by rw [← hw3]; exact (Fr.refl No w2).alloc _
  have hb3 : Blk w3 (z + 2) 77 #[.int .i64 4096] := by rw [← hw3, ← hs2]; exact Blk.new w2 77 _
  have f13 := (f1.trans f2 fun _ _ h => h).trans f3 fun _ _ h => h
  have f23 := f2.trans f3 fun _ _ h => h
  have HAT : Hid (∀ w', Fr No w3 w' → Fr No w w' ∧ Blk w' z 27 #[.slice A1 q.items.length c1, sv q.table, .pointer px, .bool q.grouped, .slice A2 q.groups.length c2] ∧ Blk w' (z + 1) 27 #[.slice B1 q2.items.length d1, sv q2.table, .pointer px2, .bool q2.grouped, .slice B2 q2.groups.length d2] ∧ Blk w' (z + 2) 77 #[.int .i64 4096] ∧ CdTo (fun k => K k ∧ k < z) w' d q.cond (.pointer px) ∧ CdTo (fun k => K2 k ∧ k < z) w' d q2.cond (.pointer px2)) := Lib.hid fun w' f' => by
    have fw := f13.trans f' fun _ _ h => h
    exact ⟨fw, hb1.of ((f23.trans f' fun _ _ h => h).block z hb1.lt id), hb2.of ((f3.trans f' fun _ _ h => h).block _ hb2.lt id), hb3.of (f'.block _ hb3.lt id), hc.mono fun k hk hkl => ⟨⟨hk, by omega⟩, fw.block k hkl id⟩, hc2.mono fun k hk hkl => ⟨⟨hk, by omega⟩, fw.block k hkl id⟩⟩
  have HBS := Lib.hid (beside_any (px := px) (px2 := px2) q q2 w3 ⟨hv.items.at_ itG_elem f13, hv.groups.at_ gpG_elem f13⟩ ⟨hv2.items.at_ itG_elem f13, hv2.groups.at_ gpG_elem f13⟩)
  unfold qyV at HBS
  have H0 := Lib.hid (HAT.out w3 (Fr.refl _ _))
  have s0 : w3.cell? ⟨z, 0, none⟩ = some (.slice A1 q.items.length c1) := H0.out.2.1.cell 0
  have s1 : w3.cell? ⟨z, 1, none⟩ = some (sv q.table) := H0.out.2.1.cell 1
  have s2 : w3.cell? ⟨z, 2, none⟩ = some (.pointer px) := H0.out.2.1.cell 2
  have s3 : w3.cell? ⟨z, 3, none⟩ = some (.bool q.grouped) := H0.out.2.1.cell 3
  have s4 : w3.cell? ⟨z, 4, none⟩ = some (.slice A2 q.groups.length c2) := H0.out.2.1.cell 4
  have t0 : w3.cell? ⟨z + 1, 0, none⟩ = some (.slice B1 q2.items.length d1) := H0.out.2.2.1.cell 0
  have t1 : w3.cell? ⟨z + 1, 1, none⟩ = some (sv q2.table) := H0.out.2.2.1.cell 1
  have t2 : w3.cell? ⟨z + 1, 2, none⟩ = some (.pointer px2) := H0.out.2.2.1.cell 2
  have t3 : w3.cell? ⟨z + 1, 3, none⟩ = some (.bool q2.grouped) := H0.out.2.2.1.cell 3
  have t4 : w3.cell? ⟨z + 1, 4, none⟩ = some (.slice B2 q2.groups.length d2) := H0.out.2.2.1.cell 4
  have HEND : Hid (∀ (bb : Bool) e w2, sameQ q q2 = bb → e = .returned (.bool bb) → Fr No w w2 → TellsB (sameQ q q2) w e w2) := Lib.hid fun bb e w2 h1 h2 h3 => ⟨by rw [h2, h1], h3⟩
  have HW1 := Lib.hid hw1
  have HW2 := Lib.hid hw2
  have HW3 := Lib.hid hw3
  have HZ := Lib.hid hz
  have HS2 := Lib.hid hs2
  clear hw1 hz f1 hb1 hs1 hw2 f2 hb2 hs2 hw3 f3 hb3 f13 f23 hv hv2 hc hc2
  go_enter Tryz.func20, Tryz.ntmps20
  go_upto_region 1 with fail
  rw [HZ.out, HW1.out, HW2.out]
  go_upto_region 2 with fail
  rw [HS2.out, HW3.out]
  go_wp2_with fail
  refine HBS.out.mono ?_
  rintro e w4 ⟨rfl, f4⟩
  have H4 := Lib.hid (HAT.out w4 f4)
  have u2 : w4.cell? ⟨z, 2, none⟩ = some (.pointer px) := H4.out.2.1.cell 2
  have v2 : w4.cell? ⟨z + 1, 2, none⟩ = some (.pointer px2) := H4.out.2.2.1.cell 2
  clear f4 s0 s1 s2 s3 s4 t0 t1 t2 t3 t4
  cases hbs : besideB q q2 with
  | false =>
    have HD : Hid (sameQ q q2 = false) := Lib.hid (by unfold sameQ; rw [hbs]; rfl)
    go_wp2_with fail
    go_ret
    exact HEND.out _ _ _ HD.out rfl H4.out.1
  | true =>
    have HD : Hid (sameQ q q2 = (sameC q.cond q2.cond 4096).isSome) := Lib.hid (by unfold sameQ; rw [hbs]; rfl)
    have HC := Lib.hid (same_any (fun k => K k ∧ k < z) (fun k => K2 k ∧ k < z) (z + 2) (fun k hk => by omega) (fun k hk => by omega) d q.cond q2.cond _ _ w4 4096 hd H4.out.2.2.2.2.1 H4.out.2.2.2.2.2 H4.out.2.2.2.1 (by omega))
    clear hbs
    go_wp2_with fail
    refine HC.out.mono ?_
    rintro e w5 ⟨rfl, f5, -⟩
    have HF5 : Hid (Fr No w w5) := Lib.hid ((H4.out.1.any.trans f5 fun _ _ h => h).notnew fun k hk => by have := HZ.out; rw [show k = z + 2 from hk]; omega)
    clear f5
    go_wp2_with fail
    go_ret
    exact HEND.out _ _ _ HD.out rfl HF5.out
end Go.Proofs.YtkcnbmgaeompjaaGreatDoor
