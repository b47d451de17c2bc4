/- The document's Show: comparisons, INs; all conditions. -/
import Derived.Test.YtkcnbmgaeompjaaGreatDoorY8
import Derived.Test.YtkcnbmgaeompjaaGreatDoorP14
namespace Go.Proofs.YtkcnbmgaeompjaaGreatDoor
open Go.RowKit Go.Maps Go.Sort
set_option linter.unusedVariables false

def sixS : List Tx := [[61], [60, 62], [60], [60, 61], [62], [62, 61]]
theorem six_cell {w : World} {y : Nat} (hb : Blk w y 9 #[sv [61], sv [60, 62], sv [60], sv [60, 61], sv [62], sv [62, 61]]) (m : Nat) (hm : m < 6) : w.cell? ⟨y, m, none⟩ = some (sv (sixS.getD m [])) := by
  rw [hb.cell m]
  match m, hm with
  | 0, _ => rfl
  | 1, _ => rfl
  | 2, _ => rfl
  | 3, _ => rfl
  | 4, _ => rfl
  | 5, _ => rfl
set_option maxRecDepth 100000 in
set_option maxHeartbeats 16000000 in
theorem dcond_cmp {K : Nat → Prop} {l r : Cd} {col : Tx} {op : Int} {vals : List Vl} {v : Value} {w : World} (ht : testR 4 col op vals = true) (hA : CdAt K w (.node 4 l r col op vals) v) (hp : Pv w) (hlen : (testT 4 col op vals).length ≤ 100000000) :
    Calls Tryz.prog 37 #[v] w (TellsT (testT 4 col op vals) w) := by
  obtain ⟨g, o, L, R, V, rfl, hK, hg, c0, c1, c2, c3, c4, c5, hAl, hAr, hv, hcl, _, _⟩ := hA
  unfold testR at ht
  rw [if_pos rfl] at ht
  simp only [Bool.and_eq_true, decide_eq_true_eq] at ht
  obtain ⟨⟨⟨hnm, ho1⟩, ho2⟩, hrl⟩ := ht
  obtain ⟨hv1, hv2, hv3⟩ := rightL_len hrl
  obtain ⟨x, rfl⟩ : ∃ x, vals = [x] := by
    match vals, hv1, hv2 with
    | [x], _, _ => exact ⟨x, rfl⟩
  have hrx := hv3 x (by simp)
  obtain ⟨A, c, rfl, hlc, hcm, hrow⟩ := hv
  obtain ⟨ga, off, rfl, hKa, hga, hel⟩ := hrow (by simp)
  obtain ⟨cs, hcsl, hcs, hE⟩ := hel 0 (by simp)
  obtain ⟨hE, hxl, hxi⟩ := hE
  have v0 : w.cell? ⟨ga, off, none⟩ = some (.bool x.isText) := by have := hcs 0 (by decide); rw [hE] at this; simpa using this
  have v1 : w.cell? ⟨ga, off + 1, none⟩ = some (sv x.text) := by have := hcs 1 (by decide); rw [hE] at this; simpa using this
  have v2 : w.cell? ⟨ga, off + 2, none⟩ = some (.int .i64 x.int) := by have := hcs 2 (by decide); rw [hE] at this; simpa using this
  have c5 : w.cell? ⟨g, o + 5, none⟩ = some (.slice (some ⟨ga, off, none⟩) 1 c) := c5
  obtain ⟨w2, hw2⟩ : ∃ w2, w.alloc (.cells #[sv [61], sv [60, 62], sv [60], sv [60, 61], sv [62], sv [62, 61]] 9) = w2 := ⟨_, rfl⟩
  obtain ⟨y, hy⟩ : ∃ y, w.heap.size = y := ⟨_, rfl⟩
  have f2 : Fr No w w2 := by rw [← hw2]; exact (Fr.refl No w).alloc _
  have hb2 : Blk w2 y 9 #[sv [61], sv [60, 62], sv [60], sv [60, 61], sv [62], sv [62, 61]] := by rw [← hw2, ← hy]; exact Blk.new w 9 _
  obtain ⟨m, rfl⟩ : ∃ m : Nat, op = (m : Int) + 1 := ⟨(op - 1).toNat, by omega⟩
  have hm6 : m < 6 := by omega
  have gm := six_cell hb2 m hm6
  have hsg : signsT.getD (m + 1) [] = sixS.getD m [] := by
    have : ∀ q, q < 6 → signsT.getD (q + 1) [] = sixS.getD q [] := by decide
    exact this m hm6
  have hsl : (sixS.getD m []).length ≤ 2 := by
    have : ∀ q, q < 6 → (sixS.getD q []).length ≤ 2 := by decide
    exact this m hm6
  have hT := testT4 col ((m : Int) + 1) x
  rw [show ((m : Int) + 1).toNat = m + 1 by omega, hsg] at hT
  obtain ⟨S, hS⟩ : ∃ S, sixS.getD m [] = S := ⟨_, rfl⟩
  rw [hS] at hT hsl gm
  have hcol : col.length ≤ 32 := name_len hnm
  obtain ⟨T, hTT⟩ : ∃ T, testT 4 col ((m : Int) + 1) [x] = T := ⟨_, rfl⟩
  rw [hTT] at hT hlen ⊢
  have hTl : T.length = col.length + 1 + S.length + 1 + (valT x).length := by rw [hT]; simp; omega
  have old : ∀ {g o : Nat} {u : Value}, w.cell? ⟨g, o, none⟩ = some u → ∀ dd os, (grow (redrawn w2 dd) os).cell? ⟨g, o, none⟩ = some u := fun {g o u} h dd os => cell_regrown ((cell_of_heap (f2.block g (block_lt_of_cell h) id)).trans h) dd os
  have z0 : w.cell? ⟨g, o, none⟩ = some (.int .i64 4) := c0
  have z3 := old c3
  have z4 := old c4
  have z5 := old c5
  have u0 := old v0
  have u1 := old v1
  have u2 := old v2
  have zm : ∀ dd os, (grow (redrawn w2 dd) os).cell? ⟨y, m, none⟩ = some (sv S) := fun dd os => cell_regrown gm dd os
  have K1 := fun dd os => tellsT_grown (w := w2) (fun w' f' => dvalueT_any x w' ((hp.no f2).no f') hrx hxi) dd os
  obtain ⟨VT, hVT⟩ : ∃ X, valT x = X := ⟨_, rfl⟩
  rw [hVT] at K1 hT hTl
  have a1 : ∀ w0, (Op.stringOp .add ⟨col.toArray⟩ ⟨#[32]⟩).run Tryz.prog w0 = .ok (.string ⟨(col ++ [32]).toArray⟩) w0 := fun w0 => run_cat col [32] (by unfold maxLen; simp; omega) w0
  have a2 : ∀ w0, (Op.stringOp .add ⟨(col ++ [32]).toArray⟩ ⟨S.toArray⟩).run Tryz.prog w0 = .ok (.string ⟨(col ++ [32] ++ S).toArray⟩) w0 := fun w0 => run_cat _ S (by unfold maxLen; simp; omega) w0
  have a3 : ∀ w0, (Op.stringOp .add ⟨(col ++ [32] ++ S).toArray⟩ ⟨#[32]⟩).run Tryz.prog w0 = .ok (.string ⟨(col ++ [32] ++ S ++ [32]).toArray⟩) w0 := fun w0 => run_cat _ [32] (by unfold maxLen; simp; omega) w0
  have a4 : ∀ w0, (Op.stringOp .add ⟨(col ++ [32] ++ S ++ [32]).toArray⟩ ⟨VT.toArray⟩).run Tryz.prog w0 = .ok (.string ⟨(col ++ [32] ++ S ++ [32] ++ VT).toArray⟩) w0 := fun w0 => run_cat _ VT (by unfold maxLen; simp; omega) w0
  rw [← hT] at a4
  obtain ⟨X1, hX1⟩ : ∃ X, col ++ [32] = X := ⟨_, rfl⟩
  rw [hX1] at a1 a2 a3 a4
  obtain ⟨X2, hX2⟩ : ∃ X, X1 ++ S = X := ⟨_, rfl⟩
  rw [hX2] at a2 a3 a4
  obtain ⟨X3, hX3⟩ : ∃ X, X2 ++ [32] = X := ⟨_, rfl⟩
  rw [hX3] at a3 a4
  have hwr : IntKind.i64.wrap ((m : Int) + 1 - 1) = (m : Int) := by rw [IntWalk.i64_in _ (by omega)]; omega
  have hwr2 : IntKind.i64.wrap (m : Int) = (m : Int) := IntWalk.i64_in _ (by omega)
  have hmi : (m : Int) < 6 := by omega
  have hmi0 : (0 : Int) ≤ (m : Int) := by omega
  have K1 := Lib.hid K1
  have HF2 := Lib.hid f2
  have HW2 := Lib.hid hw2
  have HY := Lib.hid hy
  clear hAl hAr hp hT hlen hTl hTT hVT hX1 hX2 hX3 hS hsg hsl hcol hb2 gm f2 hw2 hy old v0 v1 v2 c0 c1 c2 c3 c4 c5 hK hg hKa hga hel hcs hcsl hE hrow hrl hv1 hv2 hv3 hrx hxl hxi hcl hnm hlc hcm hm6
  go_enter Tryz.func37, Tryz.ntmps37
  go_upto_region 10 with fail
  rw [HW2.out, HY.out]
  clear z0
  refine wp_region_quiet_below mixedQ (by kernel_rfl) ?_
  repeat (first | go_big_quiet_step (with_reducible exact K1.out _ _) | quiet_step (with_reducible exact K1.out _ _))
  refine wpQuiet_nil ?_
  intro wx hp
  have HBW : Hid (Fr No w wx) := Lib.hid (HF2.out.trans (by obtain ⟨p, rfl⟩ := hp; exact fr_reg _ _ _) fun _ _ h => h)
  clear hp
  go_wp2_with fail
  go_ret
  exact ⟨rfl, HBW.out⟩
set_option maxRecDepth 100000 in
set_option maxHeartbeats 16000000 in
theorem dcond_in {K : Nat → Prop} {l r : Cd} {col : Tx} {op : Int} {vals : List Vl} {v : Value} {w : World} (ht : testR 5 col op vals = true) (hA : CdAt K w (.node 5 l r col op vals) v) (hp : Pv w) (hlen : (testT 5 col op vals).length ≤ 100000000) :
    Calls Tryz.prog 37 #[v] w (TellsT (testT 5 col op vals) w) := by
  obtain ⟨g, o, L, R, V, rfl, hK, hg, c0, c1, c2, c3, c4, c5, hAl, hAr, hv, hcl, _, _⟩ := hA
  unfold testR at ht
  rw [if_neg (by decide), if_pos rfl] at ht
  simp only [Bool.and_eq_true, beq_iff_eq] at ht
  obtain ⟨⟨hnm, rfl⟩, hrl⟩ := ht
  obtain ⟨hv1, hv2, hv3⟩ := rightL_len hrl
  obtain ⟨A, c, rfl, hlc, hcm, hrow⟩ := hv
  have hT := testT5 col 0 vals
  have hcol : col.length ≤ 32 := name_len hnm
  obtain ⟨T, hTT⟩ : ∃ T, testT 5 col 0 vals = T := ⟨_, rfl⟩
  rw [hTT] at hT hlen ⊢
  have hJ : (jn (vals.map valT)).length ≤ 100000000 := by have := hlen; rw [hT] at this; simp at this; omega
  obtain ⟨b, hb⟩ : ∃ b, w.heap.size = b := ⟨_, rfl⟩
  have HB := Lib.hid hb
  obtain ⟨n, hn⟩ : ∃ n, vals.length = n := ⟨_, rfl⟩
  rw [hn] at hv1 hv2 hlc c5
  have HN := Lib.hid hn
  have HROW := Lib.hid hrow
  have HOK := Lib.hid hv3
  have HJ := Lib.hid hJ
  have HT := Lib.hid hT
  have HP := Lib.hid hp
  have HLEN := Lib.hid hlen
  have HCOL := Lib.hid hcol
  have HG0 := Lib.hid hg
  have old : Hid (∀ wr, Fr No w wr → wr.cell? ⟨g, o + 3, none⟩ = some (sv col) ∧ wr.cell? ⟨g, o + 5, none⟩ = some (.slice A n c)) := Lib.hid fun wr f => ⟨(cell_of_heap (f.block g hg id)).trans c3, (cell_of_heap (f.block g hg id)).trans c5⟩
  unfold maxLen at hcm
  clear hrow hv3 hJ hT hp hlen hcol hg hb hn hAl hAr hrl hnm hcl c1 c2 c3 c4 hTT hK
  go_enter Tryz.func37, Tryz.ntmps37
  go_wp2_with fail
  clear c0
  go_loopg [4, 5] n (fun k r4 r5 wr => Hid (∃ j : Nat, r5 = .int .i64 (j : Nat) ∧ j + k = n ∧ Fr No w wr ∧ Grow b 9 1 strG wr r4 ((vals.take j).map valT)))
  case atStart => exact Lib.hid ⟨0, rfl, by omega, Fr.refl _ _, grow_nil _ _⟩
  case round =>
    obtain ⟨j, rfl, hjn, hf, hgw⟩ := hrel.out
    obtain ⟨A5, c5', rfl⟩ := hgw.len
    obtain ⟨L5, hL5⟩ : ∃ L5, (vals.take j).map valT = L5 := ⟨_, rfl⟩
    have hlt5 : L5.length = j := by rw [← hL5, List.length_map, List.length_take, HN.out]; omega
    rw [hL5] at hgw
    have HLT := Lib.hid hlt5
    have HL5 := Lib.hid hL5
    have HG := Lib.hid hgw
    have HFN := Lib.hid hf
    simp only [hL5, hlt5]
    rw [hlt5] at HG
    obtain ⟨q3, q5⟩ := old.out wr hf
    clear hrel hgw hlt5 hL5
    by_cases hj : j < n
    · have hji : (j : Int) < (n : Int) := by omega
      have hjl : j < vals.length := by rw [HN.out]; exact hj
      obtain ⟨ga, off, rfl, hKa, hga, hel⟩ := HROW.out (by omega)
      obtain ⟨cs, hcl, hcs, hE⟩ := hel j hjl
      have hokx := HOK.out vals[j] (List.getElem_mem hjl)
      have hmt := map_take (f := valT) hjl
      rw [HL5.out] at hmt
      have hxle : (valT vals[j]).length ≤ 100000000 := Nat.le_trans (jn_mem (f := valT) (x := vals[j]) (List.getElem_mem hjl)) HJ.out
      obtain ⟨x, hx⟩ : ∃ x, vals[j] = x := ⟨_, rfl⟩
      rw [hx] at hE hmt hxle hokx
      have HMT := Lib.hid hmt
      obtain ⟨hE, hxl, hxi⟩ := hE
      have e0 : wr.cell? ⟨ga, off + j * 3, none⟩ = some (.bool x.isText) := (cell_of_heap (hf.block ga hga id)).trans (by have := hcs 0 (by decide); rw [hE] at this; simpa using this)
      have e1 : wr.cell? ⟨ga, off + j * 3 + 1, none⟩ = some (sv x.text) := (cell_of_heap (hf.block ga hga id)).trans (by have := hcs 1 (by decide); rw [hE] at this; simpa using this)
      have e2 : wr.cell? ⟨ga, off + j * 3 + 2, none⟩ = some (.int .i64 x.int) := (cell_of_heap (hf.block ga hga id)).trans (by have := hcs 2 (by decide); rw [hE] at this; simpa using this)
      have HC := Lib.hid (dvalueT_any x wr (HP.out.no hf) hokx hxi)
      obtain ⟨X, hX⟩ : ∃ X, valT x = X := ⟨_, rfl⟩
      rw [hX] at HC hxle
      have HXE := Lib.hid hX
      have HXL := Lib.hid hxle
      clear hcs hcl hel hKa hga hE hx hf hmt hxl hxi hokx hxle hX q3
      go_wp2_with fail
      refine HC.out.mono ?_
      clear HC
      rintro e w5 ⟨rfl, f5⟩
      have hg5 := HG.out.keep strG_elem f5 (fun _ h => h.elim)
      have hf5 := HFN.out.trans f5 fun _ _ h => h
      have hxm : E9 X := by have := HXL.out; unfold E9; unfold maxLen; omega
      rw [← HLT.out] at hg5
      obtain ⟨A', c', w6, hrun, hg6, hfr6, hlt6⟩ := Grow.more (bytes := 16) strG_elem (w0 := w5) hg5 (by have := hf5.size; have := HB.out; omega) (Nat.le_refl _) (fun k hk => (hg5.lt k hk).2) 52 Tryz.underlying52 (.string ⟨#[]⟩) (by kernel_rfl) rfl (by decide) X [sv X] rfl (by simp [Value.oneCell']) ⟨rfl, hxm⟩ (by rw [HLT.out]; omega) (by rw [HLT.out]; unfold maxLen; omega)
      have HF6 : Hid (Fr No w w6) := Lib.hid (hf5.own hfr6 fun k hk => by have := (hg5.lt k hk).1; have := HB.out; omega)
      rw [← HXE.out, ← HMT.out] at hg6
      have HG6 := Lib.hid hg6
      have HRUN := Lib.hid hrun
      rw [HLT.out] at HRUN HG6
      have HW5 : Hid (∀ ty, (Builtin.append_ #[52, 52] ty #[.slice A5 j c5', .slice (some ⟨w5.heap.size, 0, none⟩) 1 1]).run Tryz.prog (w5.alloc (.cells #[sv X] 9)) = .ok (.slice A' (j + 1) c') w6) := HRUN
      clear hg5 hf5 hg6 hfr6 hlt6 hrun f5 hxm HRUN
      go_wp2_with (at_builtin; refine wpList_add rfl _ _ _ _ rfl _ _ _ _ rfl rfl (HW5.out _) ?_)
      obtain ⟨g1, rfl⟩ : ∃ g1, gk = g1 + 1 := ⟨gk - 1, by omega⟩
      go_roundg g1
      case rel => exact Lib.hid ⟨j + 1, by go_num, by omega, HF6.out, HG6.out⟩
      all_goals omega
    · have hji : (n : Int) ≤ (j : Int) := by omega
      obtain rfl : j = n := by omega
      have hrow2 := HG.out
      rw [← HLT.out] at hrow2
      have hrow3 := hrow2.row strG_elem
      rw [HLT.out, ← HL5.out, List.take_of_length_le (by rw [HN.out]; omega)] at hrow3
      have hJ2 := HJ.out
      have K1 := fun dd os => tellsT_grown (w := wr) (fun w' f' => dlist_any w' (hrow3.at_ strG_elem f') hJ2) dd os
      have hT := HT.out
      have hlen := HLEN.out
      have hcol := HCOL.out
      have hTl : T.length = col.length + 5 + (jn (vals.map valT)).length + 1 := by rw [hT]; simp; omega
      obtain ⟨J, hJe⟩ : ∃ J, jn (vals.map valT) = J := ⟨_, rfl⟩
      rw [hJe] at K1 hJ2 hT hTl
      have z3 : ∀ dd os, (grow (redrawn wr dd) os).cell? ⟨g, o + 3, none⟩ = some (sv col) := fun dd os => cell_regrown q3 dd os
      have a1 : ∀ w0, (Op.stringOp .add ⟨col.toArray⟩ ⟨#[32, 73, 78, 32, 40]⟩).run Tryz.prog w0 = .ok (.string ⟨(col ++ [32, 73, 78, 32, 40]).toArray⟩) w0 := fun w0 => run_cat col [32, 73, 78, 32, 40] (by unfold maxLen; simp; omega) w0
      have a2 : ∀ w0, (Op.stringOp .add ⟨(col ++ [32, 73, 78, 32, 40]).toArray⟩ ⟨J.toArray⟩).run Tryz.prog w0 = .ok (.string ⟨(col ++ [32, 73, 78, 32, 40] ++ J).toArray⟩) w0 := fun w0 => run_cat _ J (by unfold maxLen; simp; omega) w0
      have a3 : ∀ w0, (Op.stringOp .add ⟨(col ++ [32, 73, 78, 32, 40] ++ J).toArray⟩ ⟨#[41]⟩).run Tryz.prog w0 = .ok (.string ⟨(col ++ [32, 73, 78, 32, 40] ++ J ++ [41]).toArray⟩) w0 := fun w0 => run_cat _ [41] (by unfold maxLen; simp; omega) w0
      rw [← hT] at a3
      obtain ⟨X1, hX1⟩ : ∃ X, col ++ [32, 73, 78, 32, 40] = X := ⟨_, rfl⟩
      rw [hX1] at a1 a2 a3
      obtain ⟨X2, hX2⟩ : ∃ X, X1 ++ J = X := ⟨_, rfl⟩
      rw [hX2] at a2 a3
      have K1 := Lib.hid K1
      have HFE := Lib.hid hf
      clear hf hrow2 hrow3 hJ2 hT hlen hcol hTl hJe hX1 hX2 q3
      go_upto_region 16 with fail
      refine wp_region_quiet_below mixedQ (by kernel_rfl) ?_
      repeat (first | go_big_quiet_step (with_reducible exact K1.out _ _) | quiet_step (with_reducible exact K1.out _ _))
      refine wpQuiet_nil ?_
      intro wx hp
      have HBW : Hid (Fr No w wx) := Lib.hid (HFE.out.trans (by obtain ⟨p, rfl⟩ := hp; exact fr_reg _ _ _) fun _ _ h => h)
      clear hp
      go_wp2_with fail
      go_ret
      exact ⟨rfl, HBW.out⟩
theorem dcondT_any : ∀ (c : Cd), c ≠ .none → (∃ d n m, rightC c d n = some m) → CondOk c
  | .none, hc, _ => absurd rfl hc
  | .node k l r col op vals, hc, hr => by
    intro K v w hA hp hlen
    obtain ⟨d, n, m, hr⟩ := hr
    obtain ⟨hk, h12, h3, h4⟩ := nodeT_eq hr
    have hT := nodeT_cases hr
    by_cases k2 : k = 2
    · subst k2
      rw [if_pos rfl] at hT
      obtain ⟨hl0, hr0, hlr, hrr⟩ := h12 (.inr rfl)
      exact dcond_or (dcondT_any l hl0 hlr) (dcondT_any r hr0 hrr) hl0 hr0 (kind_pos hr0 hrr) hA hp hT hlen
    rw [if_neg k2] at hT
    by_cases k1 : k = 1
    · subst k1
      rw [if_pos rfl] at hT
      obtain ⟨hl0, hr0, hlr, hrr⟩ := h12 (.inl rfl)
      exact dcond_and (dcondT_any l hl0 hlr) (dcondT_any r hr0 hrr) hl0 hr0 (kind_pos hr0 hrr) hA hp hT hlen
    rw [if_neg k1] at hT
    by_cases k3 : k = 3
    · subst k3
      rw [if_pos rfl] at hT
      obtain ⟨hl0, hlr⟩ := h3 rfl
      exact dcond_not (dcondT_any l hl0 hlr) hl0 (kind_pos hl0 hlr) hA hp hT hlen
    rw [if_neg k3] at hT
    have ht := h4 k1 k2 k3
    rw [hT] at hlen ⊢
    rcases testR_kind ht with rfl | rfl
    · exact dcond_cmp ht hA hp hlen
    · exact dcond_in ht hA hp hlen
end Go.Proofs.YtkcnbmgaeompjaaGreatDoor
