/- ParseSame, walked. -/
import Derived.Test.YtkcnbmgaeompjaaGreatDoorW6
import Derived.Test.YtkcnbmgaeompjaaGreatDoorW2
namespace Go.Proofs.YtkcnbmgaeompjaaGreatDoor
open Go.RowKit Go.Maps
set_option linter.unusedVariables false

set_option maxRecDepth 100000 in
set_option maxHeartbeats 8000000 in
theorem same_law {K K2 : Nat → Prop} (q q2 : Qy) (v v2 : Value) (w : World) (hp : Pv w) (h : QyAt K w q v) (h2 : QyAt K2 w q2 v2) : Calls Tryz.prog 5 #[v, v2] w (TellsB true w) := by
  obtain ⟨A1, c1, px, A2, c2, rfl, -, -⟩ := (qyTo_of (d := 0) h).qv
  obtain ⟨B1, d1, px2, B2, d2, rfl, -, -⟩ := (qyTo_of (d := 0) h2).qv
  unfold qyV at *
  obtain ⟨n1, hn1⟩ : ∃ n, q.items.length = n := ⟨_, rfl⟩
  obtain ⟨n2, hn2⟩ : ∃ n, q.groups.length = n := ⟨_, rfl⟩
  obtain ⟨tb, htb⟩ : ∃ n, q.table = n := ⟨_, rfl⟩
  obtain ⟨gr, hgr⟩ : ∃ n, q.grouped = n := ⟨_, rfl⟩
  obtain ⟨m1, hm1⟩ : ∃ n, q2.items.length = n := ⟨_, rfl⟩
  obtain ⟨m2, hm2⟩ : ∃ n, q2.groups.length = n := ⟨_, rfl⟩
  obtain ⟨tb2, htb2⟩ : ∃ n, q2.table = n := ⟨_, rfl⟩
  obtain ⟨gr2, hgr2⟩ : ∃ n, q2.grouped = n := ⟨_, rfl⟩
  rw [hn1, hn2, htb, hgr] at h ⊢
  rw [hm1, hm2, htb2, hgr2] at h2 ⊢
  clear hn1 hn2 htb hgr hm1 hm2 htb2 hgr2
  obtain ⟨w1, hw1⟩ : ∃ w1, w.alloc (.cells #[.slice A1 n1 c1, sv tb, .pointer px, .bool gr, .slice A2 n2 c2] 27) = w1 := ⟨_, rfl⟩
  obtain ⟨z, hz⟩ : ∃ z, w.heap.size = z := ⟨_, rfl⟩
  have f1 : Fr No w w1 := by rw [← hw1]; exact (Fr.refl No w).alloc _
  have hb1 : Blk w1 z 27 #[.slice A1 n1 c1, sv tb, .pointer px, .bool gr, .slice A2 n2 c2] := by rw [← hw1, ← hz]; exact Blk.new w 27 _
  have hs1 : w1.heap.size = z + 1 := by rw [← hw1, ← hz]; simp
  obtain ⟨w2, hw2⟩ : ∃ w2, w1.alloc (.cells #[.slice B1 m1 d1, sv tb2, .pointer px2, .bool gr2, .slice B2 m2 d2] 27) = w2 := ⟨_, rfl⟩
  have f2 : Fr No w1 w2 := by rw [← hw2]; exact (Fr.refl No w1).alloc _
  have hb2 : Blk w2 (z + 1) 27 #[.slice B1 m1 d1, sv tb2, .pointer px2, .bool gr2, .slice B2 m2 d2] := by rw [← hw2, ← hs1]; exact Blk.new w1 27 _
  have f12 := f1.trans f2 fun _ _ h => h
  have hb12 := hb1.of (f2.block z hb1.lt id)
  have hq := h.no f12
  have hq2 := h2.no f12
  have HAW := Lib.hid (awake_any w2 (hp.no f12))
  have HL : Hid (∀ w', Fr No w2 w' → Calls Tryz.prog 20 #[.agg #[.slice A1 n1 c1, sv tb, .pointer px, .bool gr, .slice A2 n2 c2], .agg #[.slice B1 m1 d1, sv tb2, .pointer px2, .bool gr2, .slice B2 m2 d2]] w' (TellsB (sameQ q q2) w')) := Lib.hid fun w' f' => same_query (d := 4096) (Nat.le_refl _) q q2 w' (qyTo_of (hq.no f')) (qyTo_of (hq2.no f'))
  have HL2 : Hid (∀ w', Fr No w2 w' → Calls Tryz.prog 20 #[.agg #[.slice B1 m1 d1, sv tb2, .pointer px2, .bool gr2, .slice B2 m2 d2], .agg #[.slice A1 n1 c1, sv tb, .pointer px, .bool gr, .slice A2 n2 c2]] w' (TellsB (sameQ q2 q) w')) := Lib.hid fun w' f' => same_query (d := 4096) (Nat.le_refl _) q2 q w' (qyTo_of (hq2.no f')) (qyTo_of (hq.no f'))
  have HD : Hid (∀ w', Fr No w2 w' → Calls Tryz.prog 15 #[.agg #[.slice A1 n1 c1, sv tb, .pointer px, .bool gr, .slice A2 n2 c2], .agg #[.slice B1 m1 d1, sv tb2, .pointer px2, .bool gr2, .slice B2 m2 d2]] w' (TellsB (sameQ q q2) w')) := Lib.hid fun w' f' => dsame_any (d := 4096) (Nat.le_refl _) q q2 w' (qyTo_of (hq.no f')) (qyTo_of (hq2.no f'))
  have HD2 : Hid (∀ w', Fr No w2 w' → Calls Tryz.prog 15 #[.agg #[.slice B1 m1 d1, sv tb2, .pointer px2, .bool gr2, .slice B2 m2 d2], .agg #[.slice A1 n1 c1, sv tb, .pointer px, .bool gr, .slice A2 n2 c2]] w' (TellsB (sameQ q2 q) w')) := Lib.hid fun w' f' => dsame_any (d := 4096) (Nat.le_refl _) q2 q w' (qyTo_of (hq2.no f')) (qyTo_of (hq.no f'))
  have HCELL : Hid (∀ w', Fr No w2 w' → w'.cell? ⟨z, 0, none⟩ = some (.slice A1 n1 c1) ∧ w'.cell? ⟨z, 1, none⟩ = some (sv tb) ∧ w'.cell? ⟨z, 2, none⟩ = some (.pointer px) ∧ w'.cell? ⟨z, 3, none⟩ = some (.bool gr) ∧ w'.cell? ⟨z, 4, none⟩ = some (.slice A2 n2 c2) ∧ w'.cell? ⟨z + 1, 0, none⟩ = some (.slice B1 m1 d1) ∧ w'.cell? ⟨z + 1, 1, none⟩ = some (sv tb2) ∧ w'.cell? ⟨z + 1, 2, none⟩ = some (.pointer px2) ∧ w'.cell? ⟨z + 1, 3, none⟩ = some (.bool gr2) ∧ w'.cell? ⟨z + 1, 4, none⟩ = some (.slice B2 m2 d2)) := Lib.hid fun w' f' => by
    have a := hb12.of (f'.block z hb12.lt id)
    have b := hb2.of (f'.block _ hb2.lt id)
    exact ⟨a.cell 0, a.cell 1, a.cell 2, a.cell 3, a.cell 4, b.cell 0, b.cell 1, b.cell 2, b.cell 3, b.cell 4⟩
  obtain ⟨s, hs⟩ : ∃ s, sameQ q q2 = s := ⟨_, rfl⟩
  obtain ⟨s', hs'⟩ : ∃ s, sameQ q2 q = s := ⟨_, rfl⟩
  rw [hs] at HL HD
  rw [hs'] at HL2 HD2
  have H12 := Lib.hid f12
  have HW1 := Lib.hid hw1
  have HW2 := Lib.hid hw2
  have HZ := Lib.hid hz
  clear hp h h2 hs hs' hw1 hz f1 hb1 hs1 hw2 f2 hb2 f12 hb12 hq hq2
  go_enter Tryz.func5, Tryz.ntmps5
  go_upto_region 1 with fail
  rw [HZ.out, HW1.out, HW2.out]
  go_wp2_with fail
  refine HAW.out.mono ?_
  clear HAW
  rintro e wa ⟨rfl, fa⟩
  have HF0 := Lib.hid fa.drew
  have HS0 := Lib.hid (HCELL.out _ HF0.out)
  clear fa
  go_upto_region 2 with fail
  refine wp_region_held_drew (S := fun w' => w'.cell? ⟨z, 0, none⟩ = some (.slice A1 n1 c1) ∧ w'.cell? ⟨z, 1, none⟩ = some (sv tb) ∧ w'.cell? ⟨z, 2, none⟩ = some (.pointer px) ∧ w'.cell? ⟨z, 3, none⟩ = some (.bool gr) ∧ w'.cell? ⟨z, 4, none⟩ = some (.slice A2 n2 c2) ∧ w'.cell? ⟨z + 1, 0, none⟩ = some (.slice B1 m1 d1) ∧ w'.cell? ⟨z + 1, 1, none⟩ = some (sv tb2) ∧ w'.cell? ⟨z + 1, 2, none⟩ = some (.pointer px2) ∧ w'.cell? ⟨z + 1, 3, none⟩ = some (.bool gr2) ∧ w'.cell? ⟨z + 1, 4, none⟩ = some (.slice B2 m2 d2)) (by kernel_rfl) (HS0.out) (fun hHeld => ?_)
  refine wpAnyH_take (i := 0) (oi := ({ dst := some 7, op := Go.Op.move (Go.Operand.tmp 5), type := 4, pos := "law.go:39", after := #[], guard := none } : Go.Oper)) (v := ?_) rfl (by kernel_rfl) (by kernel_rfl) (by kernel_rfl) (fun _ _ _ h => h) (Or.inl ⟨by rfl, ?_⟩) (by assumption) ?_
  rotate_left 1
  · intro w hSw; (try dsimp only at hSw); first | (go_simp; done) | (go_simp; with_reducible rfl)
  try simp only [Act.put, List.setIfInBounds_toArray, List.set_cons_zero, List.set_cons_succ]
  refine wpAnyH_take (i := 1) (oi := ({ dst := some 8, op := Go.Op.move (Go.Operand.tmp 7), type := 4, pos := "law.go:39", after := #[{ on := 0, ground := Go.Ground.data }], guard := none } : Go.Oper)) (v := ?_) rfl (by kernel_rfl) (by kernel_rfl) (by kernel_rfl) (fun _ _ _ h => h) (Or.inl ⟨by rfl, ?_⟩) (by assumption) ?_
  rotate_left 1
  · intro w hSw; (try dsimp only at hSw); first | (go_simp; done) | (go_simp; with_reducible rfl)
  try simp only [Act.put, List.setIfInBounds_toArray, List.set_cons_zero, List.set_cons_succ]
  refine wpAnyH_take (i := 2) (oi := ({ dst := some 9, op := Go.Op.load 27 (Go.Operand.tmp 2), type := 27, pos := "law.go:39", after := #[{ on := 1, ground := Go.Ground.guard }], guard := some (1, true) } : Go.Oper)) (v := ?_) rfl (by kernel_rfl) (by kernel_rfl) (by kernel_rfl) (fun _ _ _ h => h) (Or.inl ⟨by rfl, ?_⟩) (by assumption) ?_
  rotate_left 1
  · intro w hSw; (try dsimp only at hSw); first | (go_simp; done) | (go_simp; with_reducible rfl)
  try simp only [Act.put, List.setIfInBounds_toArray, List.set_cons_zero, List.set_cons_succ]
  refine wpAnyH_take (i := 3) (oi := ({ dst := some 10, op := Go.Op.load 27 (Go.Operand.tmp 3), type := 27, pos := "law.go:39", after := #[{ on := 1, ground := Go.Ground.guard }], guard := some (1, true) } : Go.Oper)) (v := ?_) rfl (by kernel_rfl) (by kernel_rfl) (by kernel_rfl) (fun _ _ _ h => h) (Or.inl ⟨by rfl, ?_⟩) (by assumption) ?_
  rotate_left 1
  · intro w hSw; (try dsimp only at hSw); first | (go_simp; done) | (go_simp; with_reducible rfl)
  try simp only [Act.put, List.setIfInBounds_toArray, List.set_cons_zero, List.set_cons_succ]
  refine wpAnyH_take (i := 5) (oi := ({ dst := some 12, op := Go.Op.load 27 (Go.Operand.tmp 2), type := 27, pos := "law.go:39", after := #[{ on := 1, ground := Go.Ground.guard }], guard := some (1, true) } : Go.Oper)) (v := ?_) rfl (by kernel_rfl) (by kernel_rfl) (by kernel_rfl) (fun _ _ _ h => h) (Or.inl ⟨by rfl, ?_⟩) (by assumption) ?_
  rotate_left 1
  · intro w hSw; (try dsimp only at hSw); first | (go_simp; done) | (go_simp; with_reducible rfl)
  try simp only [Act.put, List.setIfInBounds_toArray, List.set_cons_zero, List.set_cons_succ]
  refine wpAnyH_take (i := 6) (oi := ({ dst := some 13, op := Go.Op.load 27 (Go.Operand.tmp 3), type := 27, pos := "law.go:39", after := #[{ on := 1, ground := Go.Ground.guard }], guard := some (1, true) } : Go.Oper)) (v := ?_) rfl (by kernel_rfl) (by kernel_rfl) (by kernel_rfl) (fun _ _ _ h => h) (Or.inl ⟨by rfl, ?_⟩) (by assumption) ?_
  rotate_left 1
  · intro w hSw; (try dsimp only at hSw); first | (go_simp; done) | (go_simp; with_reducible rfl)
  try simp only [Act.put, List.setIfInBounds_toArray, List.set_cons_zero, List.set_cons_succ]
  refine wpAnyH_ready (rs := [4]) (by kernel_rfl) (by simp) ?_
  refine AllReadyH.cons (o := ({ dst := some 11, op := Go.Op.call { callee := Go.Callee.value (Go.Operand.func 20), args := #[Go.Operand.tmp 9, Go.Operand.tmp 10], argTypes := #[27, 27] }, type := 4, pos := "law.go:39", after := #[{ on := 2, ground := Go.Ground.data }, { on := 3, ground := Go.Ground.data }, { on := 1, ground := Go.Ground.chain }, { on := 1, ground := Go.Ground.guard }], guard := some (1, true) } : Go.Oper)) rfl (fun K hK => ?_) AllReadyH.nil
  go_simp
  (go_at_call 20; (with_reducible refine (HL.out _ HF0.out).mono ?_); rintro e x1 ⟨rfl, f1⟩; have HF1 := Lib.hid (HF0.out.trans f1 fun _ _ h => h); have HS1 := Lib.hid (HCELL.out _ HF1.out); clear f1)
  try (go_wp2_with fail)
  refine hK.out _ _ (HS1.out) (fun hHeld1 => ?_)
  clear hK K
  try simp only [Act.put, List.setIfInBounds_toArray, List.set_cons_zero, List.set_cons_succ]
  refine wpAnyH_ready (rs := [7]) (by kernel_rfl) (by simp) ?_
  refine AllReadyH.cons (o := ({ dst := some 14, op := Go.Op.call { callee := Go.Callee.value (Go.Operand.func 15), args := #[Go.Operand.tmp 12, Go.Operand.tmp 13], argTypes := #[27, 27] }, type := 4, pos := "law.go:39", after := #[{ on := 5, ground := Go.Ground.data }, { on := 6, ground := Go.Ground.data }, { on := 4, ground := Go.Ground.chain }, { on := 1, ground := Go.Ground.guard }], guard := some (1, true) } : Go.Oper)) rfl (fun K hK => ?_) AllReadyH.nil
  go_simp
  (go_at_call 15; (with_reducible refine (HD.out _ HF1.out).mono ?_); rintro e x2 ⟨rfl, f2⟩; have HF2 := Lib.hid (HF1.out.trans f2 fun _ _ h => h); have HS2 := Lib.hid (HCELL.out _ HF2.out); clear f2)
  try (go_wp2_with fail)
  refine hK.out _ _ (HS2.out) (fun hHeld2 => ?_)
  clear hK K
  try simp only [Act.put, List.setIfInBounds_toArray, List.set_cons_zero, List.set_cons_succ]
  refine wpAnyH_take (i := 8) (oi := ({ dst := some 15, op := Go.Op.binOp Go.BinOp.eql 4 (Go.Operand.tmp 11) (Go.Operand.tmp 14) 4, type := 4, pos := "law.go:39", after := #[{ on := 4, ground := Go.Ground.data }, { on := 7, ground := Go.Ground.data }, { on := 1, ground := Go.Ground.guard }], guard := some (1, true) } : Go.Oper)) (v := ?_) rfl (by kernel_rfl) (by kernel_rfl) (by kernel_rfl) (fun _ _ _ h => h) (Or.inl ⟨by rfl, ?_⟩) (by assumption) ?_
  rotate_left 1
  · intro w hSw; (try dsimp only at hSw); first | (go_simp; done) | (go_simp; with_reducible rfl)
  try simp only [Act.put, List.setIfInBounds_toArray, List.set_cons_zero, List.set_cons_succ]
  refine wpAnyH_take (i := 9) (oi := ({ dst := some 16, op := Go.Op.pick (Go.Operand.tmp 8) (Go.Operand.tmp 15) (Go.Operand.const (Go.Value.bool false)), type := 4, pos := "law.go:39", after := #[{ on := 1, ground := Go.Ground.data }, { on := 8, ground := Go.Ground.data }], guard := none } : Go.Oper)) (v := ?_) rfl (by kernel_rfl) (by kernel_rfl) (by kernel_rfl) (fun _ _ _ h => h) (Or.inl ⟨by rfl, ?_⟩) (by assumption) ?_
  rotate_left 1
  · intro w hSw; (try dsimp only at hSw); first | (go_simp; done) | (go_simp; with_reducible rfl)
  try simp only [Act.put, List.setIfInBounds_toArray, List.set_cons_zero, List.set_cons_succ]
  refine wpAnyH_take (i := 10) (oi := ({ dst := some 17, op := Go.Op.move (Go.Operand.tmp 16), type := 4, pos := "law.go:39", after := #[{ on := 9, ground := Go.Ground.data }, { on := 7, ground := Go.Ground.chain }], guard := none } : Go.Oper)) (v := ?_) rfl (by kernel_rfl) (by kernel_rfl) (by kernel_rfl) (fun _ _ _ h => h) (Or.inl ⟨by rfl, ?_⟩) (by assumption) ?_
  rotate_left 1
  · intro w hSw; (try dsimp only at hSw); first | (go_simp; done) | (go_simp; with_reducible rfl)
  try simp only [Act.put, List.setIfInBounds_toArray, List.set_cons_zero, List.set_cons_succ]
  refine wpAnyH_take (i := 11) (oi := ({ dst := some 18, op := Go.Op.load 27 (Go.Operand.tmp 3), type := 27, pos := "law.go:39", after := #[{ on := 10, ground := Go.Ground.guard }], guard := some (10, true) } : Go.Oper)) (v := ?_) rfl (by kernel_rfl) (by kernel_rfl) (by kernel_rfl) (fun _ _ _ h => h) (Or.inl ⟨by rfl, ?_⟩) (by assumption) ?_
  rotate_left 1
  · intro w hSw; (try dsimp only at hSw); first | (go_simp; done) | (go_simp; with_reducible rfl)
  try simp only [Act.put, List.setIfInBounds_toArray, List.set_cons_zero, List.set_cons_succ]
  refine wpAnyH_take (i := 12) (oi := ({ dst := some 19, op := Go.Op.load 27 (Go.Operand.tmp 2), type := 27, pos := "law.go:39", after := #[{ on := 10, ground := Go.Ground.guard }], guard := some (10, true) } : Go.Oper)) (v := ?_) rfl (by kernel_rfl) (by kernel_rfl) (by kernel_rfl) (fun _ _ _ h => h) (Or.inl ⟨by rfl, ?_⟩) (by assumption) ?_
  rotate_left 1
  · intro w hSw; (try dsimp only at hSw); first | (go_simp; done) | (go_simp; with_reducible rfl)
  try simp only [Act.put, List.setIfInBounds_toArray, List.set_cons_zero, List.set_cons_succ]
  refine wpAnyH_take (i := 14) (oi := ({ dst := some 21, op := Go.Op.load 27 (Go.Operand.tmp 3), type := 27, pos := "law.go:39", after := #[{ on := 10, ground := Go.Ground.guard }], guard := some (10, true) } : Go.Oper)) (v := ?_) rfl (by kernel_rfl) (by kernel_rfl) (by kernel_rfl) (fun _ _ _ h => h) (Or.inl ⟨by rfl, ?_⟩) (by assumption) ?_
  rotate_left 1
  · intro w hSw; (try dsimp only at hSw); first | (go_simp; done) | (go_simp; with_reducible rfl)
  try simp only [Act.put, List.setIfInBounds_toArray, List.set_cons_zero, List.set_cons_succ]
  refine wpAnyH_take (i := 15) (oi := ({ dst := some 22, op := Go.Op.load 27 (Go.Operand.tmp 2), type := 27, pos := "law.go:39", after := #[{ on := 10, ground := Go.Ground.guard }], guard := some (10, true) } : Go.Oper)) (v := ?_) rfl (by kernel_rfl) (by kernel_rfl) (by kernel_rfl) (fun _ _ _ h => h) (Or.inl ⟨by rfl, ?_⟩) (by assumption) ?_
  rotate_left 1
  · intro w hSw; (try dsimp only at hSw); first | (go_simp; done) | (go_simp; with_reducible rfl)
  try simp only [Act.put, List.setIfInBounds_toArray, List.set_cons_zero, List.set_cons_succ]
  refine wpAnyH_ready (rs := [13]) (by kernel_rfl) (by simp) ?_
  refine AllReadyH.cons (o := ({ dst := some 20, op := Go.Op.call { callee := Go.Callee.value (Go.Operand.func 20), args := #[Go.Operand.tmp 18, Go.Operand.tmp 19], argTypes := #[27, 27] }, type := 4, pos := "law.go:39", after := #[{ on := 11, ground := Go.Ground.data }, { on := 12, ground := Go.Ground.data }, { on := 10, ground := Go.Ground.chain }, { on := 10, ground := Go.Ground.guard }], guard := some (10, true) } : Go.Oper)) rfl (fun K hK => ?_) AllReadyH.nil
  go_simp
  (go_at_call 20; (with_reducible refine (HL2.out _ HF2.out).mono ?_); rintro e x3 ⟨rfl, f3⟩; have HF3 := Lib.hid (HF2.out.trans f3 fun _ _ h => h); have HS3 := Lib.hid (HCELL.out _ HF3.out); clear f3)
  try (go_wp2_with fail)
  refine hK.out _ _ (HS3.out) (fun hHeld3 => ?_)
  clear hK K
  try simp only [Act.put, List.setIfInBounds_toArray, List.set_cons_zero, List.set_cons_succ]
  refine wpAnyH_ready (rs := [16]) (by kernel_rfl) (by simp) ?_
  refine AllReadyH.cons (o := ({ dst := some 23, op := Go.Op.call { callee := Go.Callee.value (Go.Operand.func 15), args := #[Go.Operand.tmp 21, Go.Operand.tmp 22], argTypes := #[27, 27] }, type := 4, pos := "law.go:39", after := #[{ on := 14, ground := Go.Ground.data }, { on := 15, ground := Go.Ground.data }, { on := 13, ground := Go.Ground.chain }, { on := 10, ground := Go.Ground.guard }], guard := some (10, true) } : Go.Oper)) rfl (fun K hK => ?_) AllReadyH.nil
  go_simp
  (go_at_call 15; (with_reducible refine (HD2.out _ HF3.out).mono ?_); rintro e x4 ⟨rfl, f4⟩; have HF4 := Lib.hid (HF3.out.trans f4 fun _ _ h => h); have HS4 := Lib.hid (HCELL.out _ HF4.out); clear f4)
  try (go_wp2_with fail)
  refine hK.out _ _ (HS4.out) (fun hHeld4 => ?_)
  clear hK K
  try simp only [Act.put, List.setIfInBounds_toArray, List.set_cons_zero, List.set_cons_succ]
  refine wpAnyH_take (i := 17) (oi := ({ dst := some 24, op := Go.Op.binOp Go.BinOp.eql 4 (Go.Operand.tmp 20) (Go.Operand.tmp 23) 4, type := 4, pos := "law.go:39", after := #[{ on := 13, ground := Go.Ground.data }, { on := 16, ground := Go.Ground.data }, { on := 10, ground := Go.Ground.guard }], guard := some (10, true) } : Go.Oper)) (v := ?_) rfl (by kernel_rfl) (by kernel_rfl) (by kernel_rfl) (fun _ _ _ h => h) (Or.inl ⟨by rfl, ?_⟩) (by assumption) ?_
  rotate_left 1
  · intro w hSw; (try dsimp only at hSw); first | (go_simp; done) | (go_simp; with_reducible rfl)
  try simp only [Act.put, List.setIfInBounds_toArray, List.set_cons_zero, List.set_cons_succ]
  refine wpAnyH_take (i := 18) (oi := ({ dst := some 25, op := Go.Op.pick (Go.Operand.tmp 17) (Go.Operand.tmp 24) (Go.Operand.const (Go.Value.bool false)), type := 4, pos := "law.go:39", after := #[{ on := 10, ground := Go.Ground.data }, { on := 17, ground := Go.Ground.data }], guard := none } : Go.Oper)) (v := ?_) rfl (by kernel_rfl) (by kernel_rfl) (by kernel_rfl) (fun _ _ _ h => h) (Or.inl ⟨by rfl, ?_⟩) (by assumption) ?_
  rotate_left 1
  · intro w hSw; (try dsimp only at hSw); first | (go_simp; done) | (go_simp; with_reducible rfl)
  try simp only [Act.put, List.setIfInBounds_toArray, List.set_cons_zero, List.set_cons_succ]
  refine wpAnyH_take (i := 19) (oi := ({ dst := some 4, op := Go.Op.assign (Go.Operand.tmp 25), type := 4, pos := "law.go:39", after := #[{ on := 18, ground := Go.Ground.data }, { on := 16, ground := Go.Ground.chain }, { on := 0, ground := Go.Ground.phase }, { on := 1, ground := Go.Ground.phase }, { on := 2, ground := Go.Ground.phase }, { on := 3, ground := Go.Ground.phase }, { on := 4, ground := Go.Ground.phase }, { on := 5, ground := Go.Ground.phase }, { on := 6, ground := Go.Ground.phase }, { on := 7, ground := Go.Ground.phase }, { on := 8, ground := Go.Ground.phase }, { on := 9, ground := Go.Ground.phase }, { on := 10, ground := Go.Ground.phase }, { on := 11, ground := Go.Ground.phase }, { on := 12, ground := Go.Ground.phase }, { on := 13, ground := Go.Ground.phase }, { on := 14, ground := Go.Ground.phase }, { on := 15, ground := Go.Ground.phase }, { on := 16, ground := Go.Ground.phase }, { on := 17, ground := Go.Ground.phase }, { on := 18, ground := Go.Ground.phase }], guard := none } : Go.Oper)) (v := ?_) rfl (by kernel_rfl) (by kernel_rfl) (by kernel_rfl) (fun _ _ _ h => h) (Or.inl ⟨by rfl, ?_⟩) (by assumption) ?_
  rotate_left 1
  · intro w hSw; (try dsimp only at hSw); first | (go_simp; done) | (go_simp; with_reducible rfl)
  try simp only [Act.put, List.setIfInBounds_toArray, List.set_cons_zero, List.set_cons_succ]
  refine wpAnyH_done (by kernel_rfl) ?_ _
  cases s <;> cases s' <;> (go_wp2_with fail; go_ret; exact ⟨rfl, H12.out.trans HF4.out fun _ _ h => h⟩)
end Go.Proofs.YtkcnbmgaeompjaaGreatDoor
