/- The document's Show: conditions. -/
import Derived.Test.YtkcnbmgaeompjaaGreatDoorY7
import Derived.Test.YtkcnbmgaeompjaaGreatDoorP6
namespace Go.Proofs.YtkcnbmgaeompjaaGreatDoor
open Go.RowKit Go.Maps Go.Sort
set_option linter.unusedVariables false

theorem fr_reg (w : World) (dd : Nat) (os : Array Obj) : Fr No w (grow (redrawn w dd) os) := Fr.of_below (below_regrown w dd os)
theorem tellsT_grown {f : FuncId} {args : Array Value} {w : World} {t : Tx} (h : ∀ w', Fr No w w' → Calls Tryz.prog f args w' (TellsT t w')) (dd : Nat) (os : Array Obj) :
    Calls Tryz.prog f args (grow (redrawn w dd) os) fun e w'' => e = .returned (sv t) ∧ ∃ p : Regrown, w'' = grow (redrawn w p.d) p.os :=
  Calls.regrown_of ((h _ (fr_reg w dd os)).mono fun _ _ ⟨h1, h2⟩ => ⟨h1, h2.below⟩)
def brT (b : Bool) (T : Tx) : Tx := if b then [40] ++ T ++ [41] else T
theorem showIn_of {v : Value} {w : World} {T : Tx} (H : Calls Tryz.prog 37 #[v] w (TellsT T w)) (bb : Bool) (hT : T.length ≤ 100000000) : Calls Tryz.prog 88 #[v, .bool bb] w (TellsT (brT bb T) w) := by
  have a1 : ∀ w0, (Op.stringOp .add ⟨#[40]⟩ ⟨T.toArray⟩).run Tryz.prog w0 = .ok (.string ⟨([40] ++ T).toArray⟩) w0 := fun w0 => run_cat [40] T (by unfold maxLen; simp; omega) w0
  have a2 : ∀ w0, (Op.stringOp .add ⟨([40] ++ T).toArray⟩ ⟨#[41]⟩).run Tryz.prog w0 = .ok (.string ⟨([40] ++ T ++ [41]).toArray⟩) w0 := fun w0 => run_cat _ [41] (by unfold maxLen; simp; omega) w0
  obtain ⟨X1, hX1⟩ : ∃ X, [40] ++ T = X := ⟨_, rfl⟩
  rw [hX1] at a1 a2
  obtain ⟨X2, hX2⟩ : ∃ X, X1 ++ [41] = X := ⟨_, rfl⟩
  rw [hX2] at a2
  have HV : Hid (brT true T = X2) := Lib.hid (by unfold brT; rw [if_pos rfl, hX1, hX2])
  have H2 := Lib.hid H
  clear H hX1 hX2
  go_enter Tryz.func88, Tryz.ntmps88
  go_wp2_with fail
  refine H2.out.mono ?_
  rintro e w2 ⟨rfl, f2⟩
  have HF := Lib.hid f2
  clear f2
  cases bb with
  | true =>
    go_wp2_with fail
    go_ret
    exact ⟨by rw [HV.out]; rfl, HF.out⟩
  | false =>
    go_wp2_with fail
    go_ret
    exact ⟨rfl, HF.out⟩
def CondOk (c : Cd) : Prop := ∀ (K : Nat → Prop) (v : Value) (w : World), CdAt K w c v → Pv w → (nodeT c).length ≤ 100000000 → Calls Tryz.prog 37 #[v] w (TellsT (nodeT c) w)
theorem CdAt.no' {K : Nat → Prop} {w w' : World} {c : Cd} {v : Value} (h : CdAt K w c v) (f : Fr No w w') : CdAt K w' c v := h.mono fun k hk hkl => ⟨hk, f.block k hkl id⟩
theorem child_in {c : Cd} (H : CondOk c) {K : Nat → Prop} {v : Value} {w : World} (hA : CdAt K w c v) (hp : Pv w) (hl : (nodeT c).length ≤ 100000000) (bb : Bool) (dd : Nat) (os : Array Obj) :
    Calls Tryz.prog 88 #[v, .bool bb] (grow (redrawn w dd) os) fun e w'' => e = .returned (sv (brT bb (nodeT c))) ∧ ∃ p : Regrown, w'' = grow (redrawn w p.d) p.os :=
  tellsT_grown (fun w' f' => showIn_of (H K v w' (hA.no' f') (hp.no f') hl) bb hl) dd os
theorem child_bare {c : Cd} (H : CondOk c) {K : Nat → Prop} {v : Value} {w : World} (hA : CdAt K w c v) (hp : Pv w) (hl : (nodeT c).length ≤ 100000000) (dd : Nat) (os : Array Obj) :
    Calls Tryz.prog 37 #[v] (grow (redrawn w dd) os) fun e w'' => e = .returned (sv (nodeT c)) ∧ ∃ p : Regrown, w'' = grow (redrawn w p.d) p.os :=
  tellsT_grown (fun w' f' => H K v w' (hA.no' f') (hp.no f') hl) dd os
theorem kind_pos {c : Cd} (hc : c ≠ .none) (h : ∃ d n m, rightC c d n = some m) : 1 ≤ c.kind := by
  cases c with
  | none => exact absurd rfl hc
  | node k l r col op vals =>
    obtain ⟨d, n, m, hr⟩ := h
    obtain ⟨h1, _, _, h4⟩ := nodeT_eq hr
    show 1 ≤ k
    rcases h1 with rfl | rfl | rfl | ⟨a, b, c⟩
    · omega
    · omega
    · omega
    · have := testR_kind (h4 a b c)
      omega
theorem condT_1 (c : Cd) : condT c 1 = brT (c.kind == 2) (nodeT c) := by
  unfold condT brT strK
  by_cases h : c.kind = 2
  · rw [if_pos h, if_neg (by omega), show (c.kind == 2) = true by simpa using h]; rfl
  · rw [if_neg h, show (c.kind == 2) = false by simpa using h]
    have : 1 ≤ (if c.kind = 1 then 1 else if c.kind = 3 then 2 else 3) := by
      by_cases h1 : c.kind = 1
      · rw [if_pos h1]; omega
      · rw [if_neg h1]; split <;> omega
    rw [if_pos this]; rfl
theorem condT_2 (c : Cd) (h1 : 1 ≤ c.kind) : condT c 2 = brT (decide (c.kind ≤ 2)) (nodeT c) := by
  unfold condT brT strK
  by_cases h : c.kind ≤ 2
  · rw [decide_eq_true h]
    have : ¬ 2 ≤ (if c.kind = 2 then 0 else if c.kind = 1 then 1 else if c.kind = 3 then 2 else 3) := by
      by_cases h2 : c.kind = 2
      · rw [if_pos h2]; omega
      · rw [if_neg h2, if_pos (by omega)]; omega
    rw [if_neg this]; rfl
  · rw [decide_eq_false h]
    have : 2 ≤ (if c.kind = 2 then 0 else if c.kind = 1 then 1 else if c.kind = 3 then 2 else 3) := by
      rw [if_neg (by omega), if_neg (by omega)]
      split <;> omega
    rw [if_pos this]; rfl
theorem condT_0 (c : Cd) : condT c 0 = nodeT c := by unfold condT; rw [if_pos (Nat.zero_le _)]
/-- A node's own cells, and that of its kind. -/
theorem CdAt.kindCell {K : Nat → Prop} {w : World} {c : Cd} {v : Value} (h : CdAt K w c v) (hc : c ≠ .none) : ∃ g o, v = .pointer (some ⟨g, o, none⟩) ∧ w.cell? ⟨g, o, none⟩ = some (.int .i64 c.kind) := by
  cases c with
  | none => exact absurd rfl hc
  | node k l r col op vals =>
    obtain ⟨g, o, L, R, V, rfl, h2, h3, c0, _⟩ := h
    exact ⟨g, o, rfl, c0⟩
set_option maxRecDepth 100000 in
set_option maxHeartbeats 16000000 in
theorem dcond_and {K : Nat → Prop} {l r : Cd} {col : Tx} {op : Int} {vals : List Vl} {v : Value} {w : World} (hl : CondOk l) (hr : CondOk r) (hlc : l ≠ .none) (hrc : r ≠ .none) (hr1 : 1 ≤ r.kind) (hA : CdAt K w (.node 1 l r col op vals) v) (hp : Pv w) {T : Tx} (hT : T = condT l 1 ++ [32, 65, 78, 68, 32] ++ condT r 2) (hlen : T.length ≤ 100000000) :
    Calls Tryz.prog 37 #[v] w (TellsT T w) := by
  obtain ⟨g, o, L, R, V, rfl, hK, hg, c0, c1, c2, _, _, _, hAl, hAr, _⟩ := hA
  obtain ⟨gl, ol, rfl, hkl⟩ := hAl.kindCell hlc
  obtain ⟨gr, or, rfl, hkr⟩ := hAr.kindCell hrc
  have b1 := cond_len l 1
  have b2 := cond_len r 2
  have hTl : T.length = (condT l 1).length + 5 + (condT r 2).length := by rw [hT]; simp; omega
  have K1 := fun dd os => child_in hl hAl hp (by omega) (l.kind == 2) dd os
  have K2 := fun dd os => child_in hr hAr hp (by omega) (decide (r.kind ≤ 2)) dd os
  rw [← condT_1] at K1
  rw [← condT_2 r hr1] at K2
  obtain ⟨TL, hTL⟩ : ∃ X, condT l 1 = X := ⟨_, rfl⟩
  obtain ⟨TR, hTR⟩ : ∃ X, condT r 2 = X := ⟨_, rfl⟩
  rw [hTL] at K1 hT hTl
  rw [hTR] at K2 hT hTl
  obtain ⟨kl, hkl'⟩ : ∃ k, l.kind = k := ⟨_, rfl⟩
  obtain ⟨kr, hkr'⟩ : ∃ k, r.kind = k := ⟨_, rfl⟩
  rw [hkl'] at hkl K1
  rw [hkr'] at hkr K2
  have z0 : w.cell? ⟨g, o, none⟩ = some (.int .i64 1) := c0
  have z1 : ∀ dd os, (grow (redrawn w dd) os).cell? ⟨g, o + 1, none⟩ = some (.pointer (some ⟨gl, ol, none⟩)) := fun dd os => cell_regrown c1 dd os
  have z2 : ∀ dd os, (grow (redrawn w dd) os).cell? ⟨g, o + 2, none⟩ = some (.pointer (some ⟨gr, or, none⟩)) := fun dd os => cell_regrown c2 dd os
  have z3 : ∀ dd os, (grow (redrawn w dd) os).cell? ⟨gl, ol, none⟩ = some (.int .i64 kl) := fun dd os => cell_regrown hkl dd os
  have z4 : ∀ dd os, (grow (redrawn w dd) os).cell? ⟨gr, or, none⟩ = some (.int .i64 kr) := fun dd os => cell_regrown hkr dd os
  have a1 : ∀ w0, (Op.stringOp .add ⟨TL.toArray⟩ ⟨#[32, 65, 78, 68, 32]⟩).run Tryz.prog w0 = .ok (.string ⟨(TL ++ [32, 65, 78, 68, 32]).toArray⟩) w0 := fun w0 => run_cat TL [32, 65, 78, 68, 32] (by unfold maxLen; simp; omega) w0
  have a2 : ∀ w0, (Op.stringOp .add ⟨(TL ++ [32, 65, 78, 68, 32]).toArray⟩ ⟨TR.toArray⟩).run Tryz.prog w0 = .ok (.string ⟨(TL ++ [32, 65, 78, 68, 32] ++ TR).toArray⟩) w0 := fun w0 => run_cat _ TR (by unfold maxLen; simp; omega) w0
  rw [← hT] at a2
  obtain ⟨X1, hX1⟩ : ∃ X, TL ++ [32, 65, 78, 68, 32] = X := ⟨_, rfl⟩
  rw [hX1] at a1 a2
  obtain ⟨bl, hbl⟩ : ∃ b, (kl == 2) = b := ⟨_, rfl⟩
  obtain ⟨br, hbr⟩ : ∃ b, decide (kr ≤ 2) = b := ⟨_, rfl⟩
  rw [hbl] at K1
  rw [hbr] at K2
  have K1 := Lib.hid K1
  have K2 := Lib.hid K2
  clear hl hr hlc hrc hr1 hAl hAr hp hT hlen b1 b2 hTl hTL hTR hkl' hkr' hkl hkr c0 c1 c2 hX1 hK hg
  go_enter Tryz.func37, Tryz.ntmps37
  go_upto_region 3 with fail
  clear z0
  refine wp_region_quiet_below mixedQ (by kernel_rfl) ?_
  repeat (first | go_big_quiet_step (first | (with_reducible exact K1.out _ _) | (with_reducible exact K2.out _ _)) | quiet_step (first | (with_reducible exact K1.out _ _) | (with_reducible exact K2.out _ _)))
  refine wpQuiet_nil ?_
  intro wx hp
  have HBW : Hid (Fr No w wx) := Lib.hid (by obtain ⟨p, rfl⟩ := hp; exact fr_reg _ _ _)
  clear hp
  go_wp2_with fail
  go_ret
  exact ⟨rfl, HBW.out⟩
set_option maxRecDepth 100000 in
set_option maxHeartbeats 16000000 in
theorem dcond_or {K : Nat → Prop} {l r : Cd} {col : Tx} {op : Int} {vals : List Vl} {v : Value} {w : World} (hl : CondOk l) (hr : CondOk r) (hlc : l ≠ .none) (hrc : r ≠ .none) (hr1 : 1 ≤ r.kind) (hA : CdAt K w (.node 2 l r col op vals) v) (hp : Pv w) {T : Tx} (hT : T = condT l 0 ++ [32, 79, 82, 32] ++ condT r 1) (hlen : T.length ≤ 100000000) :
    Calls Tryz.prog 37 #[v] w (TellsT T w) := by
  obtain ⟨g, o, L, R, V, rfl, hK, hg, c0, c1, c2, _, _, _, hAl, hAr, _⟩ := hA
  obtain ⟨gl, ol, rfl, hkl⟩ := hAl.kindCell hlc
  obtain ⟨gr, or, rfl, hkr⟩ := hAr.kindCell hrc
  have b1 := cond_len l 0
  have b2 := cond_len r 1
  have hTl : T.length = (condT l 0).length + 4 + (condT r 1).length := by rw [hT]; simp; omega
  have K1 := fun dd os => child_bare hl hAl hp (by omega) dd os
  have K2 := fun dd os => child_in hr hAr hp (by omega) (r.kind == 2) dd os
  rw [← condT_0] at K1
  rw [← condT_1] at K2
  obtain ⟨TL, hTL⟩ : ∃ X, condT l 0 = X := ⟨_, rfl⟩
  obtain ⟨TR, hTR⟩ : ∃ X, condT r 1 = X := ⟨_, rfl⟩
  rw [hTL] at K1 hT hTl
  rw [hTR] at K2 hT hTl
  obtain ⟨kl, hkl'⟩ : ∃ k, l.kind = k := ⟨_, rfl⟩
  obtain ⟨kr, hkr'⟩ : ∃ k, r.kind = k := ⟨_, rfl⟩
  rw [hkl'] at hkl
  rw [hkr'] at hkr K2
  have z0 : w.cell? ⟨g, o, none⟩ = some (.int .i64 2) := c0
  have z1 : ∀ dd os, (grow (redrawn w dd) os).cell? ⟨g, o + 1, none⟩ = some (.pointer (some ⟨gl, ol, none⟩)) := fun dd os => cell_regrown c1 dd os
  have z2 : ∀ dd os, (grow (redrawn w dd) os).cell? ⟨g, o + 2, none⟩ = some (.pointer (some ⟨gr, or, none⟩)) := fun dd os => cell_regrown c2 dd os
  have z3 : ∀ dd os, (grow (redrawn w dd) os).cell? ⟨gl, ol, none⟩ = some (.int .i64 kl) := fun dd os => cell_regrown hkl dd os
  have z4 : ∀ dd os, (grow (redrawn w dd) os).cell? ⟨gr, or, none⟩ = some (.int .i64 kr) := fun dd os => cell_regrown hkr dd os
  have a1 : ∀ w0, (Op.stringOp .add ⟨TL.toArray⟩ ⟨#[32, 79, 82, 32]⟩).run Tryz.prog w0 = .ok (.string ⟨(TL ++ [32, 79, 82, 32]).toArray⟩) w0 := fun w0 => run_cat TL [32, 79, 82, 32] (by unfold maxLen; simp; omega) w0
  have a2 : ∀ w0, (Op.stringOp .add ⟨(TL ++ [32, 79, 82, 32]).toArray⟩ ⟨TR.toArray⟩).run Tryz.prog w0 = .ok (.string ⟨(TL ++ [32, 79, 82, 32] ++ TR).toArray⟩) w0 := fun w0 => run_cat _ TR (by unfold maxLen; simp; omega) w0
  rw [← hT] at a2
  obtain ⟨X1, hX1⟩ : ∃ X, TL ++ [32, 79, 82, 32] = X := ⟨_, rfl⟩
  rw [hX1] at a1 a2
  obtain ⟨br, hbr⟩ : ∃ b, (kr == 2) = b := ⟨_, rfl⟩
  rw [hbr] at K2
  have K1 := Lib.hid K1
  have K2 := Lib.hid K2
  clear hl hr hlc hrc hr1 hAl hAr hp hT hlen b1 b2 hTl hTL hTR hkl' hkr' hkl hkr c0 c1 c2 hX1 hK hg
  go_enter Tryz.func37, Tryz.ntmps37
  go_upto_region 5 with fail
  clear z0
  refine wp_region_quiet_below mixedQ (by kernel_rfl) ?_
  repeat (first | go_big_quiet_step (first | (with_reducible exact K1.out _ _) | (with_reducible exact K2.out _ _)) | quiet_step (first | (with_reducible exact K1.out _ _) | (with_reducible exact K2.out _ _)))
  refine wpQuiet_nil ?_
  intro wx hp
  have HBW : Hid (Fr No w wx) := Lib.hid (by obtain ⟨p, rfl⟩ := hp; exact fr_reg _ _ _)
  clear hp
  go_wp2_with fail
  go_ret
  exact ⟨rfl, HBW.out⟩
set_option maxRecDepth 100000 in
set_option maxHeartbeats 16000000 in
theorem dcond_not {K : Nat → Prop} {l r : Cd} {col : Tx} {op : Int} {vals : List Vl} {v : Value} {w : World} (hl : CondOk l) (hlc : l ≠ .none) (hl1 : 1 ≤ l.kind) (hA : CdAt K w (.node 3 l r col op vals) v) (hp : Pv w) {T : Tx} (hT : T = [78, 79, 84, 32] ++ condT l 2) (hlen : T.length ≤ 100000000) :
    Calls Tryz.prog 37 #[v] w (TellsT T w) := by
  obtain ⟨g, o, L, R, V, rfl, hK, hg, c0, c1, c2, _, _, _, hAl, hAr, _⟩ := hA
  obtain ⟨gl, ol, rfl, hkl⟩ := hAl.kindCell hlc
  have b1 := cond_len l 2
  have hTl : T.length = 4 + (condT l 2).length := by rw [hT]; simp; omega
  have K1 := fun dd os => child_in hl hAl hp (by omega) (decide (l.kind ≤ 2)) dd os
  rw [← condT_2 l hl1] at K1
  obtain ⟨TL, hTL⟩ : ∃ X, condT l 2 = X := ⟨_, rfl⟩
  rw [hTL] at K1 hT hTl
  obtain ⟨kl, hkl'⟩ : ∃ k, l.kind = k := ⟨_, rfl⟩
  rw [hkl'] at hkl K1
  have z0 : w.cell? ⟨g, o, none⟩ = some (.int .i64 3) := c0
  have z1 : ∀ dd os, (grow (redrawn w dd) os).cell? ⟨g, o + 1, none⟩ = some (.pointer (some ⟨gl, ol, none⟩)) := fun dd os => cell_regrown c1 dd os
  have z3 : ∀ dd os, (grow (redrawn w dd) os).cell? ⟨gl, ol, none⟩ = some (.int .i64 kl) := fun dd os => cell_regrown hkl dd os
  have a1 : ∀ w0, (Op.stringOp .add ⟨#[78, 79, 84, 32]⟩ ⟨TL.toArray⟩).run Tryz.prog w0 = .ok (.string ⟨([78, 79, 84, 32] ++ TL).toArray⟩) w0 := fun w0 => run_cat [78, 79, 84, 32] TL (by unfold maxLen; simp; omega) w0
  rw [← hT] at a1
  obtain ⟨bl, hbl⟩ : ∃ b, decide (kl ≤ 2) = b := ⟨_, rfl⟩
  rw [hbl] at K1
  have K1 := Lib.hid K1
  clear hl hlc hl1 hAl hAr hp hT hlen b1 hTl hTL hkl' hkl c0 c1 c2 hK hg
  go_enter Tryz.func37, Tryz.ntmps37
  go_upto_region 7 with fail
  clear z0
  refine wp_region_quiet_below mixedQ (by kernel_rfl) ?_
  repeat (first | go_big_quiet_step (with_reducible exact K1.out _ _) | quiet_step (with_reducible exact K1.out _ _))
  refine wpQuiet_nil ?_
  intro wx hp
  have HBW : Hid (Fr No w wx) := Lib.hid (by obtain ⟨p, rfl⟩ := hp; exact fr_reg _ _ _)
  clear hp
  go_wp2_with fail
  go_ret
  exact ⟨rfl, HBW.out⟩
end Go.Proofs.YtkcnbmgaeompjaaGreatDoor
