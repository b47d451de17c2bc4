/- Tests, plain and in memory; how many nodes they have. -/
import Derived.Test.YtlpglijikmnopaaGreatDoorUGL
import Derived.Test.YtlpglijikmnopaaGreatDoorA7
import Derived.Lib.QuietBelow
import Derived.Deep.DeepCutAuto
namespace Go.Proofs.YtlpglijikmnopaaGreatDoor.Bd
open Go.RowKit Go.Maps Go.Sort
set_option linter.unusedVariables false

inductive Ts where
  | none
  | node (kind : Int) (left right : Ts) (meas : Bool) (index op : Int) (texts : List Tx) (ints : List Int)
deriving DecidableEq
def TsAt (K : Nat → Prop) (w : World) : Ts → Value → Prop
  | .none, v => v = .pointer none
  | .node k l r m i o ts ns, v => ∃ g f L R A B, v = .pointer (some ⟨g, f, none⟩) ∧ K g ∧ g < w.heap.size ∧ w.cell? ⟨g, f, none⟩ = some (.int .i64 k) ∧ w.cell? ⟨g, f + 1, none⟩ = some L ∧ w.cell? ⟨g, f + 2, none⟩ = some R ∧
      w.cell? ⟨g, f + 3, none⟩ = some (.bool m) ∧ w.cell? ⟨g, f + 4, none⟩ = some (.int .i64 i) ∧ w.cell? ⟨g, f + 5, none⟩ = some (.int .i64 o) ∧ w.cell? ⟨g, f + 6, none⟩ = some A ∧ w.cell? ⟨g, f + 7, none⟩ = some B ∧
      TsAt K w l L ∧ TsAt K w r R ∧ RowE K w 1 (strG K w) A ts ∧ RowE K w 1 (intG K w) B ns ∧ i64 k ∧ i64 i ∧ i64 o
theorem TsAt.mono {K K' : Nat → Prop} {w w' : World} (hk : ∀ k, K k → k < w.heap.size → K' k ∧ w'.heap[k]? = w.heap[k]?) : ∀ {c : Ts} {v : Value}, TsAt K w c v → TsAt K' w' c v
  | .none, v, h => h
  | .node k l r m i o ts ns, v, h => by
    obtain ⟨g, f, L, R, A, B, h1, h2, h3, c0, c1, c2, c3, c4, c5, c6, c7, hl, hr, ha, hb, h4⟩ := h
    obtain ⟨k1, k2⟩ := hk g h2 h3
    have hlt : g < w'.heap.size := by
      rcases Nat.lt_or_ge g w'.heap.size with h | h5
      · exact h
      · rw [Array.getElem?_eq_none h5, Array.getElem?_eq_getElem (by assumption)] at k2; cases k2
    exact ⟨g, f, L, R, A, B, h1, k1, hlt, by rw [cell_of_heap k2]; exact c0, by rw [cell_of_heap k2]; exact c1, by rw [cell_of_heap k2]; exact c2, by rw [cell_of_heap k2]; exact c3, by rw [cell_of_heap k2]; exact c4, by rw [cell_of_heap k2]; exact c5, by rw [cell_of_heap k2]; exact c6, by rw [cell_of_heap k2]; exact c7, hl.mono hk, hr.mono hk, ha.mono hk (fun _ _ h => h), hb.mono hk (fun _ _ h => h), h4⟩
theorem TsAt.no {K : Nat → Prop} {w w' : World} {c : Ts} {v : Value} (h : TsAt K w c v) (f : Fr No w w') : TsAt K w' c v := h.mono fun k hk hkl => ⟨hk, f.block k hkl id⟩
theorem TsAt.ptr {K : Nat → Prop} {w : World} {c : Ts} {v : Value} (h : TsAt K w c v) : (c = .none ∧ v = .pointer none) ∨ (c ≠ .none ∧ ∃ g o, v = .pointer (some ⟨g, o, none⟩)) := by
  cases c with
  | none => exact .inl ⟨rfl, h⟩
  | node k l r m i o ts ns =>
    obtain ⟨g, f, L, R, A, B, h1, _⟩ := h
    exact .inr ⟨(fun e => by cases e), g, f, h1⟩
def Ts.size : Ts → Nat
  | .none => 0
  | .node _ l r _ _ _ _ _ => 1 + l.size + r.size
/-- What is left of so many nodes. -/
def leftT : Ts → Int → Int
  | .none, m => m
  | .node _ l r _ _ _ _ _, m => if m < 0 then m else leftT r (leftT l (m - 1))
theorem left_node (k : Int) (l r : Ts) (a : Bool) (b c : Int) (d : List Tx) (e : List Int) (m : Int) : leftT (.node k l r a b c d e) m = if m < 0 then m else leftT r (leftT l (m - 1)) := by conv => lhs; unfold leftT
theorem left_bounds : ∀ (t : Ts) (m : Int), -1 ≤ m → -1 ≤ leftT t m ∧ leftT t m ≤ m
  | .none, m, h => ⟨h, Int.le_refl _⟩
  | .node k l r _ _ _ _ _, m, h => by
    unfold leftT
    split
    · exact ⟨h, Int.le_refl _⟩
    · obtain ⟨a, b⟩ := left_bounds l (m - 1) (by omega)
      obtain ⟨c, d⟩ := left_bounds r _ a
      exact ⟨c, by omega⟩
theorem left_neg (t : Ts) (m : Int) (h : m < 0) : leftT t m = m := by
  cases t with
  | none => rfl
  | node => unfold leftT; rw [if_pos h]
theorem left_size : ∀ (t : Ts) (m : Int), 0 ≤ m → (((t.size : Nat) : Int) ≤ m → leftT t m = m - (t.size : Nat)) ∧ (m < (t.size : Nat) → leftT t m = -1)
  | .none, m, h => ⟨fun _ => by show m = m - 0; omega, fun h2 => by have : m < 0 := h2; omega⟩
  | .node k l r a b c d e, m, h => by
    have hs : (Ts.node k l r a b c d e).size = 1 + l.size + r.size := rfl
    have hu : leftT (.node k l r a b c d e) m = leftT r (leftT l (m - 1)) := by rw [left_node, if_neg (by omega)]
    rw [hs, hu]
    by_cases h0 : m = 0
    · subst h0
      rw [left_neg l (0 - 1) (by omega), left_neg r _ (by omega)]
      exact ⟨fun h => by omega, fun _ => rfl⟩
    · obtain ⟨l1, l2⟩ := left_size l (m - 1) (by omega)
      by_cases hl : ((l.size : Nat) : Int) ≤ m - 1
      · rw [l1 hl]
        obtain ⟨r1, r2⟩ := left_size r (m - 1 - (l.size : Nat)) (by omega)
        exact ⟨fun h => by rw [r1 (by omega)]; omega, fun h => r2 (by omega)⟩
      · rw [l2 (by omega), left_neg r _ (by omega)]
        exact ⟨fun h => by omega, fun _ => rfl⟩
def greatB (t : Ts) : Bool := decide (4096 < t.size)
theorem great_left (t : Ts) : decide (leftT t 4096 < 0) = greatB t := by
  unfold greatB
  obtain ⟨a, b⟩ := left_size t 4096 (by omega)
  by_cases h : 4096 < t.size
  · rw [b (by omega), decide_eq_true h]; rfl
  · rw [a (by omega), decide_eq_false h]
    exact decide_eq_false (by omega)
set_option maxRecDepth 100000 in
theorem nodesLeft_any (K : Nat → Prop) : ∀ (t : Ts) (v : Value) (w : World) (m : Int), TsAt K w t v → -1 ≤ m → m ≤ 10000 → Calls Tryz.prog 85 #[v, .int .i64 m] w (TellsI (leftT t m) w)
  | .none, v, w, m, h, h1, h2 => by
    obtain rfl : v = .pointer none := h
    show Calls Tryz.prog 85 #[.pointer none, .int .i64 m] w (TellsI m w)
    go_enter Tryz.func85, Tryz.ntmps85
    go_wp2_with fail
    go_ret
    exact ⟨rfl, Fr.refl _ _⟩
  | .node k l r a b c d e, v, w, m, h, h1, h2 => by
    obtain ⟨g, f, L, R, A, B, rfl, hK, hg, c0, c1, c2, -, -, -, -, -, hl, hr, -⟩ := h
    by_cases hm : m < 0
    · have hv : leftT (.node k l r a b c d e) m = m := left_neg _ m hm
      rw [hv]
      have hmi : (m < 0) = True := eq_true hm
      clear hl hr c0 c1 c2 hv
      go_enter Tryz.func85, Tryz.ntmps85
      go_wp2_with fail
      go_ret
      exact ⟨rfl, Fr.refl _ _⟩
    · have hmi : (m < 0) = False := eq_false hm
      obtain ⟨pl, rfl⟩ : ∃ p, L = .pointer p := by rcases hl.ptr with ⟨_, e⟩ | ⟨_, _, _, e⟩ <;> exact ⟨_, e⟩
      obtain ⟨pr, rfl⟩ : ∃ p, R = .pointer p := by rcases hr.ptr with ⟨_, e⟩ | ⟨_, _, _, e⟩ <;> exact ⟨_, e⟩
      have hw : IntKind.i64.wrap (m - 1) = m - 1 := IntWalk.i64_in _ (by omega)
      obtain ⟨b1, b2⟩ := left_bounds l (m - 1) (by omega)
      have HLT := Lib.hid hl
      have HR := Lib.hid (fun w' f' => nodesLeft_any K r _ w' (leftT l (m - 1)) (hr.no f') b1 (by omega))
      have HV : Hid (leftT (.node k l r a b c d e) m = leftT r (leftT l (m - 1))) := Lib.hid (by rw [left_node, if_neg hm])
      obtain ⟨x, hx⟩ : ∃ x, leftT l (m - 1) = x := ⟨_, rfl⟩
      rw [hx] at HR HV
      clear hl hr b1 b2
      have z1 : ∀ dd os, (grow (redrawn w dd) os).cell? ⟨g, f + 1, none⟩ = some (.pointer pl) := fun dd os => cell_regrown c1 dd os
      have z2 : ∀ dd os, (grow (redrawn w dd) os).cell? ⟨g, f + 2, none⟩ = some (.pointer pr) := fun dd os => cell_regrown c2 dd os
      have K1 := Lib.hid (fun dd os => tells_grown (w := w) (fun w' f' => nodesLeft_any K l _ w' (m - 1) (HLT.out.no f') (by omega) (by omega)) dd os)
      have K2 := Lib.hid (fun dd os => tells_grown (w := w) (fun w' f' => HR.out w' f') dd os)
      rw [hx] at K1
      clear c0 c1 c2 hx HR HLT
      go_enter Tryz.func85, Tryz.ntmps85
      go_upto_region 3 with fail
      refine wp_region_quiet_below mixedB (by kernel_rfl) ?_
      repeat (first | go_big_quiet_step (first | (with_reducible exact K1.out _ _) | (with_reducible exact K2.out _ _)) | quiet_step (first | (with_reducible exact K1.out _ _) | (with_reducible exact K2.out _ _)))
      refine wpQuiet_nil ?_
      intro wx hp
      have HBW : Hid (Fr No w wx) := Lib.hid (by obtain ⟨p, rfl⟩ := hp; exact fr_reg _ _ _)
      clear hp
      go_wp2_with fail
      go_ret
      exact ⟨by rw [HV.out]; rfl, HBW.out⟩
theorem great_any (K : Nat → Prop) (t : Ts) (v : Value) (w : World) (h : TsAt K w t v) : Calls Tryz.prog 65 #[v] w (TellsB (greatB t) w) := by
  have HC := Lib.hid (nodesLeft_any K t v w 4096 h (by omega) (by omega))
  have HV := Lib.hid (great_left t)
  obtain ⟨x, hx⟩ : ∃ x, leftT t 4096 = x := ⟨_, rfl⟩
  rw [hx] at HC HV
  rw [← HV.out]
  obtain ⟨p, rfl⟩ : ∃ p, v = .pointer p := by rcases h.ptr with ⟨_, e⟩ | ⟨_, _, _, e⟩ <;> exact ⟨_, e⟩
  clear h hx
  go_enter Tryz.func65, Tryz.ntmps65
  go_wp2_with fail
  refine HC.out.mono ?_
  rintro e w2 ⟨rfl, f2⟩
  have HF := Lib.hid f2
  clear f2
  go_wp2_with fail
  go_ret
  exact ⟨rfl, HF.out⟩
end Go.Proofs.YtlpglijikmnopaaGreatDoor.Bd
namespace Go.Proofs.YtlpglijikmnopaaGreatDoor.Bd
open Go.RowKit Go.Maps Go.Sort
set_option linter.unusedVariables false

def isAsB (op c : Int) : Bool := if op = 1 then c == 0 else if op = 2 then c != 0 else if op = 3 then decide (c < 0) else if op = 4 then decide (c ≤ 0) else if op = 5 then decide (0 < c) else if op = 6 then decide (0 ≤ c) else false
theorem isAs_any (op c : Int) (w : World) : Calls Tryz.prog 138 #[.int .i64 op, .int .i64 c] w (TellsB (isAsB op c) w) := by
  by_cases h1 : op = 1
  · subst h1
    go_enter Tryz.func138, Tryz.ntmps138
    go_wp2_with fail
    go_ret
    exact ⟨rfl, Fr.refl _ _⟩
  have k1 : (op == 1) = false := by simpa using h1
  by_cases h2 : op = 2
  · subst h2
    go_enter Tryz.func138, Tryz.ntmps138
    go_wp2_with fail
    go_ret
    exact ⟨rfl, Fr.refl _ _⟩
  have k2 : (op == 2) = false := by simpa using h2
  by_cases h3 : op = 3
  · subst h3
    go_enter Tryz.func138, Tryz.ntmps138
    go_wp2_with fail
    go_ret
    exact ⟨rfl, Fr.refl _ _⟩
  have k3 : (op == 3) = false := by simpa using h3
  by_cases h4 : op = 4
  · subst h4
    go_enter Tryz.func138, Tryz.ntmps138
    go_wp2_with fail
    go_ret
    exact ⟨rfl, Fr.refl _ _⟩
  have k4 : (op == 4) = false := by simpa using h4
  by_cases h5 : op = 5
  · subst h5
    go_enter Tryz.func138, Tryz.ntmps138
    go_wp2_with fail
    go_ret
    exact ⟨rfl, Fr.refl _ _⟩
  have k5 : (op == 5) = false := by simpa using h5
  by_cases h6 : op = 6
  · subst h6
    go_enter Tryz.func138, Tryz.ntmps138
    go_wp2_with fail
    go_ret
    exact ⟨rfl, Fr.refl _ _⟩
  have k6 : (op == 6) = false := by simpa using h6
  have HV : Hid (isAsB op c = false) := Lib.hid (by unfold isAsB; rw [if_neg h1, if_neg h2, if_neg h3, if_neg h4, if_neg h5, if_neg h6])
  go_enter Tryz.func138, Tryz.ntmps138
  go_wp2_with fail
  go_ret
  exact ⟨by rw [HV.out]; rfl, Fr.refl _ _⟩
def cmpI (a b : Int) : Int := if a < b then -1 else if b < a then 1 else 0
def cmpS (a b : Tx) : Int := if Op.bytesLess a b then -1 else if (a == b) then 0 else 1
theorem nanI_any (a : Int) (w : World) : Calls Tryz.prog 147 #[.int .i64 a] w (TellsB false w) := by
  go_enter Tryz.func147, Tryz.ntmps147
  go_wp2_with fail
  go_ret
  exact ⟨by first | rfl | simp, Fr.refl _ _⟩
theorem nanS_any (a : Tx) (w : World) : Calls Tryz.prog 107 #[sv a] w (TellsB false w) := by
  go_enter Tryz.func107, Tryz.ntmps107
  go_wp2_with fail
  go_ret
  exact ⟨by first | rfl | simp, Fr.refl _ _⟩
theorem cmpI_any (a b : Int) (w : World) : Calls Tryz.prog 139 #[.int .i64 a, .int .i64 b] w (TellsI (cmpI a b) w) := by
  have H := Lib.hid (fun x w => nanI_any x w)
  by_cases h1 : a < b
  · have HV : Hid (cmpI a b = -1) := Lib.hid (by unfold cmpI; rw [if_pos h1])
    have k1 : (a < b) = True := eq_true h1
    go_enter Tryz.func139, Tryz.ntmps139
    go_wp2_with fail
    refine (H.out a w).mono ?_
    rintro e w2 ⟨rfl, f2⟩
    have HF := Lib.hid f2
    clear f2
    go_wp2_with fail
    refine (H.out b w2).mono ?_
    rintro e w3 ⟨rfl, f3⟩
    have HF3 := Lib.hid (HF.out.trans f3 fun _ _ h => h)
    clear f3
    go_wp2_with fail
    go_ret
    exact ⟨by rw [HV.out]; rfl, HF3.out⟩
  · by_cases h2 : b < a
    · have HV : Hid (cmpI a b = 1) := Lib.hid (by unfold cmpI; rw [if_neg h1, if_pos h2])
      have k1 : (a < b) = False := eq_false h1
      have k2 : (b < a) = True := eq_true h2
      go_enter Tryz.func139, Tryz.ntmps139
      go_wp2_with fail
      refine (H.out a w).mono ?_
      rintro e w2 ⟨rfl, f2⟩
      have HF := Lib.hid f2
      clear f2
      go_wp2_with fail
      refine (H.out b w2).mono ?_
      rintro e w3 ⟨rfl, f3⟩
      have HF3 := Lib.hid (HF.out.trans f3 fun _ _ h => h)
      clear f3
      go_wp2_with fail
      go_ret
      exact ⟨by rw [HV.out]; rfl, HF3.out⟩
    · have HV : Hid (cmpI a b = 0) := Lib.hid (by unfold cmpI; rw [if_neg h1, if_neg h2])
      have k1 : (a < b) = False := eq_false h1
      have k2 : (b < a) = False := eq_false h2
      go_enter Tryz.func139, Tryz.ntmps139
      go_wp2_with fail
      refine (H.out a w).mono ?_
      rintro e w2 ⟨rfl, f2⟩
      have HF := Lib.hid f2
      clear f2
      go_wp2_with fail
      refine (H.out b w2).mono ?_
      rintro e w3 ⟨rfl, f3⟩
      have HF3 := Lib.hid (HF.out.trans f3 fun _ _ h => h)
      clear f3
      go_wp2_with fail
      go_ret
      exact ⟨by rw [HV.out]; rfl, HF3.out⟩
theorem cmpS_any (a b : Tx) (w : World) : Calls Tryz.prog 84 #[sv a, sv b] w (TellsI (cmpS a b) w) := by
  have H := Lib.hid (fun x w => nanS_any x w)
  cases h1 : Op.bytesLess a b with
  | true =>
    have HV : Hid (cmpS a b = -1) := Lib.hid (by unfold cmpS; rw [h1]; rfl)
    go_enter Tryz.func84, Tryz.ntmps84
    go_wp2_with fail
    refine (H.out a w).mono ?_
    rintro e w2 ⟨rfl, f2⟩
    have HF := Lib.hid f2
    clear f2
    go_wp2_with fail
    refine (H.out b w2).mono ?_
    rintro e w3 ⟨rfl, f3⟩
    have HF3 := Lib.hid (HF.out.trans f3 fun _ _ h => h)
    clear f3
    go_wp2_with fail
    go_ret
    exact ⟨by rw [HV.out]; rfl, HF3.out⟩
  | false =>
    cases h2 : (a == b) with
    | false =>
      have HV : Hid (cmpS a b = 1) := Lib.hid (by unfold cmpS; rw [h1, h2]; rfl)
      go_enter Tryz.func84, Tryz.ntmps84
      go_wp2_with fail
      refine (H.out a w).mono ?_
      rintro e w2 ⟨rfl, f2⟩
      have HF := Lib.hid f2
      clear f2
      go_wp2_with fail
      refine (H.out b w2).mono ?_
      rintro e w3 ⟨rfl, f3⟩
      have HF3 := Lib.hid (HF.out.trans f3 fun _ _ h => h)
      clear f3
      go_wp2_with fail
      go_ret
      exact ⟨by rw [HV.out]; rfl, HF3.out⟩
    | true =>
      have HV : Hid (cmpS a b = 0) := Lib.hid (by unfold cmpS; rw [h1, h2]; rfl)
      go_enter Tryz.func84, Tryz.ntmps84
      go_wp2_with fail
      refine (H.out a w).mono ?_
      rintro e w2 ⟨rfl, f2⟩
      have HF := Lib.hid f2
      clear f2
      go_wp2_with fail
      refine (H.out b w2).mono ?_
      rintro e w3 ⟨rfl, f3⟩
      have HF3 := Lib.hid (HF.out.trans f3 fun _ _ h => h)
      clear f3
      go_wp2_with fail
      go_ret
      exact ⟨by rw [HV.out]; rfl, HF3.out⟩
/-! ### what is in a list -/
def idxA {α : Type} [DecidableEq α] (l : List α) (x : α) : Int := match l.findIdx? (fun y => decide (y = x)) with | some i => (i : Int) | none => -1
theorem idxA_some {α : Type} [DecidableEq α] {l : List α} {x : α} {j : Nat} (h : j < l.length) (h0 : (l.take j).any (fun y => decide (y = x)) = false) (hx : l[j] = x) : idxA l x = (j : Int) := by
  have : l.findIdx? (fun y => decide (y = x)) = some j := by
    rw [List.findIdx?_eq_some_iff_getElem]
    refine ⟨h, by simpa using hx, fun i hi => ?_⟩
    have h1 : l[i] ∈ l.take j := by
      rw [List.mem_take_iff_getElem]
      exact ⟨i, by omega, rfl⟩
    have := List.any_eq_false.1 h0 _ h1
    exact this
  unfold idxA
  rw [this]
theorem idxA_none {α : Type} [DecidableEq α] {l : List α} {x : α} (h : l.any (fun y => decide (y = x)) = false) : idxA l x = -1 := by
  have : l.findIdx? (fun y => decide (y = x)) = none := by
    rw [List.findIdx?_eq_none_iff]
    intro a ha
    have := List.any_eq_false.1 h a ha
    simpa using this
  unfold idxA
  rw [this]
theorem any_take {α : Type} {l : List α} {p : α → Bool} {j : Nat} (h : j < l.length) (h0 : (l.take j).any p = false) (hx : p l[j] = false) : (l.take (j + 1)).any p = false := by
  rw [← List.take_append_getElem h, List.any_append, h0]; simp [hx]
theorem idxA_any {α : Type} [DecidableEq α] (l : List α) (x : α) : decide (0 ≤ idxA l x) = l.any (fun y => decide (y = x)) := by
  cases h : l.any (fun y => decide (y = x)) with
  | false => rw [idxA_none h]; rfl
  | true =>
    unfold idxA
    cases hf : l.findIdx? (fun y => decide (y = x)) with
    | some i => simp
    | none =>
      rw [List.findIdx?_eq_none_iff] at hf
      obtain ⟨a, ha, hax⟩ := List.any_eq_true.1 h
      have := hf a ha
      rw [hax] at this
      cases this
theorem eql_strB (s t : Tx) (w : World) : (binOp .eql 9 (sv s) (sv t)).run Tryz.prog w = .ok (.bool (decide (s = t))) w := by
  by_cases h : s = t
  · subst h
    simp [go_sem, sv]
  · rw [decide_eq_false h]
    simp [go_sem, sv, h]
set_option maxRecDepth 100000 in
theorem indexS_any {K : Nat → Prop} {l : List Tx} {v : Value} (t : Tx) (w : World) (h : RowE K w 1 (strG K w) v l) : Calls Tryz.prog 149 #[v, sv t] w (TellsI (idxA l t) w) := by
  obtain ⟨A, c, rfl, hlc, hcm, hrow⟩ := h
  obtain ⟨n, hn⟩ : ∃ n, l.length = n := ⟨_, rfl⟩
  rw [hn] at hlc ⊢
  have HROW := Lib.hid hrow
  have HN := Lib.hid hn
  unfold maxLen at hcm
  clear hrow hn
  go_enter Tryz.func149, Tryz.ntmps149
  go_wp2_with fail
  go_loopg [5, 8] n (fun k r5 r8 wr => Hid (∃ j : Nat, r8 = .int .i64 (j : Nat) ∧ j + k = n ∧ w = wr ∧ (l.take j).any (fun y => decide (y = t)) = false))
  case atStart => exact Lib.hid ⟨0, rfl, by omega, rfl, rfl⟩
  case round =>
    obtain ⟨j, rfl, hjn, rfl, hall⟩ := hrel.out
    have HALL := Lib.hid hall
    clear hrel hall
    by_cases hj : j < n
    · have hji : (j : Int) < (n : Int) := by omega
      have hjl : j < l.length := by rw [HN.out]; exact hj
      obtain ⟨g, off, rfl, hK, hg, hel⟩ := HROW.out (by omega)
      obtain ⟨cs, hcl, hcs, hE⟩ := hel j hjl
      obtain ⟨x, hx⟩ : ∃ x, l[j] = x := ⟨_, rfl⟩
      have HX := Lib.hid hx
      rw [hx] at hE
      obtain ⟨hE, hxl⟩ := hE
      have e0 : w.cell? ⟨g, off + j, none⟩ = some (sv x) := by have := hcs 0 (by decide); rw [hE] at this; simpa using this
      have heq := eql_strB t x
      clear hcs hcl hel hK hE hx hg
      by_cases hxt : t = x
      · have HV : Hid (idxA l t = (j : Int)) := Lib.hid (idxA_some hjl HALL.out (by rw [HX.out, hxt]))
        rw [decide_eq_true hxt] at heq
        have heqb : (t == x) = true := by simpa using hxt
        clear hxt
        go_wp2_with fail
        go_ret
        exact ⟨by rw [HV.out]; rfl, Fr.refl _ _⟩
      · have HT : Hid ((l.take (j + 1)).any (fun y => decide (y = t)) = false) := Lib.hid (any_take hjl HALL.out (by rw [HX.out]; simp; exact fun e => hxt e.symm))
        rw [decide_eq_false hxt] at heq
        have heqb : (t == x) = false := by simpa using hxt
        clear hxt
        go_wp2_with fail
        obtain ⟨g1, rfl⟩ : ∃ g1, gk = g1 + 1 := ⟨gk - 1, by omega⟩
        go_roundg g1
        case rel => exact Lib.hid ⟨j + 1, by go_num, by omega, rfl, HT.out⟩
        all_goals omega
    · have hji : (n : Int) ≤ (j : Int) := by omega
      have HV : Hid (idxA l t = -1) := Lib.hid (idxA_none (by have := HALL.out; rwa [List.take_of_length_le (by rw [HN.out]; omega)] at this))
      go_wp2_with fail
      go_ret
      exact ⟨by rw [HV.out]; rfl, Fr.refl _ _⟩
set_option maxRecDepth 100000 in
theorem indexI_any {K : Nat → Prop} {l : List Int} {v : Value} (t : Int) (w : World) (h : RowE K w 1 (intG K w) v l) : Calls Tryz.prog 148 #[v, .int .i64 t] w (TellsI (idxA l t) w) := by
  obtain ⟨A, c, rfl, hlc, hcm, hrow⟩ := h
  obtain ⟨n, hn⟩ : ∃ n, l.length = n := ⟨_, rfl⟩
  rw [hn] at hlc ⊢
  have HROW := Lib.hid hrow
  have HN := Lib.hid hn
  unfold maxLen at hcm
  clear hrow hn
  go_enter Tryz.func148, Tryz.ntmps148
  go_wp2_with fail
  go_loopg [5, 8] n (fun k r5 r8 wr => Hid (∃ j : Nat, r8 = .int .i64 (j : Nat) ∧ j + k = n ∧ w = wr ∧ (l.take j).any (fun y => decide (y = t)) = false))
  case atStart => exact Lib.hid ⟨0, rfl, by omega, rfl, rfl⟩
  case round =>
    obtain ⟨j, rfl, hjn, rfl, hall⟩ := hrel.out
    have HALL := Lib.hid hall
    clear hrel hall
    by_cases hj : j < n
    · have hji : (j : Int) < (n : Int) := by omega
      have hjl : j < l.length := by rw [HN.out]; exact hj
      obtain ⟨g, off, rfl, hK, hg, hel⟩ := HROW.out (by omega)
      obtain ⟨cs, hcl, hcs, hE⟩ := hel j hjl
      obtain ⟨x, hx⟩ : ∃ x, l[j] = x := ⟨_, rfl⟩
      have HX := Lib.hid hx
      rw [hx] at hE
      obtain ⟨hE, hxl⟩ := hE
      have e0 : w.cell? ⟨g, off + j, none⟩ = some (.int .i64 x) := by have := hcs 0 (by decide); rw [hE] at this; simpa using this
      clear hcs hcl hel hK hE hx hg
      by_cases hxt : t = x
      · have HV : Hid (idxA l t = (j : Int)) := Lib.hid (idxA_some hjl HALL.out (by rw [HX.out, hxt]))
        have heq : (t == x) = true := by simpa using hxt
        clear hxt
        go_wp2_with fail
        go_ret
        exact ⟨by rw [HV.out]; rfl, Fr.refl _ _⟩
      · have HT : Hid ((l.take (j + 1)).any (fun y => decide (y = t)) = false) := Lib.hid (any_take hjl HALL.out (by rw [HX.out]; simp; exact fun e => hxt e.symm))
        have heq : (t == x) = false := by simpa using hxt
        clear hxt
        go_wp2_with fail
        obtain ⟨g1, rfl⟩ : ∃ g1, gk = g1 + 1 := ⟨gk - 1, by omega⟩
        go_roundg g1
        case rel => exact Lib.hid ⟨j + 1, by go_num, by omega, rfl, HT.out⟩
        all_goals omega
    · have hji : (n : Int) ≤ (j : Int) := by omega
      have HV : Hid (idxA l t = -1) := Lib.hid (idxA_none (by have := HALL.out; rwa [List.take_of_length_le (by rw [HN.out]; omega)] at this))
      go_wp2_with fail
      go_ret
      exact ⟨by rw [HV.out]; rfl, Fr.refl _ _⟩
theorem containsS_any {K : Nat → Prop} {l : List Tx} {v : Value} (t : Tx) (w : World) (h : RowE K w 1 (strG K w) v l) : Calls Tryz.prog 141 #[v, sv t] w (TellsB (l.any (fun y => decide (y = t))) w) := by
  have HC := Lib.hid (indexS_any t w h)
  have HV := Lib.hid (idxA_any l t)
  obtain ⟨A, c, rfl, _⟩ := h
  obtain ⟨i, hi⟩ : ∃ i, idxA l t = i := ⟨_, rfl⟩
  rw [hi] at HC HV
  rw [← HV.out]
  clear hi
  go_enter Tryz.func141, Tryz.ntmps141
  go_wp2_with fail
  refine HC.out.mono ?_
  rintro e w2 ⟨rfl, f2⟩
  have HF := Lib.hid f2
  clear f2
  go_wp2_with fail
  go_ret
  exact ⟨rfl, HF.out⟩
theorem containsI_any {K : Nat → Prop} {l : List Int} {v : Value} (t : Int) (w : World) (h : RowE K w 1 (intG K w) v l) : Calls Tryz.prog 140 #[v, .int .i64 t] w (TellsB (l.any (fun y => decide (y = t))) w) := by
  have HC := Lib.hid (indexI_any t w h)
  have HV := Lib.hid (idxA_any l t)
  obtain ⟨A, c, rfl, _⟩ := h
  obtain ⟨i, hi⟩ : ∃ i, idxA l t = i := ⟨_, rfl⟩
  rw [hi] at HC HV
  rw [← HV.out]
  clear hi
  go_enter Tryz.func140, Tryz.ntmps140
  go_wp2_with fail
  refine HC.out.mono ?_
  rintro e w2 ⟨rfl, f2⟩
  have HF := Lib.hid f2
  clear f2
  go_wp2_with fail
  go_ret
  exact ⟨rfl, HF.out⟩
end Go.Proofs.YtlpglijikmnopaaGreatDoor.Bd
namespace Go.Proofs.YtlpglijikmnopaaGreatDoor.Bd
open Go.RowKit Go.Maps Go.Sort
set_option linter.unusedVariables false

def leafS (kind idx op : Int) (has vals : List Tx) : Bool :=
  if idx < 0 ∨ (has.length : Int) ≤ idx ∨ vals = [] then false
  else if kind = 4 then isAsB op (cmpS (has.getD idx.toNat []) (vals.headD []))
  else if kind = 5 then vals.any (fun y => decide (y = has.getD idx.toNat [])) else false
def leafI (kind idx op : Int) (has vals : List Int) : Bool :=
  if idx < 0 ∨ (has.length : Int) ≤ idx ∨ vals = [] then false
  else if kind = 4 then isAsB op (cmpI (has.getD idx.toNat 0) (vals.headD 0))
  else if kind = 5 then vals.any (fun y => decide (y = has.getD idx.toNat 0)) else false
theorem row_at {α : Type} [Inhabited α] {K : Nat → Prop} {w : World} {E : α → List Value → Prop} {A : Option Addr} {n c : Nat} {l : List α} (h : RowE K w 1 E (.slice A n c) l) {j : Nat} (hj : j < l.length) :
    ∃ g off, A = some ⟨g, off, none⟩ ∧ ∃ cs, (∀ i, i < 1 → w.cell? ⟨g, off + j * 1 + i, none⟩ = cs[i]?) ∧ E l[j] cs := by
  obtain ⟨A', c', e, _, _, hrow⟩ := h
  injection e with e1 e2 e3
  subst e1
  obtain ⟨g, off, rfl, hK, hg, hel⟩ := hrow (by omega)
  obtain ⟨cs, _, hcs, hE⟩ := hel j hj
  exact ⟨g, off, rfl, cs, hcs, hE⟩
set_option maxRecDepth 100000 in
set_option maxHeartbeats 4000000 in
theorem holdsOfS_any {K K2 : Nat → Prop} {g f : Nat} {kind idx op : Int} {has vals : List Tx} {hv vv : Value} (w : World) (c0 : w.cell? ⟨g, f, none⟩ = some (.int .i64 kind)) (c4 : w.cell? ⟨g, f + 4, none⟩ = some (.int .i64 idx)) (c5 : w.cell? ⟨g, f + 5, none⟩ = some (.int .i64 op))
    (hH : RowE K w 1 (strG K w) hv has) (hV : RowE K2 w 1 (strG K2 w) vv vals) : Calls Tryz.prog 129 #[.pointer (some ⟨g, f, none⟩), hv, vv] w (TellsB (leafS kind idx op has vals) w) := by
  have hH0 := hH
  have hV0 := hV
  obtain ⟨A1, k1, rfl, hl1, hm1, -⟩ := hH0
  obtain ⟨A2, k2, rfl, hl2, hm2, -⟩ := hV0
  have HEND : Hid (∀ b e w', leafS kind idx op has vals = b → e = .returned (.bool b) → Fr No w w' → TellsB (leafS kind idx op has vals) w e w') := Lib.hid fun b e w' h1 h2 h3 => ⟨by rw [h2, h1], h3⟩
  by_cases h1 : idx < 0
  · have HV : Hid (leafS kind idx op has vals = false) := Lib.hid (by unfold leafS; rw [if_pos (.inl h1)])
    have i1 : (idx < 0) = True := eq_true h1
    clear hH hV
    go_enter Tryz.func129, Tryz.ntmps129
    go_wp2_with fail
    go_ret
    exact HEND.out _ _ _ HV.out rfl (Fr.refl _ _)
  have i1 : (idx < 0) = False := eq_false h1
  obtain ⟨j, rfl⟩ : ∃ j : Nat, idx = (j : Int) := ⟨idx.toNat, by omega⟩
  by_cases h2 : has.length ≤ j
  · have HV : Hid (leafS kind j op has vals = false) := Lib.hid (by unfold leafS; rw [if_pos (.inr (.inl (by omega)))])
    have i2 : ((has.length : Int) ≤ (j : Int)) = True := eq_true (by omega)
    clear hH hV
    go_enter Tryz.func129, Tryz.ntmps129
    go_wp2_with fail
    go_ret
    exact HEND.out _ _ _ HV.out rfl (Fr.refl _ _)
  have i2 : ((has.length : Int) ≤ (j : Int)) = False := eq_false (by omega)
  cases vals with
  | nil =>
    have HV : Hid (leafS kind j op has [] = false) := Lib.hid (by unfold leafS; rw [if_pos (.inr (.inr rfl))])
    clear hH hV
    go_enter Tryz.func129, Tryz.ntmps129
    go_wp2_with fail
    go_ret
    exact HEND.out _ _ _ HV.out rfl (Fr.refl _ _)
  | cons y vals =>
  have hno : ¬ ((j : Int) < 0 ∨ (has.length : Int) ≤ (j : Int) ∨ y :: vals = []) := by
    rintro (h | h | h)
    · omega
    · omega
    · cases h
  have i3 : ((((y :: vals).length : Nat) : Int) == 0) = false := by simp; omega
  have hjl : j < has.length := by omega
  have hget : has.getD (j : Int).toNat [] = has[j] := by simp [List.getD, hjl]
  obtain ⟨ga, oa, rfl, cs, hcs, hE⟩ := row_at hH hjl
  obtain ⟨gb, ob, rfl, ds, hds, hD⟩ := row_at hV (j := 0) (by simp)
  obtain ⟨x, hx⟩ : ∃ x, has[j] = x := ⟨_, rfl⟩
  rw [hx] at hget hE
  have e0 : w.cell? ⟨ga, oa + j, none⟩ = some (sv x) := by have := hcs 0 (by decide); rw [hE.1] at this; simpa using this
  have e1 : w.cell? ⟨gb, ob, none⟩ = some (sv y) := by have := hds 0 (by decide); rw [hD.1] at this; simpa using this
  have hji : (j : Int) < (has.length : Int) := by omega
  have hvl : (0 : Int) < ((y :: vals).length : Int) := by simp <;> omega
  obtain ⟨n1, hn1⟩ : ∃ n, has.length = n := ⟨_, rfl⟩
  obtain ⟨n2, hn2⟩ : ∃ n, (y :: vals).length = n := ⟨_, rfl⟩
  have HR := Lib.hid hV
  rw [hn2] at HR
  unfold maxLen at hm1 hm2
  rw [hn1] at hl1 i2 hji
  rw [hn2] at hl2 i3 hvl
  rw [hn1, hn2]
  by_cases k4 : kind = 4
  · subst k4
    have HV : Hid (leafS 4 j op has (y :: vals) = isAsB op (cmpS x y)) := Lib.hid (by unfold leafS; rw [if_neg hno, if_pos rfl, hget]; rfl)
    have z5 : ∀ dd os, (grow (redrawn w dd) os).cell? ⟨g, f + 5, none⟩ = some (.int .i64 op) := fun dd os => cell_regrown c5 dd os
    have z4 : ∀ dd os, (grow (redrawn w dd) os).cell? ⟨g, f + 4, none⟩ = some (.int .i64 (j : Int)) := fun dd os => cell_regrown c4 dd os
    have za : ∀ dd os, (grow (redrawn w dd) os).cell? ⟨ga, oa + j, none⟩ = some (sv x) := fun dd os => cell_regrown e0 dd os
    have zb : ∀ dd os, (grow (redrawn w dd) os).cell? ⟨gb, ob, none⟩ = some (sv y) := fun dd os => cell_regrown e1 dd os
    have K1 := Lib.hid (fun dd os => tells_grown (w := w) (fun w' f' => cmpS_any x y w') dd os)
    obtain ⟨cc, hcc⟩ : ∃ c, cmpS x y = c := ⟨_, rfl⟩
    rw [hcc] at K1 HV
    have K2 := Lib.hid (fun dd os => tells_grown (w := w) (fun w' f' => isAs_any op cc w') dd os)
    clear hH hV hcs hds hE hD hget hx hno hcc hn1 hn2 HR
    go_enter Tryz.func129, Tryz.ntmps129
    go_upto_region 5 with fail
    refine wp_region_quiet_below mixedB (by kernel_rfl) ?_
    repeat (first | go_big_quiet_step (first | (with_reducible exact K1.out _ _) | (with_reducible exact K2.out _ _)) | quiet_step (first | (with_reducible exact K1.out _ _) | (with_reducible exact K2.out _ _)))
    refine wpQuiet_nil ?_
    intro wx hp
    have HBW : Hid (Fr No w wx) := Lib.hid (by obtain ⟨p, rfl⟩ := hp; exact fr_reg _ _ _)
    clear hp
    go_wp2_with fail
    go_ret
    exact HEND.out _ _ _ HV.out rfl HBW.out
  · have k4' : (kind == 4) = false := by simpa using k4
    by_cases k5 : kind = 5
    · subst k5
      have HV : Hid (leafS 5 j op has (y :: vals) = (y :: vals).any (fun y => decide (y = x))) := Lib.hid (by unfold leafS; rw [if_neg hno, if_neg (by decide), if_pos rfl, hget])
      have HC := Lib.hid (containsS_any x w HR.out)
      clear hH hV hcs hds hE hD hget hx hno hn1 hn2 HR
      go_enter Tryz.func129, Tryz.ntmps129
      go_wp2_with fail
      refine HC.out.mono ?_
      rintro e w2 ⟨rfl, f2⟩
      have HF := Lib.hid f2
      clear f2
      go_wp2_with fail
      go_ret
      exact HEND.out _ _ _ HV.out rfl HF.out
    · have k5' : (kind == 5) = false := by simpa using k5
      have HV : Hid (leafS kind j op has (y :: vals) = false) := Lib.hid (by unfold leafS; rw [if_neg hno, if_neg k4, if_neg k5])
      clear hH hV hcs hds hE hD hget hx hno hn1 hn2 HR
      go_enter Tryz.func129, Tryz.ntmps129
      go_wp2_with fail
      go_ret
      exact HEND.out _ _ _ HV.out rfl (Fr.refl _ _)
set_option maxRecDepth 100000 in
set_option maxHeartbeats 4000000 in
theorem holdsOfI_any {K K2 : Nat → Prop} {g f : Nat} {kind idx op : Int} {has vals : List Int} {hv vv : Value} (w : World) (c0 : w.cell? ⟨g, f, none⟩ = some (.int .i64 kind)) (c4 : w.cell? ⟨g, f + 4, none⟩ = some (.int .i64 idx)) (c5 : w.cell? ⟨g, f + 5, none⟩ = some (.int .i64 op))
    (hH : RowE K w 1 (intG K w) hv has) (hV : RowE K2 w 1 (intG K2 w) vv vals) : Calls Tryz.prog 128 #[.pointer (some ⟨g, f, none⟩), hv, vv] w (TellsB (leafI kind idx op has vals) w) := by
  have hH0 := hH
  have hV0 := hV
  obtain ⟨A1, k1, rfl, hl1, hm1, -⟩ := hH0
  obtain ⟨A2, k2, rfl, hl2, hm2, -⟩ := hV0
  have HEND : Hid (∀ b e w', leafI kind idx op has vals = b → e = .returned (.bool b) → Fr No w w' → TellsB (leafI kind idx op has vals) w e w') := Lib.hid fun b e w' h1 h2 h3 => ⟨by rw [h2, h1], h3⟩
  by_cases h1 : idx < 0
  · have HV : Hid (leafI kind idx op has vals = false) := Lib.hid (by unfold leafI; rw [if_pos (.inl h1)])
    have i1 : (idx < 0) = True := eq_true h1
    clear hH hV
    go_enter Tryz.func128, Tryz.ntmps128
    go_wp2_with fail
    go_ret
    exact HEND.out _ _ _ HV.out rfl (Fr.refl _ _)
  have i1 : (idx < 0) = False := eq_false h1
  obtain ⟨j, rfl⟩ : ∃ j : Nat, idx = (j : Int) := ⟨idx.toNat, by omega⟩
  by_cases h2 : has.length ≤ j
  · have HV : Hid (leafI kind j op has vals = false) := Lib.hid (by unfold leafI; rw [if_pos (.inr (.inl (by omega)))])
    have i2 : ((has.length : Int) ≤ (j : Int)) = True := eq_true (by omega)
    clear hH hV
    go_enter Tryz.func128, Tryz.ntmps128
    go_wp2_with fail
    go_ret
    exact HEND.out _ _ _ HV.out rfl (Fr.refl _ _)
  have i2 : ((has.length : Int) ≤ (j : Int)) = False := eq_false (by omega)
  cases vals with
  | nil =>
    have HV : Hid (leafI kind j op has [] = false) := Lib.hid (by unfold leafI; rw [if_pos (.inr (.inr rfl))])
    clear hH hV
    go_enter Tryz.func128, Tryz.ntmps128
    go_wp2_with fail
    go_ret
    exact HEND.out _ _ _ HV.out rfl (Fr.refl _ _)
  | cons y vals =>
  have hno : ¬ ((j : Int) < 0 ∨ (has.length : Int) ≤ (j : Int) ∨ y :: vals = []) := by
    rintro (h | h | h)
    · omega
    · omega
    · cases h
  have i3 : ((((y :: vals).length : Nat) : Int) == 0) = false := by simp; omega
  have hjl : j < has.length := by omega
  have hget : has.getD (j : Int).toNat 0 = has[j] := by simp [List.getD, hjl]
  obtain ⟨ga, oa, rfl, cs, hcs, hE⟩ := row_at hH hjl
  obtain ⟨gb, ob, rfl, ds, hds, hD⟩ := row_at hV (j := 0) (by simp)
  obtain ⟨x, hx⟩ : ∃ x, has[j] = x := ⟨_, rfl⟩
  rw [hx] at hget hE
  have e0 : w.cell? ⟨ga, oa + j, none⟩ = some (.int .i64 x) := by have := hcs 0 (by decide); rw [hE.1] at this; simpa using this
  have e1 : w.cell? ⟨gb, ob, none⟩ = some (.int .i64 y) := by have := hds 0 (by decide); rw [hD.1] at this; simpa using this
  have hji : (j : Int) < (has.length : Int) := by omega
  have hvl : (0 : Int) < ((y :: vals).length : Int) := by simp <;> omega
  obtain ⟨n1, hn1⟩ : ∃ n, has.length = n := ⟨_, rfl⟩
  obtain ⟨n2, hn2⟩ : ∃ n, (y :: vals).length = n := ⟨_, rfl⟩
  have HR := Lib.hid hV
  rw [hn2] at HR
  unfold maxLen at hm1 hm2
  rw [hn1] at hl1 i2 hji
  rw [hn2] at hl2 i3 hvl
  rw [hn1, hn2]
  by_cases k4 : kind = 4
  · subst k4
    have HV : Hid (leafI 4 j op has (y :: vals) = isAsB op (cmpI x y)) := Lib.hid (by unfold leafI; rw [if_neg hno, if_pos rfl, hget]; rfl)
    have z5 : ∀ dd os, (grow (redrawn w dd) os).cell? ⟨g, f + 5, none⟩ = some (.int .i64 op) := fun dd os => cell_regrown c5 dd os
    have z4 : ∀ dd os, (grow (redrawn w dd) os).cell? ⟨g, f + 4, none⟩ = some (.int .i64 (j : Int)) := fun dd os => cell_regrown c4 dd os
    have za : ∀ dd os, (grow (redrawn w dd) os).cell? ⟨ga, oa + j, none⟩ = some (.int .i64 x) := fun dd os => cell_regrown e0 dd os
    have zb : ∀ dd os, (grow (redrawn w dd) os).cell? ⟨gb, ob, none⟩ = some (.int .i64 y) := fun dd os => cell_regrown e1 dd os
    have K1 := Lib.hid (fun dd os => tells_grown (w := w) (fun w' f' => cmpI_any x y w') dd os)
    obtain ⟨cc, hcc⟩ : ∃ c, cmpI x y = c := ⟨_, rfl⟩
    rw [hcc] at K1 HV
    have K2 := Lib.hid (fun dd os => tells_grown (w := w) (fun w' f' => isAs_any op cc w') dd os)
    clear hH hV hcs hds hE hD hget hx hno hcc hn1 hn2 HR
    go_enter Tryz.func128, Tryz.ntmps128
    go_upto_region 5 with fail
    refine wp_region_quiet_below mixedB (by kernel_rfl) ?_
    repeat (first | go_big_quiet_step (first | (with_reducible exact K1.out _ _) | (with_reducible exact K2.out _ _)) | quiet_step (first | (with_reducible exact K1.out _ _) | (with_reducible exact K2.out _ _)))
    refine wpQuiet_nil ?_
    intro wx hp
    have HBW : Hid (Fr No w wx) := Lib.hid (by obtain ⟨p, rfl⟩ := hp; exact fr_reg _ _ _)
    clear hp
    go_wp2_with fail
    go_ret
    exact HEND.out _ _ _ HV.out rfl HBW.out
  · have k4' : (kind == 4) = false := by simpa using k4
    by_cases k5 : kind = 5
    · subst k5
      have HV : Hid (leafI 5 j op has (y :: vals) = (y :: vals).any (fun y => decide (y = x))) := Lib.hid (by unfold leafI; rw [if_neg hno, if_neg (by decide), if_pos rfl, hget])
      have HC := Lib.hid (containsI_any x w HR.out)
      clear hH hV hcs hds hE hD hget hx hno hn1 hn2 HR
      go_enter Tryz.func128, Tryz.ntmps128
      go_wp2_with fail
      refine HC.out.mono ?_
      rintro e w2 ⟨rfl, f2⟩
      have HF := Lib.hid f2
      clear f2
      go_wp2_with fail
      go_ret
      exact HEND.out _ _ _ HV.out rfl HF.out
    · have k5' : (kind == 5) = false := by simpa using k5
      have HV : Hid (leafI kind j op has (y :: vals) = false) := Lib.hid (by unfold leafI; rw [if_neg hno, if_neg k4, if_neg k5])
      clear hH hV hcs hds hE hD hget hx hno hn1 hn2 HR
      go_enter Tryz.func128, Tryz.ntmps128
      go_wp2_with fail
      go_ret
      exact HEND.out _ _ _ HV.out rfl (Fr.refl _ _)
end Go.Proofs.YtlpglijikmnopaaGreatDoor.Bd
namespace Go.Proofs.YtlpglijikmnopaaGreatDoor.Bd
open Go.RowKit Go.Maps Go.Sort
set_option linter.unusedVariables false

def holdsT : Ts → List Tx → List Int → Bool
  | .none, _, _ => false
  | .node k l r m i o ts ns, D, M =>
    if k = 1 then holdsT l D M && holdsT r D M
    else if k = 2 then holdsT l D M || holdsT r D M
    else if k = 3 then !decide (l = .none) && !holdsT l D M
    else if m then leafI k i o M ns else leafS k i o D ts
/-- A fact as a value. -/
def FactAt (K : Nat → Prop) (w : World) (D : List Tx) (M : List Int) (dv mv : Value) : Prop := RowE K w 1 (strG K w) dv D ∧ RowE K w 1 (intG K w) mv M
theorem FactAt.no {K : Nat → Prop} {w w' : World} {D : List Tx} {M : List Int} {dv mv : Value} (h : FactAt K w D M dv mv) (f : Fr No w w') : FactAt K w' D M dv mv :=
  ⟨h.1.at_ strG_elem f, h.2.at_ intG_elem f⟩
theorem holds_node {k : Int} {l r : Ts} {m : Bool} {i o : Int} {ts : List Tx} {ns : List Int} (D : List Tx) (M : List Int) : holdsT (.node k l r m i o ts ns) D M = if k = 1 then holdsT l D M && holdsT r D M
    else if k = 2 then holdsT l D M || holdsT r D M
    else if k = 3 then !decide (l = .none) && !holdsT l D M
    else if m then leafI k i o M ns else leafS k i o D ts := by conv => lhs; unfold holdsT
set_option maxRecDepth 100000 in
set_option maxHeartbeats 16000000 in
theorem holds_any (K K2 : Nat → Prop) (D : List Tx) (M : List Int) (dv mv : Value) : ∀ (t : Ts) (v : Value) (w : World), TsAt K w t v → FactAt K2 w D M dv mv → Calls Tryz.prog 106 #[v, .agg #[dv, mv]] w (TellsB (holdsT t D M) w)
  | .none, v, w, h, hF => by
    obtain rfl : v = .pointer none := h
    obtain ⟨w1, hw1⟩ : ∃ w1, w.alloc (.cells #[dv, mv] 63) = w1 := ⟨_, rfl⟩
    have f1 : Fr No w w1 := by rw [← hw1]; exact (Fr.refl No w).alloc _
    have HF1 := Lib.hid f1
    have HW1 := Lib.hid hw1
    show Calls Tryz.prog 106 #[.pointer none, .agg #[dv, mv]] w (TellsB false w)
    clear hF f1 hw1
    go_enter Tryz.func106, Tryz.ntmps106
    go_upto_region 1 with fail
    rw [HW1.out]
    go_wp2_with fail
    go_ret
    exact ⟨rfl, HF1.out⟩
  | .node k l r m i o ts ns, v, w, h, hF => by
    obtain ⟨w1, hw1⟩ : ∃ w1, w.alloc (.cells #[dv, mv] 63) = w1 := ⟨_, rfl⟩
    obtain ⟨y, hy⟩ : ∃ y, w.heap.size = y := ⟨_, rfl⟩
    have f1 : Fr No w w1 := by rw [← hw1]; exact (Fr.refl No w).alloc _
    have hb : Blk w1 y 63 #[dv, mv] := by rw [← hw1, ← hy]; exact Blk.new w 63 _
    have h1 := h.no f1
    have hF1 := hF.no f1
    obtain ⟨g, f, L, R, A, B, rfl, hK, hg, c0, c1, c2, c3, c4, c5, c6, c7, hl, hr, hA, hB, -⟩ := h1
    obtain ⟨pl, rfl⟩ : ∃ p, L = .pointer p := by rcases hl.ptr with ⟨_, e⟩ | ⟨_, _, _, e⟩ <;> exact ⟨_, e⟩
    obtain ⟨pr, rfl⟩ : ∃ p, R = .pointer p := by rcases hr.ptr with ⟨_, e⟩ | ⟨_, _, _, e⟩ <;> exact ⟨_, e⟩
    have HV0 := Lib.hid (holds_node (k := k) (l := l) (r := r) (m := m) (i := i) (o := o) (ts := ts) (ns := ns) D M)
    have HEND : Hid (∀ b e w', holdsT (.node k l r m i o ts ns) D M = b → e = .returned (.bool b) → Fr No w1 w' → TellsB (holdsT (.node k l r m i o ts ns) D M) w e w') := Lib.hid fun b e w' h1 h2 h3 => ⟨by rw [h2, h1], f1.trans h3 fun _ _ h => h⟩
    have KL := Lib.hid (fun dd os => tells_grown (w := w1) (fun w' f' => holds_any K K2 D M dv mv l _ w' (hl.no f') (hF1.no f')) dd os)
    have KR := Lib.hid (fun dd os => tells_grown (w := w1) (fun w' f' => holds_any K K2 D M dv mv r _ w' (hr.no f') (hF1.no f')) dd os)
    have KI := Lib.hid (fun dd os => tells_grown (w := w1) (fun w' f' => holdsOfI_any (g := g) (f := f) (kind := k) (idx := i) (op := o) w' ((cell_of_heap (f'.block g hg id)).trans c0) ((cell_of_heap (f'.block g hg id)).trans c4) ((cell_of_heap (f'.block g hg id)).trans c5) (hF1.no f').2 (hB.at_ intG_elem f')) dd os)
    have KS := Lib.hid (fun dd os => tells_grown (w := w1) (fun w' f' => holdsOfS_any (g := g) (f := f) (kind := k) (idx := i) (op := o) w' ((cell_of_heap (f'.block g hg id)).trans c0) ((cell_of_heap (f'.block g hg id)).trans c4) ((cell_of_heap (f'.block g hg id)).trans c5) (hF1.no f').1 (hA.at_ strG_elem f')) dd os)
    have z1 : ∀ dd os, (grow (redrawn w1 dd) os).cell? ⟨g, f + 1, none⟩ = some (.pointer pl) := fun dd os => cell_regrown c1 dd os
    have z2 : ∀ dd os, (grow (redrawn w1 dd) os).cell? ⟨g, f + 2, none⟩ = some (.pointer pr) := fun dd os => cell_regrown c2 dd os
    have z6 : ∀ dd os, (grow (redrawn w1 dd) os).cell? ⟨g, f + 6, none⟩ = some A := fun dd os => cell_regrown c6 dd os
    have z7 : ∀ dd os, (grow (redrawn w1 dd) os).cell? ⟨g, f + 7, none⟩ = some B := fun dd os => cell_regrown c7 dd os
    have y0 : ∀ dd os, (grow (redrawn w1 dd) os).cell? ⟨y, 0, none⟩ = some dv := fun dd os => cell_regrown (hb.cell 0) dd os
    have y1 : ∀ dd os, (grow (redrawn w1 dd) os).cell? ⟨y, 1, none⟩ = some mv := fun dd os => cell_regrown (hb.cell 1) dd os
    obtain ⟨hL, hhL⟩ : ∃ b, holdsT l D M = b := ⟨_, rfl⟩
    obtain ⟨hR, hhR⟩ : ∃ b, holdsT r D M = b := ⟨_, rfl⟩
    rw [hhL] at KL HV0
    rw [hhR] at KR HV0
    have HLP := Lib.hid hl.ptr
    have HW1 := Lib.hid hw1
    have HY := Lib.hid hy
    clear h hF f1 hb hF1 hl hr hA hB hw1 hy c1 c2 c4 c5 c6 c7 hhL hhR hK hg
    by_cases k1 : k = 1
    · subst k1
      have HV : Hid (holdsT (.node 1 l r m i o ts ns) D M = (hL && hR)) := Lib.hid (HV0.out.trans (if_pos rfl))
      cases hL
      all_goals
        go_enter Tryz.func106, Tryz.ntmps106
        go_upto_region 1 with fail
        rw [HY.out, HW1.out]
        go_upto_region 5 with fail
        refine wp_region_quiet_below mixedB (by kernel_rfl) ?_
        repeat (first | go_big_quiet_step (first | (with_reducible exact KL.out _ _) | (with_reducible exact KR.out _ _)) | quiet_step (first | (with_reducible exact KL.out _ _) | (with_reducible exact KR.out _ _)))
        refine wpQuiet_nil ?_
        intro wx hp
        have HBW : Hid (Fr No w1 wx) := Lib.hid (by obtain ⟨p, rfl⟩ := hp; exact fr_reg _ _ _)
        clear hp
        go_wp2_with fail
        go_ret
        exact HEND.out _ _ _ HV.out rfl HBW.out
    have k1' : (k == 1) = false := by simpa using k1
    by_cases k2 : k = 2
    · subst k2
      have HV : Hid (holdsT (.node 2 l r m i o ts ns) D M = (hL || hR)) := Lib.hid (HV0.out.trans ((if_neg (by decide)).trans (if_pos rfl)))
      cases hL
      all_goals
        go_enter Tryz.func106, Tryz.ntmps106
        go_upto_region 1 with fail
        rw [HY.out, HW1.out]
        go_upto_region 7 with fail
        refine wp_region_quiet_below mixedB (by kernel_rfl) ?_
        repeat (first | go_big_quiet_step (first | (with_reducible exact KL.out _ _) | (with_reducible exact KR.out _ _)) | quiet_step (first | (with_reducible exact KL.out _ _) | (with_reducible exact KR.out _ _)))
        refine wpQuiet_nil ?_
        intro wx hp
        have HBW : Hid (Fr No w1 wx) := Lib.hid (by obtain ⟨p, rfl⟩ := hp; exact fr_reg _ _ _)
        clear hp
        go_wp2_with fail
        go_ret
        exact HEND.out _ _ _ HV.out rfl HBW.out
    have k2' : (k == 2) = false := by simpa using k2
    by_cases k3 : k = 3
    · subst k3
      have HV : Hid (holdsT (.node 3 l r m i o ts ns) D M = (!decide (l = .none) && !hL)) := Lib.hid (HV0.out.trans ((if_neg (by decide)).trans ((if_neg (by decide)).trans (if_pos rfl))))
      rcases HLP.out with ⟨hl0, e⟩ | ⟨hl0, gl, ol, e⟩
      · obtain rfl : pl = none := by injection e
        have HV2 : Hid (holdsT (.node 3 l r m i o ts ns) D M = false) := Lib.hid (by rw [HV.out, decide_eq_true hl0]; rfl)
        clear hl0 e
        go_enter Tryz.func106, Tryz.ntmps106
        go_upto_region 1 with fail
        rw [HY.out, HW1.out]
        go_upto_region 9 with fail
        refine wp_region_quiet_below mixedB (by kernel_rfl) ?_
        repeat (first | go_big_quiet_step (with_reducible exact KL.out _ _) | quiet_step (with_reducible exact KL.out _ _))
        refine wpQuiet_nil ?_
        intro wx hp
        have HBW : Hid (Fr No w1 wx) := Lib.hid (by obtain ⟨p, rfl⟩ := hp; exact fr_reg _ _ _)
        clear hp
        go_wp2_with fail
        go_ret
        exact HEND.out _ _ _ HV2.out rfl HBW.out
      · obtain rfl : pl = some ⟨gl, ol, none⟩ := by injection e
        have HV2 : Hid (holdsT (.node 3 l r m i o ts ns) D M = !hL) := Lib.hid (by rw [HV.out, decide_eq_false hl0]; rfl)
        clear hl0 e
        go_enter Tryz.func106, Tryz.ntmps106
        go_upto_region 1 with fail
        rw [HY.out, HW1.out]
        go_upto_region 9 with fail
        refine wp_region_quiet_below mixedB (by kernel_rfl) ?_
        repeat (first | go_big_quiet_step (with_reducible exact KL.out _ _) | quiet_step (with_reducible exact KL.out _ _))
        refine wpQuiet_nil ?_
        intro wx hp
        have HBW : Hid (Fr No w1 wx) := Lib.hid (by obtain ⟨p, rfl⟩ := hp; exact fr_reg _ _ _)
        clear hp
        go_wp2_with fail
        go_ret
        exact HEND.out _ _ _ HV2.out rfl HBW.out
    have k3' : (k == 3) = false := by simpa using k3
    have HV : Hid (holdsT (.node k l r m i o ts ns) D M = if m then leafI k i o M ns else leafS k i o D ts) := Lib.hid (HV0.out.trans ((if_neg k1).trans ((if_neg k2).trans (if_neg k3))))
    cases m with
    | true =>
      have HV2 : Hid (holdsT (.node k l r true i o ts ns) D M = leafI k i o M ns) := Lib.hid (HV.out.trans rfl)
      obtain ⟨lf, hlf⟩ : ∃ b, leafI k i o M ns = b := ⟨_, rfl⟩
      rw [hlf] at KI HV2
      clear hlf
      go_enter Tryz.func106, Tryz.ntmps106
      go_upto_region 1 with fail
      rw [HY.out, HW1.out]
      go_upto_region 11 with fail
      refine wp_region_quiet_below mixedB (by kernel_rfl) ?_
      repeat (first | go_big_quiet_step (with_reducible exact KI.out _ _) | quiet_step (with_reducible exact KI.out _ _))
      refine wpQuiet_nil ?_
      intro wx hp
      have HBW : Hid (Fr No w1 wx) := Lib.hid (by obtain ⟨p, rfl⟩ := hp; exact fr_reg _ _ _)
      clear hp
      go_wp2_with fail
      go_ret
      exact HEND.out _ _ _ HV2.out rfl HBW.out
    | false =>
      have HV2 : Hid (holdsT (.node k l r false i o ts ns) D M = leafS k i o D ts) := Lib.hid (HV.out.trans rfl)
      obtain ⟨lf, hlf⟩ : ∃ b, leafS k i o D ts = b := ⟨_, rfl⟩
      rw [hlf] at KS HV2
      clear hlf
      go_enter Tryz.func106, Tryz.ntmps106
      go_upto_region 1 with fail
      rw [HY.out, HW1.out]
      go_upto_region 12 with fail
      refine wp_region_quiet_below mixedB (by kernel_rfl) ?_
      repeat (first | go_big_quiet_step (with_reducible exact KS.out _ _) | quiet_step (with_reducible exact KS.out _ _))
      refine wpQuiet_nil ?_
      intro wx hp
      have HBW : Hid (Fr No w1 wx) := Lib.hid (by obtain ⟨p, rfl⟩ := hp; exact fr_reg _ _ _)
      clear hp
      go_wp2_with fail
      go_ret
      exact HEND.out _ _ _ HV2.out rfl HBW.out
def HoldsB (t : Ts) (D : List Tx) (M : List Int) : Bool := !greatB t && holdsT t D M
set_option maxRecDepth 100000 in
theorem Holds_any (K K2 : Nat → Prop) (D : List Tx) (M : List Int) (dv mv : Value) (t : Ts) (v : Value) (w : World) (h : TsAt K w t v) (hF : FactAt K2 w D M dv mv) : Calls Tryz.prog 82 #[v, .agg #[dv, mv]] w (TellsB (HoldsB t D M) w) := by
  obtain ⟨w1, hw1⟩ : ∃ w1, w.alloc (.cells #[dv, mv] 63) = w1 := ⟨_, rfl⟩
  obtain ⟨y, hy⟩ : ∃ y, w.heap.size = y := ⟨_, rfl⟩
  have f1 : Fr No w w1 := by rw [← hw1]; exact (Fr.refl No w).alloc _
  have hb : Blk w1 y 63 #[dv, mv] := by rw [← hw1, ← hy]; exact Blk.new w 63 _
  have HG := Lib.hid (great_any K t v w1 (h.no f1))
  have HH := Lib.hid (fun w' f' => holds_any K K2 D M dv mv t v w' (h.no (f1.trans f' fun _ _ h => h)) (hF.no (f1.trans f' fun _ _ h => h)))
  have HV : Hid (HoldsB t D M = (!greatB t && holdsT t D M)) := Lib.hid rfl
  obtain ⟨gb, hgb⟩ : ∃ b, greatB t = b := ⟨_, rfl⟩
  obtain ⟨hb2, hhb⟩ : ∃ b, holdsT t D M = b := ⟨_, rfl⟩
  rw [hgb] at HG HV
  rw [hhb] at HH HV
  obtain ⟨p, rfl⟩ : ∃ p, v = .pointer p := by rcases h.ptr with ⟨_, e⟩ | ⟨_, _, _, e⟩ <;> exact ⟨_, e⟩
  have HB := Lib.hid hb
  have HF1 := Lib.hid f1
  have HW1 := Lib.hid hw1
  have HY := Lib.hid hy
  clear h hF f1 hb hw1 hy hgb hhb
  go_enter Tryz.func82, Tryz.ntmps82
  go_upto_region 1 with fail
  rw [HY.out, HW1.out]
  go_wp2_with fail
  refine HG.out.mono ?_
  rintro e w2 ⟨rfl, f2⟩
  have HF2 := Lib.hid (HF1.out.trans f2 fun _ _ h => h)
  have hb2' := HB.out.of (f2.block _ HB.out.lt id)
  have y0 : w2.cell? ⟨y, 0, none⟩ = some dv := hb2'.cell 0
  have y1 : w2.cell? ⟨y, 1, none⟩ = some mv := hb2'.cell 1
  have HC := Lib.hid (HH.out w2 f2)
  clear f2 hb2' HH
  cases gb with
  | true =>
    go_wp2_with fail
    go_ret
    exact ⟨by rw [HV.out]; rfl, HF2.out⟩
  | false =>
    go_wp2_with fail
    refine HC.out.mono ?_
    rintro e w3 ⟨rfl, f3⟩
    have HF3 := Lib.hid (HF2.out.trans f3 fun _ _ h => h)
    clear f3
    go_wp2_with fail
    go_ret
    exact ⟨by rw [HV.out]; rfl, HF3.out⟩
end Go.Proofs.YtlpglijikmnopaaGreatDoor.Bd
namespace Go.Proofs.YtlpglijikmnopaaGreatDoor.Bd
open Go.RowKit Go.Maps Go.Sort
set_option linter.unusedVariables false

def readsT : Ts → Nat × Bool
  | .none => (0, false)
  | .node k l r m i _ _ _ => if k = 4 ∨ k = 5 then (if m then (0, true) else (bitI i, false)) else ((readsT l).1 ||| (readsT r).1, (readsT l).2 || (readsT r).2)
theorem reads_lt : ∀ t : Ts, (readsT t).1 < 64
  | .none => by decide
  | .node k l r m i _ _ _ => by
    unfold readsT
    split
    · split
      · decide
      · exact bitI_lt _
    · exact or64 (reads_lt l) (reads_lt r)
def asksB (k : Int) : Bool := k == 4 || k == 5
theorem asks_any (k : Int) (w : World) : Calls Tryz.prog 86 #[.int .i64 k] w (TellsB (asksB k) w) := by
  by_cases h4 : k = 4
  · subst h4
    go_enter Tryz.func86, Tryz.ntmps86
    go_wp2_with fail
    go_ret
    exact ⟨rfl, Fr.refl _ _⟩
  · have k4 : (k == 4) = false := by simpa using h4
    have HV : Hid (asksB k = (k == 5)) := Lib.hid (by unfold asksB; rw [k4]; rfl)
    go_enter Tryz.func86, Tryz.ntmps86
    go_wp2_with fail
    go_ret
    exact ⟨by rw [HV.out]; rfl, Fr.refl _ _⟩
def Tells2 (n : Int) (b : Bool) (w : World) (e : Ending) (w' : World) : Prop := e = .returned (.tuple #[.int .i64 n, .bool b]) ∧ Fr No w w'
set_option maxRecDepth 100000 in
set_option maxHeartbeats 4000000 in
theorem reads_any (K : Nat → Prop) : ∀ (t : Ts) (v : Value) (w : World), TsAt K w t v → Calls Tryz.prog 66 #[v] w (Tells2 ((readsT t).1 : Nat) (readsT t).2 w)
  | .none, v, w, h => by
    obtain rfl : v = .pointer none := h
    show Calls Tryz.prog 66 #[.pointer none] w (Tells2 ((0 : Nat) : Int) false w)
    go_enter Tryz.func66, Tryz.ntmps66
    go_wp2_with fail
    go_ret2
    exact ⟨rfl, Fr.refl _ _⟩
  | .node k l r m i o ts ns, v, w, h => by
    obtain ⟨g, f, L, R, A, B, rfl, hK, hg, c0, c1, c2, c3, c4, c5, c6, c7, hl, hr, hA, hB, -, hi, -⟩ := h
    obtain ⟨pl, rfl⟩ : ∃ p, L = .pointer p := by rcases hl.ptr with ⟨_, e⟩ | ⟨_, _, _, e⟩ <;> exact ⟨_, e⟩
    obtain ⟨pr, rfl⟩ : ∃ p, R = .pointer p := by rcases hr.ptr with ⟨_, e⟩ | ⟨_, _, _, e⟩ <;> exact ⟨_, e⟩
    have HV : Hid (readsT (.node k l r m i o ts ns) = if k = 4 ∨ k = 5 then (if m then (0, true) else (bitI i, false)) else ((readsT l).1 ||| (readsT r).1, (readsT l).2 || (readsT r).2)) := Lib.hid (by conv => lhs; unfold readsT)
    have HEND : Hid (∀ (x : Nat × Bool) e w', readsT (.node k l r m i o ts ns) = x → e = .returned (.tuple #[.int .i64 (x.1 : Nat), .bool x.2]) → Fr No w w' → Tells2 ((readsT (.node k l r m i o ts ns)).1 : Nat) (readsT (.node k l r m i o ts ns)).2 w e w') := Lib.hid fun x e w' h1 h2 h3 => by rw [h1]; exact ⟨h2, h3⟩
    have HAS := Lib.hid (asks_any k w)
    have HOLD : Hid (∀ w', Fr No w w' → w'.cell? ⟨g, f + 1, none⟩ = some (.pointer pl) ∧ w'.cell? ⟨g, f + 2, none⟩ = some (.pointer pr) ∧ w'.cell? ⟨g, f + 3, none⟩ = some (.bool m) ∧ w'.cell? ⟨g, f + 4, none⟩ = some (.int .i64 i)) := Lib.hid fun w' f' =>
      ⟨(cell_of_heap (f'.block g hg id)).trans c1, (cell_of_heap (f'.block g hg id)).trans c2, (cell_of_heap (f'.block g hg id)).trans c3, (cell_of_heap (f'.block g hg id)).trans c4⟩
    have HL := Lib.hid (fun w' f' => reads_any K l _ w' (hl.no f'))
    have HR := Lib.hid (fun w' f' => reads_any K r _ w' (hr.no f'))
    have HI := Lib.hid hi
    clear hl hr hA hB hK hg c1 c2 c3 c4 c5 c6 c7 hi
    go_enter Tryz.func66, Tryz.ntmps66
    go_wp2_with fail
    refine HAS.out.mono ?_
    clear HAS
    rintro e w2 ⟨rfl, f2⟩
    have HF2 := Lib.hid f2
    obtain ⟨d1, d2, d3, d4⟩ := HOLD.out w2 f2
    clear f2
    by_cases hk : k = 4 ∨ k = 5
    · have hab : asksB k = true := by unfold asksB; rcases hk with rfl | rfl <;> rfl
      rw [hab]
      have HV2 : Hid (readsT (.node k l r m i o ts ns) = if m then (0, true) else (bitI i, false)) := Lib.hid (HV.out.trans (if_pos hk))
      clear hab hk
      cases m with
      | true =>
        go_wp2_with fail
        go_ret2
        exact HEND.out (0, true) _ _ (HV2.out.trans rfl) rfl HF2.out
      | false =>
        obtain ⟨y, hy⟩ : ∃ y, w2.heap.size = y := ⟨_, rfl⟩
        obtain ⟨w3, hw3⟩ : ∃ x, w2.alloc (.cells #[.int .i64 i] 3) = x := ⟨_, rfl⟩
        have f3 : Fr No w2 w3 := by rw [← hw3]; exact (Fr.refl No w2).alloc _
        have hb : Blk w3 y 3 #[.int .i64 i] := by rw [← hw3, ← hy]; exact Blk.new w2 3 _
        have hrow : RowE (fun k => k = y) w3 1 (intG (fun k => k = y) w3) (.slice (some ⟨y, 0, none⟩) 1 1) [i] := by
          refine ⟨some ⟨y, 0, none⟩, 1, rfl, Nat.le_refl _, by decide, fun _ => ⟨y, 0, rfl, rfl, hb.lt, fun j hj => ⟨[.int .i64 i], rfl, fun q hq => ?_, ?_⟩⟩⟩
          · obtain rfl : j = 0 := by simp at hj; omega
            obtain rfl : q = 0 := by omega
            exact hb.cell 0
          · obtain rfl : j = 0 := by simp at hj; omega
            exact ⟨rfl, HI.out⟩
        have HC := Lib.hid (sof_any w3 hrow)
        have hof : ofL [i] = bitI i := by unfold ofL; simp
        rw [hof] at HC
        have HF3 := Lib.hid (HF2.out.trans f3 fun _ _ h => h)
        have HY := Lib.hid hy
        have HW3 := Lib.hid hw3
        obtain ⟨bi, hbi⟩ : ∃ b, bitI i = b := ⟨_, rfl⟩
        rw [hbi] at HC HV2
        clear hy hw3 f3 hb hrow hof hbi
        go_wp2_with fail
        rw [HY.out, HW3.out]
        refine HC.out.mono ?_
        rintro e w4 ⟨rfl, f4⟩
        have HF4 := Lib.hid (HF3.out.trans f4 fun _ _ h => h)
        clear f4
        go_wp2_with fail
        go_ret2
        exact HEND.out (bi, false) _ _ (HV2.out.trans rfl) rfl HF4.out
    · have hab : asksB k = false := by unfold asksB; simp; omega
      rw [hab]
      have HV2 : Hid (readsT (.node k l r m i o ts ns) = ((readsT l).1 ||| (readsT r).1, (readsT l).2 || (readsT r).2)) := Lib.hid (HV.out.trans (if_neg hk))
      have HLC := Lib.hid (HL.out w2 HF2.out)
      have ltl := reads_lt l
      have ltr := reads_lt r
      obtain ⟨⟨sl, ml⟩, hsl⟩ : ∃ x, readsT l = x := ⟨_, rfl⟩
      obtain ⟨⟨sr, mr⟩, hsr⟩ : ∃ x, readsT r = x := ⟨_, rfl⟩
      rw [hsl] at HLC HV2 ltl
      rw [hsr] at HR HV2 ltr
      simp only at HLC HR HV2 ltl ltr
      obtain ⟨z, hz⟩ : ∃ z, sl ||| sr = z := ⟨_, rfl⟩
      have hor : bits .or .i64 (sl : Int) (sr : Int) = (z : Int) := by rw [← hz]; exact i64_or_nat sl sr (by omega) (by omega)
      rw [hz] at HV2
      clear hab hk hsl hsr hz ltl ltr
      go_wp2_with fail
      refine HLC.out.mono ?_
      rintro e w3 ⟨rfl, f3⟩
      have HF3 := Lib.hid (HF2.out.trans f3 fun _ _ h => h)
      obtain ⟨e1, e2, e3, e4⟩ := HOLD.out w3 HF3.out
      have HRC := Lib.hid (HR.out w3 HF3.out)
      clear f3 d1 d2 d3 d4
      go_wp2_with fail
      refine HRC.out.mono ?_
      rintro e w4 ⟨rfl, f4⟩
      have HF4 := Lib.hid (HF3.out.trans f4 fun _ _ h => h)
      clear f4
      cases ml
      all_goals
        go_wp2_with fail
        go_ret2
        exact HEND.out (z, _) _ _ (HV2.out.trans rfl) rfl HF4.out
def ReadsB (t : Ts) : Nat × Bool := if greatB t then (63, true) else readsT t
set_option maxRecDepth 100000 in
theorem Reads_any (K : Nat → Prop) (t : Ts) (v : Value) (w : World) (h : TsAt K w t v) : Calls Tryz.prog 28 #[v] w (Tells2 ((ReadsB t).1 : Nat) (ReadsB t).2 w) := by
  have HG := Lib.hid (great_any K t v w h)
  have HR := Lib.hid (fun w' f' => reads_any K t v w' (h.no f'))
  have HV : Hid (ReadsB t = if greatB t then (63, true) else readsT t) := Lib.hid rfl
  have HEND : Hid (∀ (x : Nat × Bool) e w', ReadsB t = x → e = .returned (.tuple #[.int .i64 (x.1 : Nat), .bool x.2]) → Fr No w w' → Tells2 ((ReadsB t).1 : Nat) (ReadsB t).2 w e w') := Lib.hid fun x e w' h1 h2 h3 => by rw [h1]; exact ⟨h2, h3⟩
  obtain ⟨gb, hgb⟩ : ∃ b, greatB t = b := ⟨_, rfl⟩
  rw [hgb] at HG HV
  obtain ⟨p, rfl⟩ : ∃ p, v = .pointer p := by rcases h.ptr with ⟨_, e⟩ | ⟨_, _, _, e⟩ <;> exact ⟨_, e⟩
  clear h hgb
  go_enter Tryz.func28, Tryz.ntmps28
  go_wp2_with fail
  refine HG.out.mono ?_
  rintro e w2 ⟨rfl, f2⟩
  have HF2 := Lib.hid f2
  have HC := Lib.hid (HR.out w2 f2)
  clear f2 HR
  cases gb with
  | true =>
    go_wp2_with fail
    go_ret2
    exact HEND.out (63, true) _ _ (HV.out.trans rfl) rfl HF2.out
  | false =>
    obtain ⟨⟨s, m⟩, hs⟩ : ∃ x, readsT t = x := ⟨_, rfl⟩
    rw [hs] at HC HV
    simp only at HC
    clear hs
    go_wp2_with fail
    refine HC.out.mono ?_
    rintro e w3 ⟨rfl, f3⟩
    have HF3 := Lib.hid (HF2.out.trans f3 fun _ _ h => h)
    clear f3
    go_wp2_with fail
    go_ret2
    exact HEND.out (s, m) _ _ (HV.out.trans rfl) rfl HF3.out
end Go.Proofs.YtlpglijikmnopaaGreatDoor.Bd
namespace Go.Proofs.YtlpglijikmnopaaGreatDoor.Bd
open Go.RowKit Go.Maps Go.Sort
set_option linter.unusedVariables false

def nodesR (t : Ts) (m : Int) : Int := if m < (t.size : Nat) then (if m < 0 then 0 else m) else (t.size : Nat)
theorem nodes_node (k : Int) (l r : Ts) (a : Bool) (b c : Int) (d : List Tx) (e : List Int) (m : Int) (h : 0 < m) : nodesR (.node k l r a b c d e) m = (1 + nodesR l (m - 1)) + nodesR r (m - (1 + nodesR l (m - 1))) := by
  have hs : (Ts.node k l r a b c d e).size = 1 + l.size + r.size := rfl
  unfold nodesR
  rw [hs]
  repeat' split
  all_goals omega
theorem nodes_bounds (t : Ts) (m : Int) (h : 0 ≤ m) : 0 ≤ nodesR t m ∧ nodesR t m ≤ m := by
  unfold nodesR
  split <;> (try split) <;> omega
theorem nodes_great (t : Ts) : decide (4096 < nodesR t 4097) = greatB t := by
  unfold greatB nodesR
  by_cases h : 4096 < t.size
  · rw [decide_eq_true h]; split <;> simp <;> omega
  · rw [decide_eq_false h]; split <;> simp <;> omega
set_option maxRecDepth 100000 in
theorem nodes_any (K : Nat → Prop) : ∀ (t : Ts) (v : Value) (w : World) (m : Int), TsAt K w t v → 0 ≤ m → m ≤ 10000 → Calls Tryz.prog 29 #[v, .int .i64 m] w (TellsI (nodesR t m) w)
  | .none, v, w, m, h, h1, h2 => by
    obtain rfl : v = .pointer none := h
    have e0 : nodesR .none m = 0 := by unfold nodesR; show (if m < ((0 : Nat) : Int) then _ else _) = _; rw [if_neg (by omega)]; rfl
    rw [e0]
    go_enter Tryz.func29, Tryz.ntmps29
    go_wp2_with fail
    go_ret
    exact ⟨rfl, Fr.refl _ _⟩
  | .node k l r a b c d e, v, w, m, h, h1, h2 => by
    obtain ⟨g, f, L, R, A, B, rfl, hK, hg, c0, c1, c2, -, -, -, -, -, hl, hr, -⟩ := h
    by_cases hm : m = 0
    · subst hm
      have e0 : nodesR (.node k l r a b c d e) 0 = 0 := by have := nodes_bounds (.node k l r a b c d e) 0 (by omega); omega
      rw [e0]
      clear hl hr c0 c1 c2
      go_enter Tryz.func29, Tryz.ntmps29
      go_wp2_with fail
      go_ret
      exact ⟨rfl, Fr.refl _ _⟩
    · have hmi : (m ≤ 0) = False := eq_false (by omega)
      obtain ⟨pl, rfl⟩ : ∃ p, L = .pointer p := by rcases hl.ptr with ⟨_, e⟩ | ⟨_, _, _, e⟩ <;> exact ⟨_, e⟩
      obtain ⟨pr, rfl⟩ : ∃ p, R = .pointer p := by rcases hr.ptr with ⟨_, e⟩ | ⟨_, _, _, e⟩ <;> exact ⟨_, e⟩
      have hw : IntKind.i64.wrap (m - 1) = m - 1 := IntWalk.i64_in _ (by omega)
      obtain ⟨b1, b2⟩ := nodes_bounds l (m - 1) (by omega)
      have HLT := Lib.hid (nodes_any K l _ w (m - 1) hl (by omega) (by omega))
      have HV : Hid (nodesR (.node k l r a b c d e) m = (1 + nodesR l (m - 1)) + nodesR r (m - (1 + nodesR l (m - 1)))) := Lib.hid (nodes_node k l r a b c d e m (by omega))
      obtain ⟨x, hx⟩ : ∃ x, nodesR l (m - 1) = x := ⟨_, rfl⟩
      rw [hx] at HV HLT b1 b2
      have HR := Lib.hid (fun w' f' => nodes_any K r _ w' (m - (1 + x)) (hr.no f') (by omega) (by omega))
      obtain ⟨b3, b4⟩ := nodes_bounds r (m - (1 + x)) (by omega)
      obtain ⟨y, hy⟩ : ∃ y, nodesR r (m - (1 + x)) = y := ⟨_, rfl⟩
      rw [hy] at HV HR b3 b4
      have w1 : IntKind.i64.wrap (1 + x) = 1 + x := IntWalk.i64_in _ (by omega)
      have w2 : IntKind.i64.wrap (m - (1 + x)) = m - (1 + x) := IntWalk.i64_in _ (by omega)
      have w3 : IntKind.i64.wrap (1 + x + y) = 1 + x + y := IntWalk.i64_in _ (by omega)
      have HOLD : Hid (∀ w', Fr No w w' → w'.cell? ⟨g, f + 2, none⟩ = some (.pointer pr)) := Lib.hid fun w' f' => (cell_of_heap (f'.block g hg id)).trans c2
      clear hl hr hx hy
      go_enter Tryz.func29, Tryz.ntmps29
      go_wp2_with fail
      refine HLT.out.mono ?_
      rintro e w2 ⟨rfl, f2⟩
      have HF2 := Lib.hid f2
      have HRC := Lib.hid (HR.out w2 f2)
      have d2 := HOLD.out w2 f2
      clear f2 c0 c1 c2
      go_wp2_with fail
      refine HRC.out.mono ?_
      rintro e w3 ⟨rfl, f3⟩
      have HF3 := Lib.hid (HF2.out.trans f3 fun _ _ h => h)
      clear f3
      go_wp2_with fail
      go_ret
      exact ⟨by rw [HV.out]; rfl, HF3.out⟩
def numI (x y : Int) : Int := if x < y then -1 else if y < x then 1 else 0
theorem numbers_any (x y : Int) (w : World) : Calls Tryz.prog 108 #[.int .i64 x, .int .i64 y] w (TellsI (numI x y) w) := by
  by_cases h1 : x < y
  · have HV : Hid (numI x y = -1) := Lib.hid (by unfold numI; rw [if_pos h1])
    have i1 : (x < y) = True := eq_true h1
    go_enter Tryz.func108, Tryz.ntmps108
    go_wp2_with fail
    go_ret
    exact ⟨by rw [HV.out]; rfl, Fr.refl _ _⟩
  have i1 : (x < y) = False := eq_false h1
  by_cases h2 : y < x
  · have HV : Hid (numI x y = 1) := Lib.hid (by unfold numI; rw [if_neg h1, if_pos h2])
    have i2 : (y < x) = True := eq_true h2
    go_enter Tryz.func108, Tryz.ntmps108
    go_wp2_with fail
    go_ret
    exact ⟨by rw [HV.out]; rfl, Fr.refl _ _⟩
  · have HV : Hid (numI x y = 0) := Lib.hid (by unfold numI; rw [if_neg h1, if_neg h2])
    have i2 : (y < x) = False := eq_false h2
    go_enter Tryz.func108, Tryz.ntmps108
    go_wp2_with fail
    go_ret
    exact ⟨by rw [HV.out]; rfl, Fr.refl _ _⟩
end Go.Proofs.YtlpglijikmnopaaGreatDoor.Bd
