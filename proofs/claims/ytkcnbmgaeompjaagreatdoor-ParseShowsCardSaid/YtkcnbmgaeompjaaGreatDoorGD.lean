/- Reading a query: what a word may be, whether the next one is, taking it. -/
import Derived.Test.YtkcnbmgaeompjaaGreatDoorGC
import Derived.Deep.DrawnRows
import Derived.Shelf.LaysC
import Derived.Shelf.Strconv.ParseIntPublic10
import Derived.Test.YtkcnbmgaeompjaaGreatDoorProg
import Derived.Lib.AtoiErrMem
namespace Go.Proofs.YtkcnbmgaeompjaaGreatDoor
open Go.RowKit Go.Maps
set_option linter.unusedVariables false

def wdV (x : Wd) : Value := .agg #[.int .i64 (x.kind : Nat), sv x.text, .int .i64 (x.pos : Nat)]
/-- A fixed word. -/
theorem isFixed_any (x : Wd) (w : World) : Calls Tryz.prog 117 #[wdV x] w fun e w' => e = .returned (.bool (fixW x)) ∧ Fr No w w' := by
  obtain ⟨k, t, p⟩ := x
  unfold wdV fixW
  simp only
  obtain ⟨w1, hw1⟩ : ∃ w1, w.alloc (.cells #[.int .i64 (k : Nat), sv t, .int .i64 (p : Nat)] 42) = w1 := ⟨_, rfl⟩
  have f1 : Fr No w w1 := by rw [← hw1]; exact (Fr.refl No w).alloc _
  have hb : Blk w1 w.heap.size 42 #[.int .i64 (k : Nat), sv t, .int .i64 (p : Nat)] := by rw [← hw1]; exact Blk.new w 42 _
  have c0 : w1.cell? ⟨w.heap.size, 0, none⟩ = some (.int .i64 (k : Nat)) := hb.cell 0
  have F1 := Lib.hid f1
  have HW1 := Lib.hid hw1
  obtain ⟨y, hy⟩ : ∃ y, w.heap.size = y := ⟨_, rfl⟩
  rw [hy] at c0
  have HY := Lib.hid hy
  have HV : Hid ((k == 2 || k == 5) = (decide ((k : Int) = 2) || decide ((k : Int) = 5))) := Lib.hid (by
    rw [Bool.eq_iff_iff]; simp; omega)
  clear f1 hb hw1 hy
  by_cases h2 : (k : Int) = 2
  · have e2 : ((k : Int) == 2) = true := by simpa using h2
    have HE : Hid ((decide ((k : Int) = 2) || decide ((k : Int) = 5)) = true) := Lib.hid (by simp [h2])
    generalize (k : Int) = K at *
    clear h2
    go_enter Tryz.func117, Tryz.ntmps117
    go_upto_region 1 with fail
    rw [HW1.out, HY.out]
    go_wp2
    go_ret
    exact ⟨ret_bool (by rw [HV.out, HE.out]), F1.out⟩
  · have e2 : ((k : Int) == 2) = false := by simpa using h2
    have HE : Hid ((decide ((k : Int) = 2) || decide ((k : Int) = 5)) = ((k : Int) == 5)) := Lib.hid (by rw [decide_eq_false h2, Bool.false_or]; rfl)
    generalize (k : Int) = K at *
    clear h2
    go_enter Tryz.func117, Tryz.ntmps117
    go_upto_region 1 with fail
    rw [HW1.out, HY.out]
    go_wp2
    go_ret
    exact ⟨ret_bool (by rw [HV.out, HE.out]), F1.out⟩
/-- of's word. -/
theorem of1_any (x : Wd) (y n : Nat) (w : World) (hc : w.cell? ⟨y, 0, none⟩ = some (.int .i64 (n : Nat))) : Calls Tryz.prog 123 #[wdV x, .pointer (some ⟨y, 0, none⟩)] w fun e w' => e = .returned (.bool (ofW n x)) ∧ Fr No w w' := by
  obtain ⟨k, t, p⟩ := x
  unfold wdV ofW
  simp only
  have hyl := World.block_lt_of_cell? (a := ⟨y, 0, none⟩) _ hc
  obtain ⟨w1, hw1⟩ : ∃ w1, w.alloc (.cells #[.int .i64 (k : Nat), sv t, .int .i64 (p : Nat)] 42) = w1 := ⟨_, rfl⟩
  have f1 : Fr No w w1 := by rw [← hw1]; exact (Fr.refl No w).alloc _
  have hb : Blk w1 w.heap.size 42 #[.int .i64 (k : Nat), sv t, .int .i64 (p : Nat)] := by rw [← hw1]; exact Blk.new w 42 _
  have c0 : w1.cell? ⟨w.heap.size, 0, none⟩ = some (.int .i64 (k : Nat)) := hb.cell 0
  have c1 : w1.cell? ⟨y, 0, none⟩ = some (.int .i64 (n : Nat)) := by rw [cell_of_heap (f1.block y hyl id)]; exact hc
  have F1 := Lib.hid f1
  have HW1 := Lib.hid hw1
  obtain ⟨z, hz⟩ : ∃ z, w.heap.size = z := ⟨_, rfl⟩
  rw [hz] at c0
  have HZ := Lib.hid hz
  have HV : Hid ((k == n) = ((k : Int) == (n : Int))) := Lib.hid (by
    rw [Bool.eq_iff_iff]; simp; omega)
  clear f1 hb hw1 hz hc hyl
  generalize (k : Int) = K at *
  generalize (n : Int) = N at *
  go_enter Tryz.func123, Tryz.ntmps123
  go_upto_region 1 with fail
  rw [HW1.out, HZ.out]
  go_wp2
  go_ret
  exact ⟨ret_bool (by rw [HV.out]), F1.out⟩
/-- says' word. -/
theorem says1_any (x : Wd) (y : Nat) (t : Tx) (w : World) (hc : w.cell? ⟨y, 0, none⟩ = some (sv t)) : Calls Tryz.prog 116 #[wdV x, .pointer (some ⟨y, 0, none⟩)] w fun e w' => e = .returned (.bool (saysW t x)) ∧ Fr No w w' := by
  have HF : Hid (∀ w', Calls Tryz.prog 117 #[wdV x] w' fun e w'' => e = .returned (.bool (fixW x)) ∧ Fr No w' w'') := Lib.hid fun w' => isFixed_any x w'
  have HV : Hid (saysW t x = (fixW x && (x.text == t))) := Lib.hid rfl
  obtain ⟨k, s, p⟩ := x
  unfold wdV at *
  simp only at HF HV ⊢
  have hyl := World.block_lt_of_cell? (a := ⟨y, 0, none⟩) _ hc
  obtain ⟨w1, hw1⟩ : ∃ w1, w.alloc (.cells #[.int .i64 (k : Nat), sv s, .int .i64 (p : Nat)] 42) = w1 := ⟨_, rfl⟩
  have f1 : Fr No w w1 := by rw [← hw1]; exact (Fr.refl No w).alloc _
  have hb : Blk w1 w.heap.size 42 #[.int .i64 (k : Nat), sv s, .int .i64 (p : Nat)] := by rw [← hw1]; exact Blk.new w 42 _
  have c0 : w1.cell? ⟨w.heap.size, 0, none⟩ = some (.int .i64 (k : Nat)) := hb.cell 0
  have c1 : w1.cell? ⟨w.heap.size, 1, none⟩ = some (sv s) := hb.cell 1
  have c2 : w1.cell? ⟨w.heap.size, 2, none⟩ = some (.int .i64 (p : Nat)) := hb.cell 2
  have F1 := Lib.hid f1
  have HW1 := Lib.hid hw1
  obtain ⟨z, hz⟩ : ∃ z, w.heap.size = z := ⟨_, rfl⟩
  have HC : Hid (∀ w2, Fr No w1 w2 → w2.cell? ⟨z, 1, none⟩ = some (sv s) ∧ w2.cell? ⟨y, 0, none⟩ = some (sv t)) := Lib.hid fun w2 f2 => by
    refine ⟨?_, ?_⟩
    · rw [← hz, cell_of_heap (f2.block _ hb.lt id)]; exact c1
    · have h1 := f1.block y hyl id
      have hl1 : y < w1.heap.size := Nat.lt_of_lt_of_le hyl f1.size
      rw [cell_of_heap (f2.block y hl1 id), cell_of_heap h1]; exact hc
  rw [hz] at c0 c1 c2
  have HZ := Lib.hid hz
  clear f1 hb hw1 hz hc hyl
  generalize fixW ⟨k, s, p⟩ = fx at *
  generalize (k : Int) = K at *
  generalize (p : Int) = P at *
  go_enter Tryz.func116, Tryz.ntmps116
  go_upto_region 1 with fail
  rw [HW1.out, HZ.out]
  go_wp2_with fail
  refine (HF.out w1).mono ?_
  rintro e w2 ⟨rfl, f2⟩
  obtain ⟨d1, d2⟩ := HC.out w2 f2
  have F2 := Lib.hid (F1.out.trans f2 fun _ _ h => h)
  clear f2 c0 c1 c2
  cases fx with
  | true =>
    go_wp2
    go_ret
    exact ⟨ret_bool (by rw [HV.out]; first | rfl | simp), F2.out⟩
  | false =>
    go_wp2
    go_ret
    exact ⟨ret_bool (by rw [HV.out]; rfl), F2.out⟩

/-! ### a table's numbers -/
theorem idx_at {t : Tx} : ∀ {l : List Tx} {k j : Nat}, (∀ i, i < j → l[i]? ≠ some t) → l[j]? = some t → idx t l k = k + j
  | [], k, j, _, h => by simp at h
  | x :: l, k, 0, _, h => by
    have : x = t := by simpa using h
    unfold idx; rw [if_pos this]; rfl
  | x :: l, k, j + 1, h0, h => by
    have hx : x ≠ t := by
      have := h0 0 (by omega)
      simpa using this
    unfold idx
    rw [if_neg hx, idx_at (l := l) (k := k + 1) (j := j) (fun i hi => by have := h0 (i + 1) (by omega); simpa using this) (by simpa using h)]
    omega
theorem idx_no {t : Tx} : ∀ {l : List Tx} {k : Nat}, (∀ i, i < l.length → l[i]? ≠ some t) → idx t l k = 0
  | [], _, _ => rfl
  | x :: l, k, h => by
    have hx : x ≠ t := by
      have := h 0 (by simp)
      simpa using this
    unfold idx
    rw [if_neg hx]
    exact idx_no fun i hi => by have := h (i + 1) (by simpa using hi); simpa using this
theorem idx_le (t : Tx) : ∀ (l : List Tx) (k : Nat), idx t l k ≤ k + l.length
  | [], k => by simp [idx]
  | x :: l, k => by
    have := idx_le t l (k + 1)
    unfold idx
    split
    · simp
    · simp only [List.length_cons]; omega
/-- A table of seven texts. -/
structure T7 where
  a : Tx
  b : Tx
  c : Tx
  d : Tx
  e : Tx
  f : Tx
  g : Tx
def T7.l (t : T7) : List Tx := [t.a, t.b, t.c, t.d, t.e, t.f, t.g]
def T7.cs (t : T7) : Array Value := #[sv t.a, sv t.b, sv t.c, sv t.d, sv t.e, sv t.f, sv t.g]
theorem T7.at (t : T7) {k : Nat} (hk : k < 7) : t.cs[k]? = some (sv (t.l.getD k [])) := by
  have h : k = 0 ∨ k = 1 ∨ k = 2 ∨ k = 3 ∨ k = 4 ∨ k = 5 ∨ k = 6 := by omega
  rcases h with rfl | rfl | rfl | rfl | rfl | rfl | rfl <;> rfl
theorem T7.get (t : T7) {k : Nat} (hk : k < 7) : t.l[k]? = some (t.l.getD k []) := by
  have h : k = 0 ∨ k = 1 ∨ k = 2 ∨ k = 3 ∨ k = 4 ∨ k = 5 ∨ k = 6 := by omega
  rcases h with rfl | rfl | rfl | rfl | rfl | rfl | rfl <;> rfl
def calls7 : T7 := ⟨[], [], [67, 79, 85, 78, 84], [83, 85, 77], [77, 73, 78], [77, 65, 88], [71, 82, 79, 85, 80, 73, 78, 71]⟩
def signs7 : T7 := ⟨[], [61], [60, 62], [60], [60, 61], [62], [62, 61]⟩
theorem calls7_l : calls7.l = callsT := rfl
theorem signs7_l : signs7.l = signsT := rfl
theorem index7 (cs : Array Value) (k : Nat) (v : Value) (hk : k < 7) (hv : cs[k]? = some v) (w : World) : (Instr.index 138 (.agg cs) (.int .i64 (k : Nat))).run Tryz.prog w = .ok v w := by
  have h1 : ¬ 7 ≤ k := by omega
  simp [Instr.index, asIntOf, run_underlying Tryz.underlying138, part, h1, hv, go_sem]
def cells7 (a : Addr) : Sem (Array Value) := loadCellsFrom a 0 7 #[]
theorem to7 (a : Addr) : loadCellsFrom a 0 7 #[] = cells7 a := rfl
theorem to7' (a : Addr) : loadCells a 7 = cells7 a := rfl
theorem load7 (w : World) (t : T7) (g : Nat) (h : ∀ k, k < 7 → w.cell? ⟨g, k, none⟩ = some (sv (t.l.getD k []))) : (cells7 ⟨g, 0, none⟩).run Tryz.prog w = .ok t.cs w := by
  have h2 := run_loadCellsFrom (P := Tryz.prog) w ⟨g, 0, none⟩ (fun j => (t.cs[j]?).getD undef) 7 0 #[] (fun j hj => by
    rw [Nat.zero_add, t.at hj]
    rw [show (⟨g, 0, none⟩ : Addr).add j = ⟨g, j, none⟩ by simp [Addr.add]; exact fun e => e.symm]
    exact h j hj)
  unfold cells7
  rw [h2]
  rfl
attribute [local go_sem ↓] to7 to7'
set_option maxRecDepth 100000 in
set_option maxHeartbeats 2000000 in
theorem place_any (t : T7) (x : Tx) (w : World) : Calls Tryz.prog 114 #[.agg t.cs, sv x] w fun e w' => e = .returned (.int .i64 (placeW t.l x : Nat)) ∧ Fr No w w' := by
  obtain ⟨w1, hw1⟩ : ∃ w1, w.alloc (.cells t.cs 138) = w1 := ⟨_, rfl⟩
  have f1 : Fr No w w1 := by rw [← hw1]; exact (Fr.refl No w).alloc _
  have hb : Blk w1 w.heap.size 138 t.cs := by rw [← hw1]; exact Blk.new w 138 _
  have hload := load7 w1 t w.heap.size (fun k hk => by rw [hb.cell k]; exact t.at hk)
  have HIX : Hid (∀ (k : Nat) (hk : k < 7) (w' : World), (Instr.index 138 (.agg t.cs) (.int .i64 (k : Nat))).run Tryz.prog w' = .ok (sv (t.l.getD k [])) w') := Lib.hid fun k hk w' => index7 _ k _ hk (t.at hk) w'
  have HY : Hid (∀ k, k < 7 → (∀ j, j < k → t.l.getD j [] ≠ x) → t.l.getD k [] = x → placeW t.l x = k) := Lib.hid fun k hk h0 h1 => by
    have := idx_at (t := x) (l := t.l) (k := 0) (j := k) (fun i hi => by rw [t.get (by omega)]; exact fun e => h0 i hi (Option.some.inj e)) (by rw [t.get hk, h1])
    unfold placeW
    omega
  have HN0 : Hid ((∀ j, j < 7 → t.l.getD j [] ≠ x) → placeW t.l x = 0) := Lib.hid fun h0 => idx_no fun i hi => by rw [t.get hi]; exact fun e => h0 i hi (Option.some.inj e)
  have F1 := Lib.hid f1
  have HW1 := Lib.hid hw1
  obtain ⟨y, hy⟩ : ∃ y, w.heap.size = y := ⟨_, rfl⟩
  rw [hy] at hload
  have HY0 := Lib.hid hy
  have HSZ : Hid (t.cs.size = 7) := Lib.hid rfl
  generalize t.cs = K at *
  obtain ⟨N, hN⟩ : ∃ N, placeW t.l x = N := ⟨_, rfl⟩
  rw [hN] at HY HN0 ⊢
  generalize t.l = L at *
  clear f1 hb hw1 hy hN
  go_enter Tryz.func114, Tryz.ntmps114
  go_upto_region 1 with fail
  rw [HW1.out, HY0.out]
  go_wp2
  clear hload
  go_loop [4, 5, 6, 8] (fun _ _ _ iv => ∃ k : Nat, k ≤ 7 ∧ iv = .int .i64 k ∧ Hid (∀ j, j < k → L.getD j [] ≠ x)) (fun _ _ _ iv => 7 - (intOf iv).toNat)
  case atStart => exact ⟨0, Nat.zero_le _, rfl, Lib.hid (fun j hj => by omega)⟩
  case round =>
    obtain ⟨k, hk, rfl, HN⟩ := hrel
    by_cases hlt : k < 7
    · have hix := HIX.out k hlt w1
      have HYK := Lib.hid (HY.out k hlt HN.out)
      have HNX : Hid (L.getD k [] ≠ x → ∀ j, j < k + 1 → L.getD j [] ≠ x) := Lib.hid fun h j hj => by
        rcases Nat.lt_or_eq_of_le (Nat.le_of_lt_succ hj) with h3 | rfl
        · exact HN.out j h3
        · exact h
      clear HN
      generalize L.getD k [] = s at *
      by_cases he : s = x
      · have hq : (s == x) = true := by simpa using he
        have HE := Lib.hid (HYK.out he)
        clear he
        go_wp2
        go_ret
        exact ⟨ret_int (by rw [HE.out]), F1.out⟩
      · have hq : (s == x) = false := by simpa using he
        have HNX2 := Lib.hid (HNX.out he)
        clear he
        go_wp2
        exact ⟨⟨k + 1, by omega, by go_num, HNX2⟩, by simp [intOf]; omega⟩
    · obtain rfl : k = 7 := by omega
      have HE := Lib.hid (HN0.out HN.out)
      go_wp2
      go_ret
      exact ⟨ret_int (by rw [HE.out]; rfl), F1.out⟩
end Go.Proofs.YtkcnbmgaeompjaaGreatDoor
/- Reading a query: whether the next word is meant, taking it. -/
namespace Go.Proofs.YtkcnbmgaeompjaaGreatDoor
open Go.RowKit Go.Maps
set_option linter.unusedVariables false

theorem mixedQ : Tryz.prog.follows .mixedOrders = true := by kernel_rfl
attribute [local go_sem ↓] to7 to7'
/-- among's word. -/
theorem among1_any (x : Wd) (y : Nat) (T : T7) (w : World) (hc : ∀ k, k < 7 → w.cell? ⟨y, k, none⟩ = some (sv (T.l.getD k []))) : Calls Tryz.prog 149 #[wdV x, .pointer (some ⟨y, 0, none⟩)] w fun e w' => e = .returned (.bool (amongW T.l x)) ∧ Fr No w w' := by
  have HF : Hid (∀ w', Calls Tryz.prog 117 #[wdV x] w' fun e w'' => e = .returned (.bool (fixW x)) ∧ Fr No w' w'') := Lib.hid fun w' => isFixed_any x w'
  have HP : Hid (∀ w', Calls Tryz.prog 114 #[.agg T.cs, sv x.text] w' fun e w'' => e = .returned (.int .i64 (placeW T.l x.text : Nat)) ∧ Fr No w' w'') := Lib.hid fun w' => place_any T x.text w'
  have HV : Hid (amongW T.l x = (fixW x && decide (0 < placeW T.l x.text))) := Lib.hid rfl
  obtain ⟨k, s, p⟩ := x
  unfold wdV at *
  simp only at HF HP HV ⊢
  have hyl := World.block_lt_of_cell? (a := ⟨y, 0, none⟩) _ (hc 0 (by omega))
  obtain ⟨w1, hw1⟩ : ∃ w1, w.alloc (.cells #[.int .i64 (k : Nat), sv s, .int .i64 (p : Nat)] 42) = w1 := ⟨_, rfl⟩
  have f1 : Fr No w w1 := by rw [← hw1]; exact (Fr.refl No w).alloc _
  have hb : Blk w1 w.heap.size 42 #[.int .i64 (k : Nat), sv s, .int .i64 (p : Nat)] := by rw [← hw1]; exact Blk.new w 42 _
  have c0 : w1.cell? ⟨w.heap.size, 0, none⟩ = some (.int .i64 (k : Nat)) := hb.cell 0
  have c1 : w1.cell? ⟨w.heap.size, 1, none⟩ = some (sv s) := hb.cell 1
  have c2 : w1.cell? ⟨w.heap.size, 2, none⟩ = some (.int .i64 (p : Nat)) := hb.cell 2
  have F1 := Lib.hid f1
  have HW1 := Lib.hid hw1
  obtain ⟨z, hz⟩ : ∃ z, w.heap.size = z := ⟨_, rfl⟩
  have HC : Hid (∀ w2, Fr No w1 w2 → w2.cell? ⟨z, 1, none⟩ = some (sv s) ∧ (cells7 ⟨y, 0, none⟩).run Tryz.prog w2 = .ok T.cs w2) := Lib.hid fun w2 f2 => by
    refine ⟨?_, ?_⟩
    · rw [← hz, cell_of_heap (f2.block _ hb.lt id)]; exact c1
    · have h1 := f1.block y hyl id
      have hl1 : y < w1.heap.size := Nat.lt_of_lt_of_le hyl f1.size
      exact load7 w2 T y fun k hk => by rw [cell_of_heap (f2.block y hl1 id), cell_of_heap h1]; exact hc k hk
  rw [hz] at c0 c1 c2
  have HZ := Lib.hid hz
  have HSZ : Hid (T.cs.size = 7) := Lib.hid rfl
  clear f1 hb hw1 hz hc hyl
  generalize fixW ⟨k, s, p⟩ = fx at *
  obtain ⟨N, hN⟩ : ∃ N, placeW T.l s = N := ⟨_, rfl⟩
  rw [hN] at HP HV
  clear hN
  generalize T.cs = K at *
  generalize (k : Int) = KK at *
  generalize (p : Int) = P at *
  go_enter Tryz.func149, Tryz.ntmps149
  go_upto_region 1 with fail
  rw [HW1.out, HZ.out]
  go_wp2_with fail
  refine (HF.out w1).mono ?_
  rintro e w2 ⟨rfl, f2⟩
  obtain ⟨d1, d2⟩ := HC.out w2 f2
  have F2 := Lib.hid (F1.out.trans f2 fun _ _ h => h)
  clear f2 c0 c1 c2
  cases fx with
  | true =>
    go_wp2_with fail
    refine (HP.out w2).mono ?_
    rintro e w3 ⟨rfl, f3⟩
    have F3 := Lib.hid (F2.out.trans f3 fun _ _ h => h)
    clear f3
    have HVV : Hid (amongW T.l ⟨k, s, p⟩ = decide ((0 : Int) < (N : Int))) := Lib.hid (by rw [HV.out, Bool.true_and]; simp)
    generalize (N : Int) = NN at *
    go_wp2
    go_ret
    exact ⟨ret_bool (by rw [HVV.out]), F3.out⟩
  | false =>
    go_wp2
    go_ret
    exact ⟨ret_bool (by rw [HV.out]; rfl), F2.out⟩
/-- A word that is meant, as a function value. -/
def Mt (w : World) (mv : Value) (m : Wd → Bool) : Prop :=
  (∃ y n, mv = .func (.func 123) #[] #[.pointer (some ⟨y, 0, none⟩)] ∧ w.cell? ⟨y, 0, none⟩ = some (.int .i64 (n : Nat)) ∧ m = ofW n) ∨
  (∃ y t, mv = .func (.func 116) #[] #[.pointer (some ⟨y, 0, none⟩)] ∧ w.cell? ⟨y, 0, none⟩ = some (sv t) ∧ m = saysW t) ∨
  (∃ y, ∃ T : T7, mv = .func (.func 149) #[] #[.pointer (some ⟨y, 0, none⟩)] ∧ (∀ k, k < 7 → w.cell? ⟨y, k, none⟩ = some (sv (T.l.getD k []))) ∧ m = amongW T.l)
theorem cell_lt {w : World} {g o : Nat} {v : Value} (h : w.cell? ⟨g, o, none⟩ = some v) : g < w.heap.size := World.block_lt_of_cell? (a := ⟨g, o, none⟩) _ h
theorem Mt.keep {w w' : World} {mv : Value} {m : Wd → Bool} (h : Mt w mv m) (hf : Fr No w w') : Mt w' mv m := by
  rcases h with ⟨y, n, h1, h2, h3⟩ | ⟨y, t, h1, h2, h3⟩ | ⟨y, T, h1, h2, h3⟩
  · exact .inl ⟨y, n, h1, by rw [cell_of_heap (hf.block y (cell_lt h2) id)]; exact h2, h3⟩
  · exact .inr (.inl ⟨y, t, h1, by rw [cell_of_heap (hf.block y (cell_lt h2) id)]; exact h2, h3⟩)
  · exact .inr (.inr ⟨y, T, h1, fun k hk => by rw [cell_of_heap (hf.block y (cell_lt (h2 k hk)) id)]; exact h2 k hk, h3⟩)
theorem fr_grow (w : World) (dd : Nat) (os : Array Obj) : Fr No w (Go.Sort.grow (redrawn w dd) os) := Fr.of_below (below_regrown _ _ _)
theorem fr_hp {w wx : World} (hp : ∃ p : Regrown, wx = Go.Sort.grow (redrawn w p.d) p.os) : Fr No w wx := by obtain ⟨p, rfl⟩ := hp; exact fr_grow _ _ _
/-- A contract that makes memory alone, in a drawn region. -/
theorem re_of {f : FuncId} {args : Array Value} {w : World} {v : Value} (h : ∀ w', Fr No w w' → Calls Tryz.prog f args w' fun e w'' => e = .returned v ∧ Fr No w' w'') : ∀ dd os, Calls Tryz.prog f args (Go.Sort.grow (redrawn w dd) os) fun e w'' => e = .returned v ∧ ∃ p : Regrown, w'' = Go.Sort.grow (redrawn w p.d) p.os := fun dd os =>
  Calls.regrown_of ((h _ (fr_grow w dd os)).mono fun e w'' ⟨h1, h2⟩ => ⟨h1, h2.below⟩)
set_option maxRecDepth 100000 in
set_option maxHeartbeats 4000000 in
theorem sees_any {C : Cx} {w : World} {x : Wd} {r : List Wd} {b : Bool} {mv : Value} {m : Wd → Bool} (h : Rd C w (x :: r) b) (hm : Mt w mv m) : Calls Tryz.prog 113 #[rp C, mv] w fun e w' => e = .returned (.bool (m x)) ∧ Fr No w w' := by
  obtain ⟨h1, h2, h3, h4, h5, h6, h7⟩ := h.at
  obtain ⟨k0, k1, k2⟩ := h.cells _ _ h1
  have hl := h.len
  have hb := h.blk
  generalize C.ws.length - (x :: r).length = a at *
  unfold rp
  unfold Cx.val at hb
  obtain ⟨d, g, c, ws⟩ := C
  simp only at *
  have z0 : ∀ dd os, (Go.Sort.grow (redrawn w dd) os).cell? ⟨d, 0, none⟩ = some (.slice (some ⟨g, 0, none⟩) ws.length c) := fun dd os => cell_regrown (hb.cell 0) dd os
  have z1 : ∀ dd os, (Go.Sort.grow (redrawn w dd) os).cell? ⟨d, 1, none⟩ = some (.int .i64 (a : Nat)) := fun dd os => cell_regrown (hb.cell 1) dd os
  have y0 : ∀ dd os, (Go.Sort.grow (redrawn w dd) os).cell? ⟨g, a * 3, none⟩ = some (.int .i64 (x.kind : Nat)) := fun dd os => cell_regrown k0 dd os
  have y1 : ∀ dd os, (Go.Sort.grow (redrawn w dd) os).cell? ⟨g, a * 3 + 1, none⟩ = some (sv x.text) := fun dd os => cell_regrown k1 dd os
  have y2 : ∀ dd os, (Go.Sort.grow (redrawn w dd) os).cell? ⟨g, a * 3 + 2, none⟩ = some (.int .i64 (x.pos : Nat)) := fun dd os => cell_regrown k2 dd os
  obtain ⟨n, hn⟩ : ∃ n, ws.length = n := ⟨_, rfl⟩
  rw [hn] at z0 h2 hl
  rcases hm with ⟨y, N, rfl, hc, rfl⟩ | ⟨y, t, rfl, hc, rfl⟩ | ⟨y, T, rfl, hc, rfl⟩
  · have HK := Lib.hid (re_of (w := w) (f := 123) (args := #[wdV x, .pointer (some ⟨y, 0, none⟩)]) fun w' f => of1_any x y N w' (by rw [cell_of_heap (f.block y (cell_lt hc) id)]; exact hc))
    unfold wdV at HK
    generalize ofW N x = res at *
    clear hc k0 k1 k2 hb h h1 h3 h4 h5
    generalize (x.kind : Int) = xk at *
    generalize x.text = xt at *
    generalize (x.pos : Int) = xp at *
    go_enter Tryz.func113, Tryz.ntmps113
    go_upto_region 1 with fail
    refine wp_region_quiet_below mixedQ (by kernel_rfl) ?_
    repeat (first | go_big_quiet_step (first | (with_reducible exact HK.out _ _)) | quiet_step (first | (with_reducible exact HK.out _ _)))
    refine wpQuiet_nil ?_
    intro wx hp
    have F := Lib.hid (fr_hp hp)
    clear hp
    go_wp2
    go_ret
    exact ⟨rfl, F.out⟩
  · have HK := Lib.hid (re_of (w := w) (f := 116) (args := #[wdV x, .pointer (some ⟨y, 0, none⟩)]) fun w' f => says1_any x y t w' (by rw [cell_of_heap (f.block y (cell_lt hc) id)]; exact hc))
    unfold wdV at HK
    generalize saysW t x = res at *
    clear hc k0 k1 k2 hb h h1 h3 h4 h5
    generalize (x.kind : Int) = xk at *
    generalize x.text = xt at *
    generalize (x.pos : Int) = xp at *
    go_enter Tryz.func113, Tryz.ntmps113
    go_upto_region 1 with fail
    refine wp_region_quiet_below mixedQ (by kernel_rfl) ?_
    repeat (first | go_big_quiet_step (first | (with_reducible exact HK.out _ _)) | quiet_step (first | (with_reducible exact HK.out _ _)))
    refine wpQuiet_nil ?_
    intro wx hp
    have F := Lib.hid (fr_hp hp)
    clear hp
    go_wp2
    go_ret
    exact ⟨rfl, F.out⟩
  · have HK := Lib.hid (re_of (w := w) (f := 149) (args := #[wdV x, .pointer (some ⟨y, 0, none⟩)]) fun w' f => among1_any x y T w' (fun k hk => by rw [cell_of_heap (f.block y (cell_lt (hc k hk)) id)]; exact hc k hk))
    unfold wdV at HK
    generalize amongW T.l x = res at *
    clear hc k0 k1 k2 hb h h1 h3 h4 h5
    generalize (x.kind : Int) = xk at *
    generalize x.text = xt at *
    generalize (x.pos : Int) = xp at *
    go_enter Tryz.func113, Tryz.ntmps113
    go_upto_region 1 with fail
    refine wp_region_quiet_below mixedQ (by kernel_rfl) ?_
    repeat (first | go_big_quiet_step (first | (with_reducible exact HK.out _ _)) | quiet_step (first | (with_reducible exact HK.out _ _)))
    refine wpQuiet_nil ?_
    intro wx hp
    have F := Lib.hid (fr_hp hp)
    clear hp
    go_wp2
    go_ret
    exact ⟨rfl, F.out⟩
end Go.Proofs.YtkcnbmgaeompjaaGreatDoor
/- Reading a query: taking a word, needing one, giving up. -/
namespace Go.Proofs.YtkcnbmgaeompjaaGreatDoor
open Go.RowKit Go.Maps
set_option linter.unusedVariables false

theorem giveUp_any (c p : Nat) (w : World) : Calls Tryz.prog 26 #[.int .i64 (c : Nat), .int .i64 (p : Nat)] w fun e w' => e = .panicked [{ v := flt c p, recovered := false }] ∧ w = w' := by
  unfold flt
  generalize (c : Int) = ci
  generalize (p : Int) = pi
  go_enter Tryz.func26, Tryz.ntmps26
  go_wp2
  exact ⟨rfl, rfl, rfl⟩
theorem of_any (n : Nat) (w : World) : Calls Tryz.prog 68 #[.int .i64 (n : Nat)] w fun e w' => (∃ mv, e = .returned mv ∧ Mt w' mv (ofW n)) ∧ Fr No w w' := by
  obtain ⟨w1, hw1⟩ : ∃ w1, w.alloc (.cells #[.int .i64 (n : Nat)] 3) = w1 := ⟨_, rfl⟩
  have f1 : Fr No w w1 := by rw [← hw1]; exact (Fr.refl No w).alloc _
  have hb : Blk w1 w.heap.size 3 #[.int .i64 (n : Nat)] := by rw [← hw1]; exact Blk.new w 3 _
  have HE : Hid (Mt w1 (.func (.func 123) #[] #[.pointer (some ⟨w.heap.size, 0, none⟩)]) (ofW n) ∧ Fr No w w1) := Lib.hid ⟨.inl ⟨_, n, rfl, hb.cell 0, rfl⟩, f1⟩
  have HW1 := Lib.hid hw1
  clear hb f1 hw1
  go_enter Tryz.func68, Tryz.ntmps68
  go_upto_region 1 with fail
  rw [HW1.out]
  go_wp2
  go_ret
  exact ⟨⟨_, rfl, HE.out.1⟩, HE.out.2⟩
theorem says_any (t : Tx) (w : World) : Calls Tryz.prog 63 #[sv t] w fun e w' => (∃ mv, e = .returned mv ∧ Mt w' mv (saysW t)) ∧ Fr No w w' := by
  obtain ⟨w1, hw1⟩ : ∃ w1, w.alloc (.cells #[sv t] 9) = w1 := ⟨_, rfl⟩
  have f1 : Fr No w w1 := by rw [← hw1]; exact (Fr.refl No w).alloc _
  have hb : Blk w1 w.heap.size 9 #[sv t] := by rw [← hw1]; exact Blk.new w 9 _
  have HE : Hid (Mt w1 (.func (.func 116) #[] #[.pointer (some ⟨w.heap.size, 0, none⟩)]) (saysW t) ∧ Fr No w w1) := Lib.hid ⟨.inr (.inl ⟨_, t, rfl, hb.cell 0, rfl⟩), f1⟩
  have HW1 := Lib.hid hw1
  clear hb f1 hw1
  go_enter Tryz.func63, Tryz.ntmps63
  go_upto_region 1 with fail
  rw [HW1.out]
  go_wp2
  go_ret
  exact ⟨⟨_, rfl, HE.out.1⟩, HE.out.2⟩
theorem among_any (T : T7) (w : World) : Calls Tryz.prog 115 #[.agg T.cs] w fun e w' => (∃ mv, e = .returned mv ∧ Mt w' mv (amongW T.l)) ∧ Fr No w w' := by
  obtain ⟨w1, hw1⟩ : ∃ w1, w.alloc (.cells T.cs 138) = w1 := ⟨_, rfl⟩
  have f1 : Fr No w w1 := by rw [← hw1]; exact (Fr.refl No w).alloc _
  have hb : Blk w1 w.heap.size 138 T.cs := by rw [← hw1]; exact Blk.new w 138 _
  have HE : Hid (Mt w1 (.func (.func 149) #[] #[.pointer (some ⟨w.heap.size, 0, none⟩)]) (amongW T.l) ∧ Fr No w w1) := Lib.hid ⟨.inr (.inr ⟨_, T, rfl, fun k hk => by rw [hb.cell k]; exact T.at hk, rfl⟩), f1⟩
  have HW1 := Lib.hid hw1
  have HSZ : Hid (T.cs.size = 7) := Lib.hid rfl
  clear hb f1 hw1
  generalize T.cs = K at *
  go_enter Tryz.func115, Tryz.ntmps115
  go_upto_region 1 with fail
  rw [HW1.out]
  go_wp2
  go_ret
  exact ⟨⟨_, rfl, HE.out.1⟩, HE.out.2⟩
/-- Taking a word, if it is meant. -/
def TakesP (C : Cx) (w : World) (x : Wd) (r : List Wd) (b t : Bool) (e : Ending) (w' : World) : Prop :=
  e = .returned (.bool t) ∧ Rd C w' (if t = true then r else x :: r) b ∧ Fr (Only C.d) w w'
set_option maxRecDepth 100000 in
set_option maxHeartbeats 2000000 in
theorem takes_any {C : Cx} {w : World} {x : Wd} {r : List Wd} {b : Bool} {mv : Value} {m : Wd → Bool} (h : Rd C w (x :: r) b) (hm : Mt w mv m) : Calls Tryz.prog 62 #[rp C, mv] w (TakesP C w x r b (m x)) := by
  have HS := Lib.hid (sees_any h hm)
  have hat := h.at
  have HR := Lib.hid h
  obtain ⟨d, g, c, ws⟩ := C
  unfold rp at *
  simp only at *
  clear h hm
  cases hmx : m x with
  | false =>
    rw [hmx] at HS
    go_enter Tryz.func62, Tryz.ntmps62
    go_wp2_with fail
    refine HS.out.mono ?_
    rintro e w1 ⟨rfl, f1⟩
    have F := Lib.hid f1
    clear f1
    go_wp2
    go_ret
    exact ⟨rfl, HR.out.keep F.out, F.out.any⟩
  | true =>
    rw [hmx] at HS
    obtain ⟨h1, h2, h3, h4, h5, h6, h7⟩ := hat
    have hll := HR.out.len
    simp only at hll h4 h2
    have HEND : Hid (∀ w1, Fr No w w1 → TakesP ⟨d, g, c, ws⟩ w x r b true (.returned (.bool true)) (w1.setCell ⟨d, 1, none⟩ (.int .i64 ((ws.length - r.length : Nat) : Int)))) := Lib.hid fun w1 f1 => by
      have hr1 := HR.out.keep f1
      have f2 : Fr (Only d) w1 (w1.setCell ⟨d, 1, none⟩ (.int .i64 ((ws.length - r.length : Nat) : Int))) := (Fr.refl (Only d) w1).setCell (p := ⟨d, 1, none⟩) (fun _ => rfl) _
      exact ⟨rfl, hr1.turn (r' := r) f2 (hr1.blk.set_ 1 _) h3, f1.any.trans f2 fun _ _ h => h⟩
    have HCELL : Hid (∀ w1, Fr No w w1 → w1.cell? ⟨d, 1, none⟩ = some (.int .i64 ((ws.length - (x :: r).length : Nat) : Int)) ∧ w1.frozen? ⟨d, 1, none⟩ = false) := Lib.hid fun w1 f1 => by
      have hr1 := HR.out.keep f1
      exact ⟨hr1.blk.cell 1, hr1.blk.frozen 1⟩
    rw [h4] at HEND
    generalize ws.length - (x :: r).length = a at *
    have ha : a ≤ 100000 := by omega
    have e1 : IntKind.i64.wrap ((a : Int) + 1) = ((a + 1 : Nat) : Int) := by rw [IntWalk.i64_in _ (by omega)]; omega
    have E1 := Lib.hid e1
    clear h1 h2 h3 h4 h5 h6 h7 hll e1
    go_enter Tryz.func62, Tryz.ntmps62
    go_wp2_with fail
    refine HS.out.mono ?_
    rintro e w1 ⟨rfl, f1⟩
    obtain ⟨c1, z1⟩ := HCELL.out w1 f1
    have HX := Lib.hid (HEND.out w1 f1)
    obtain ⟨q, hq⟩ : ∃ q, a + 1 = q := ⟨_, rfl⟩
    rw [hq] at HX E1
    have e1 := E1.out
    clear f1 hq
    go_wp2
    go_ret
    exact HX.out
end Go.Proofs.YtkcnbmgaeompjaaGreatDoor
/- Reading a query: needing a word, a name, words one behind the other. -/
namespace Go.Proofs.YtkcnbmgaeompjaaGreatDoor
open Go.RowKit Go.Maps
set_option linter.unusedVariables false
attribute [local go_sem ↓] Go.wp_at_zero Go.wp_at_succ

theorem needW_cons {m : Wd → Bool} {x : Wd} {r : List Wd} {b : Bool} : needW m (x :: r) b = if m x then .ok x r b else .bad 41 x.pos := rfl
theorem elem38 : Tryz.prog.elem 38 = 42 := by kernel_rfl
theorem idx38 (g n c a : Nat) (h : a < n) (w : World) : (Instr.indexAt 38 (.slice (some ⟨g, 0, none⟩) n c) (.int .i64 (a : Nat))).run Tryz.prog w = .ok (.pointer (some ⟨g, a * 3, none⟩)) w := by
  rw [run_indexAt_slice w 38 ⟨g, 0, none⟩ n c .i64 (a : Nat) (by rw [elem38]; exact Tryz.underlying38), if_pos (by omega), elem38]
  rw [Tryz.sizeOf42]
  simp [Result.andThen, Addr.add_lit]
set_option maxRecDepth 100000 in
set_option maxHeartbeats 4000000 in
theorem need_any {C : Cx} {w : World} {x : Wd} {r : List Wd} {b : Bool} {mv : Value} {m : Wd → Bool} (h : Rd C w (x :: r) b) (hm : Mt w mv m) : Calls Tryz.prog 67 #[rp C, mv] w (RdP C w wdR (needW m (x :: r) b)) := by
  rw [needW_cons]
  obtain ⟨h1, h2, h3, h4, h5, h6, h7⟩ := h.at
  obtain ⟨k0, k1, k2⟩ := h.cells _ _ h1
  have hl := h.len
  have hb := h.blk
  have HR := Lib.hid h
  have hsz := h.lt
  generalize C.ws.length - (x :: r).length = a at *
  unfold Cx.val at hb
  obtain ⟨d, g, c, ws⟩ := C
  unfold rp
  simp only at *
  obtain ⟨xk, xt, xp⟩ := x
  simp only at k0 k1 k2 h5 h6 h7
  -- the result's cell
  obtain ⟨y, hy⟩ : ∃ y, w.heap.size = y := ⟨_, rfl⟩
  obtain ⟨w1, hw1⟩ : ∃ w1, w.alloc (.cells #[.int .i64 0, .string ⟨#[]⟩, .int .i64 0] 42) = w1 := ⟨_, rfl⟩
  have f1 : Fr No w w1 := by rw [← hw1]; exact (Fr.refl No w).alloc _
  have hb1 : Blk w1 y 42 #[.int .i64 0, .string ⟨#[]⟩, .int .i64 0] := by rw [← hw1, ← hy]; exact Blk.new w 42 _
  have hz1 : w1.heap.size = y + 1 := by rw [← hw1, ← hy]; simp
  have hdlt : d < w.heap.size := hsz
  have hglt : g < w.heap.size := cell_lt k0
  have z0 : w1.cell? ⟨d, 0, none⟩ = some (.slice (some ⟨g, 0, none⟩) ws.length c) := by rw [cell_of_heap (f1.block d hdlt id)]; exact hb.cell 0
  have z1 : w1.cell? ⟨d, 1, none⟩ = some (.int .i64 (a : Nat)) := by rw [cell_of_heap (f1.block d hdlt id)]; exact hb.cell 1
  have y0 : w1.cell? ⟨g, a * 3, none⟩ = some (.int .i64 (xk : Nat)) := by rw [cell_of_heap (f1.block g hglt id)]; exact k0
  have y1 : w1.cell? ⟨g, a * 3 + 1, none⟩ = some (sv xt) := by rw [cell_of_heap (f1.block g hglt id)]; exact k1
  have y2 : w1.cell? ⟨g, a * 3 + 2, none⟩ = some (.int .i64 (xp : Nat)) := by rw [cell_of_heap (f1.block g hglt id)]; exact k2
  have al : ∀ (o : Obj) (k i : Nat) (v : Value), w1.cell? ⟨k, i, none⟩ = some v → (w1.alloc o).cell? ⟨k, i, none⟩ = some v := fun o k i v hv => by
    rw [cell_of_heap (Below.heap_alloc w1 o k (cell_lt hv))]; exact hv
  have z0' := fun o => al o _ _ _ z0
  have z1' := fun o => al o _ _ _ z1
  have y0' := fun o => al o _ _ _ y0
  have y1' := fun o => al o _ _ _ y1
  have y2' := fun o => al o _ _ _ y2
  clear al
  have F1 := Lib.hid f1
  have HW1 := Lib.hid hw1
  have HY := Lib.hid hy
  have HZ1 := Lib.hid hz1
  have HB1 := Lib.hid hb1
  have HM := Lib.hid hm
  have HD : Hid (d < y) := Lib.hid (by omega)
  obtain ⟨n, hn⟩ : ∃ n, ws.length = n := ⟨_, rfl⟩
  rw [hn] at z0 h2 hl
  simp only [hn] at z0'
  clear hb k0 k1 k2 h f1 hw1 hz1 hb1 hm hy h1 h3 h4 hn hsz
  go_enter Tryz.func67, Tryz.ntmps67
  go_upto_region 1 with fail
  rw [HW1.out, HY.out]
  go_cut [5] (fun yv wx => yv = .pointer (some ⟨y + 1, 0, none⟩) ∧ Fr No w1 wx ∧ Blk wx (y + 1) 42 #[.int .i64 (xk : Nat), sv xt, .int .i64 (xp : Nat)])
  case first =>
    have hz1 := HZ1.out
    have hlt : (a : Int) < (n : Int) := by omega
    have ha0 : (0 : Int) ≤ (a : Int) := by omega
    have hnb : (n : Int) ≤ 1000000000 := by omega
    have hz1 := HZ1.out
    have hix := fun w => idx38 g n c a (by omega) w
    go_region_with (fail)
    all_goals
      go_wp2_with fail
      go_meet
      refine ⟨rfl, ?_, ?_⟩
      · first | exact ((Fr.refl No w1).alloc _).drew | exact (Fr.refl No w1).alloc _
      · first | (rw [← hz1]; exact Blk.new w1 42 _) | (rw [← hz1]; exact (Blk.new w1 42 _ : Blk (w1.alloc _) _ _ _))
  case rest =>
    obtain ⟨rfl, f2, hb2⟩ := hcut
    have F2 := Lib.hid (F1.out.trans f2 fun _ _ h => h)
    have HB := HB1.out.of (f2.block y HB1.out.lt id)
    have HT := Lib.hid (takes_any (HR.out.keep F2.out) (HM.out.keep F2.out))
    have HEND : Hid (∀ w3, Fr (Only d) wc w3 → Blk w3 y 42 #[.int .i64 0, .string ⟨#[]⟩, .int .i64 0] ∧ Blk w3 (y + 1) 42 #[.int .i64 (xk : Nat), sv xt, .int .i64 (xp : Nat)]) := Lib.hid fun w3 f3 =>
      ⟨HB.of (f3.block y HB.lt (fun e => by have := HD.out; have e : y = d := e; omega)), hb2.of (f3.block (y + 1) hb2.lt (fun e => by have := HD.out; have e : y + 1 = d := e; omega))⟩
    have HY2 := HY.out
    unfold rp at HT
    simp only at HT
    clear f2 hb2 HB z0 z1 y0 y1 y2 z0' z1' y0' y1' y2'
    cases hmx : m ⟨xk, xt, xp⟩ with
    | true =>
      rw [hmx] at HT
      go_wp2_with fail
      refine HT.out.mono ?_
      rintro e w3 ⟨rfl, hr3, f3⟩
      rw [if_pos rfl] at hr3
      obtain ⟨b1, b2⟩ := HEND.out w3 f3
      have e0 : w3.cell? ⟨y + 1, 0, none⟩ = some (.int .i64 (xk : Nat)) := b2.cell 0
      have e1 : w3.cell? ⟨y + 1, 1, none⟩ = some (sv xt) := b2.cell 1
      have e2 : w3.cell? ⟨y + 1, 2, none⟩ = some (.int .i64 (xp : Nat)) := b2.cell 2
      have g0 : w3.cell? ⟨y, 0, none⟩ = some (.int .i64 0) := b1.cell 0
      have g1 : w3.cell? ⟨y, 1, none⟩ = some (.string ⟨#[]⟩) := b1.cell 1
      have g2 : w3.cell? ⟨y, 2, none⟩ = some (.int .i64 0) := b1.cell 2
      have x0 := b1.frozen 0
      have x1 := b1.frozen 1
      have x2 := b1.frozen 2
      have HR3 := Lib.hid hr3
      have HF3 := Lib.hid (F2.out.any.trans f3 fun _ _ h => h)
      have HYL : Hid (w.heap.size ≤ y) := Lib.hid (by omega)
      have hdy : d < y := HD.out
      have hgy : g < y := by omega
      clear hr3 f3 b1 b2
      go_wp2
      refine bodyPost_ret (v := .agg #[.int .i64 (xk : Nat), sv xt, .int .i64 (xp : Nat)]) (by simp [results, Tryz.results67, go_sem, g0, g1, g2]) rfl ?_
      refine ⟨?_, ⟨_, rfl, rfl, h5, h6, h7⟩, ?_⟩
      · exact fr_new (fr_new (fr_new HF3.out HYL.out) HYL.out) HYL.out
      · refine HR3.out.past (y := y) ?_ hdy hgy
        exact fr_set (fr_set (fr_set (Fr.refl _ w3)))
    | false =>
      rw [hmx] at HT
      go_wp2_with fail
      refine HT.out.mono ?_
      rintro e w3 ⟨rfl, hr3, f3⟩
      obtain ⟨b1, b2⟩ := HEND.out w3 f3
      have e2 : w3.cell? ⟨y + 1, 2, none⟩ = some (.int .i64 (xp : Nat)) := b2.cell 2
      have HF3 := Lib.hid (F2.out.any.trans f3 fun _ _ h => h)
      have HG := Lib.hid (giveUp_any 41 xp w3)
      clear hr3 f3 b1 b2
      go_wp2_with fail
      refine HG.out.mono ?_
      rintro e w4 ⟨rfl, rfl⟩
      go_wp2_with fail
      exact ⟨rfl, HF3.out, rfl⟩
theorem field42 (a b c : Value) (w : World) : (Instr.field 42 (.agg #[a, b, c]) 1).run Tryz.prog w = .ok b w := by
  simp [Instr.field, run_underlying Tryz.underlying42, go_sem, asAgg]
set_option maxRecDepth 100000 in
theorem name_any {C : Cx} {w : World} {r : List Wd} {b : Bool} (h : Rd C w r b) (he : Ended r) : Calls Tryz.prog 61 #[rp C] w (RdP C w strR (nameW r b)) := by
  obtain ⟨x, l, rfl⟩ := he.cons
  have HO := Lib.hid (of_any 1 w)
  have HN : Hid (∀ w1 mv, Fr No w w1 → Mt w1 mv (ofW 1) → Calls Tryz.prog 67 #[rp C, mv] w1 (RdP C w1 wdR (needW (ofW 1) (x :: l) b))) := Lib.hid fun w1 mv f hm => need_any (h.keep f) hm
  have HV : Hid (nameW (x :: l) b = (needW (ofW 1) (x :: l) b).map Wd.text) := Lib.hid rfl
  rw [HV.out]
  generalize needW (ofW 1) (x :: l) b = R at *
  unfold rp at *
  clear h
  go_enter Tryz.func61, Tryz.ntmps61
  go_wp2_with fail
  refine HO.out.mono ?_
  rintro e w1 ⟨⟨mv, rfl, hm⟩, f1⟩
  have HN1 := Lib.hid (HN.out w1 mv f1 hm)
  have F1 := Lib.hid f1
  clear hm f1
  go_wp2_with fail
  refine HN1.out.mono ?_
  rintro e w2 ⟨f2, hp⟩
  have F2 := Lib.hid (F1.out.any.trans f2 fun _ _ h => h)
  clear f2
  cases R with
  | bad c p =>
    obtain rfl := hp
    go_wp2_with fail
    exact ⟨rfl, F2.out, rfl⟩
  | ok x r m =>
    obtain ⟨⟨v, rfl, rfl, h1, h2, h3⟩, hr⟩ := hp
    have HR := Lib.hid hr
    obtain ⟨xk, xt, xp⟩ := x
    clear hr
    have hfd := fun w => field42 (.int .i64 (xk : Nat)) (sv xt) (.int .i64 (xp : Nat)) w
    go_wp2
    go_ret
    exact ⟨F2.out, ⟨_, rfl, rfl, h1⟩, HR.out⟩
/-- A row of fixed texts. -/
def FixT (w : World) (v : Value) (ts : List Tx) : Prop := ∃ g c, v = .slice (some ⟨g, 0, none⟩) ts.length c ∧ ts.length ≤ 100 ∧ ∀ k (h : k < ts.length), w.cell? ⟨g, k, none⟩ = some (sv ts[k])
set_option maxRecDepth 100000 in
set_option maxHeartbeats 2000000 in
theorem all_any {C : Cx} {w : World} {r : List Wd} {b : Bool} {v : Value} {ts : List Tx} (h : Rd C w r b) (hv : FixT w v ts) (hg : ∀ g n c, v = .slice (some ⟨g, 0, none⟩) n c → g ≠ C.d) (he : Ended r) : Calls Tryz.prog 58 #[rp C, v] w (RdP C w unitR (allW ts r b)) := by
  obtain ⟨g, c, rfl, hl, hc⟩ := hv
  have hgd := hg g _ _ rfl
  have HC : Hid (∀ w1, Fr (Only C.d) w w1 → ∀ k (h : k < ts.length), w1.cell? ⟨g, k, none⟩ = some (sv ts[k])) := Lib.hid fun w1 f k hk => by
    rw [cell_of_heap (f.block g (cell_lt (hc k hk)) hgd)]; exact hc k hk
  have HS : Hid (∀ t w1, Calls Tryz.prog 63 #[sv t] w1 fun e w2 => (∃ mv, e = .returned mv ∧ Mt w2 mv (saysW t)) ∧ Fr No w1 w2) := Lib.hid fun t w1 => says_any t w1
  have HN : Hid (∀ x l b w1 mv m, Rd C w1 (x :: l) b → Mt w1 mv m → Calls Tryz.prog 67 #[rp C, mv] w1 (RdP C w1 wdR (needW m (x :: l) b))) := Lib.hid fun x l b w1 mv m h hm => need_any h hm
  have HR := Lib.hid h
  have HE := Lib.hid he
  have HL : Hid (allW ts r b = allW (ts.drop 0) r b) := Lib.hid (by rw [List.drop_zero])
  obtain ⟨n, hn⟩ : ∃ n, ts.length = n := ⟨_, rfl⟩
  rw [hn] at hl
  have HTN := Lib.hid hn
  simp only [hn]
  unfold rp at *
  obtain ⟨d, hd⟩ : ∃ d, C.d = d := ⟨_, rfl⟩
  rw [hd]
  have HD := Lib.hid hd
  clear h hc hg hgd he hn hd
  go_enter Tryz.func58, Tryz.ntmps58
  go_wp2
  go_loopw [5, 8] (fun _ iv wr => ∃ k : Nat, k ≤ n ∧ iv = .int .i64 k ∧ Hid (∃ r1 b1, Rd C wr r1 b1 ∧ Ended r1 ∧ allW ts r b = allW (ts.drop k) r1 b1) ∧ Hid (Fr (Only C.d) w wr)) (fun _ iv _ => n - (intOf iv).toNat)
  case atStart => exact ⟨0, Nat.zero_le _, rfl, Lib.hid ⟨r, b, HR.out, HE.out, HL.out⟩, Lib.hid (Fr.refl _ w)⟩
  case round =>
    obtain ⟨k, hk, rfl, HI, HF⟩ := hrel
    obtain ⟨r1, b1, hR1, hE1, hA⟩ := HI.out
    by_cases hlt : k < n
    · have hkt : k < ts.length := by rw [HTN.out]; exact hlt
      have hcell := HC.out _ HF.out k hkt
      have hdrop : ts.drop k = ts[k] :: ts.drop (k + 1) := List.drop_eq_getElem_cons hkt
      obtain ⟨x, l, rfl⟩ := hE1.cons
      rw [hdrop] at hA
      obtain ⟨t, ht⟩ : ∃ t, ts[k] = t := ⟨_, rfl⟩
      rw [ht] at hcell hA
      have HA : Hid (allW ts r b = (needW (saysW t) (x :: l) b1).then fun _ => allW (ts.drop (k + 1))) := Lib.hid hA
      have HE1 := Lib.hid hE1
      have HN1 : Hid (∀ w1 mv, Fr No wr w1 → Mt w1 mv (saysW t) → Calls Tryz.prog 67 #[.pointer (some ⟨d, 0, none⟩), mv] w1 (RdP C w1 wdR (needW (saysW t) (x :: l) b1))) := Lib.hid fun w1 mv f hm => by
        rw [← HD.out]; exact HN.out x l b1 w1 mv _ (hR1.keep f) hm
      have HNK : Hid (∀ x' r2 b2, needW (saysW t) (x :: l) b1 = .ok x' r2 b2 → r2 = l ∧ b2 = b1 ∧ x.kind ≠ 6) := Lib.hid fun x' r2 b2 e => by
        rw [needW_cons] at e
        split at e
        · rename_i hs
          cases e
          refine ⟨rfl, rfl, fun h6 => ?_⟩
          unfold saysW fixW at hs
          rw [h6] at hs
          simp at hs
        · cases e
      have HS1 := Lib.hid (HS.out t wr)
      clear hR1 hE1 hA hdrop ht HI
      go_wp2_with fail
      refine HS1.out.mono ?_
      rintro e w1 ⟨⟨mv, rfl, hm⟩, f1⟩
      have HN2 := Lib.hid (HN1.out w1 mv f1 hm)
      have F1 := Lib.hid (HF.out.trans f1.any fun _ _ h => h)
      clear hm f1 hcell
      go_wp2_with fail
      refine HN2.out.mono ?_
      rintro e w2 ⟨f2, hp⟩
      have F2 := Lib.hid (F1.out.trans f2 fun _ _ h => h)
      clear f2
      generalize hR : needW (saysW t) (x :: l) b1 = R at *
      cases R with
      | bad c p =>
        obtain rfl := hp
        have HV : Hid (allW ts r b = .bad c p) := Lib.hid (by rw [HA.out]; rfl)
        go_wp2_with fail
        rw [HV.out]
        exact ⟨rfl, F2.out, rfl⟩
      | ok x' r2 b2 =>
        obtain ⟨⟨v, rfl, rfl, _, _, _⟩, hr⟩ := hp
        obtain ⟨e1, e2, h6⟩ := HNK.out x' r2 b2 rfl
        subst e1; subst e2
        have HI2 : Hid (∃ r1 b1, Rd C w2 r1 b1 ∧ Ended r1 ∧ allW ts r b = allW (ts.drop (k + 1)) r1 b1) := Lib.hid ⟨r2, b2, hr, HE1.out.tail h6, HA.out⟩
        clear hr hR
        go_wp2
        exact ⟨⟨k + 1, by omega, by go_num, HI2, F2⟩, by simp [intOf]; omega⟩
    · obtain rfl : k = n := by omega
      have HV : Hid (allW ts r b = .ok () r1 b1) := Lib.hid (by rw [hA, List.drop_of_length_le (Nat.le_of_eq HTN.out)]; rfl)
      have HR1 := Lib.hid hR1
      clear hA hR1 hE1 HI
      go_wp2
      refine bodyPost_ret (v := .tuple #[]) (by simp [results, Tryz.results58, go_sem]) rfl ?_
      rw [HV.out]
      exact ⟨HF.out, ⟨_, rfl, rfl⟩, HR1.out⟩
end Go.Proofs.YtkcnbmgaeompjaaGreatDoor
/- Contracts of the library at this program's numbers. -/
namespace Go.Proofs.YtkcnbmgaeompjaaGreatDoor
open Go.Shelf Go.Proofs
def Tryz.laysC174_ren : Go.Shelf.Ren := ⟨fun | 174 => 190 | 247 => 195 | 245 => 196 | 287 => 197 | 279 => 198 | 280 => 199 | 281 => 200 | 282 => 201 | 321 => 202 | 322 => 203 | 316 => 204 | 171 => 206 | 205 => 205 | 243 => 207 | 246 => 156 | 283 => 168 | 284 => 169 | 285 => 170 | 286 => 171 | 129 => 182 | 317 => 181 | 318 => 183 | 319 => 184 | 320 => 185 | 337 => 191 | 338 => 192 | n => n, fun | 9 => 9 | 3 => 3 | 2 => 2 | 75 => 116 | 85 => 189 | 4 => 4 | 167 => 197 | 5 => 5 | 53 => 168 | 175 => 198 | 46 => 183 | 168 => 200 | 37 => 112 | 0 => 0 | 210 => 204 | 21 => 21 | 127 => 146 | 145 => 208 | 143 => 206 | 171 => 167 | 173 => 171 | 212 => 179 | 51 => 180 | 20 => 20 | 213 => 181 | 232 => 195 | 233 => 196 | 80 => 86 | n => n, fun | 15 => 10 | 16 => 11 | 17 => 4 | 18 => 8 | 19 => 9 | n => n⟩
theorem Tryz.laysC174 : Go.Proofs.LaysC.n174 Tryz.prog Tryz.laysC174_ren := {
  mixed := by kernel_rfl
  f129 := Tryz.func182.trans (congrArg some (by kernel_rfl))
  f171 := Tryz.func206.trans (congrArg some (by kernel_rfl))
  f174 := Tryz.func190.trans (congrArg some (by kernel_rfl))
  f205 := Tryz.func205.trans (congrArg some (by kernel_rfl))
  f243 := Tryz.func207.trans (congrArg some (by kernel_rfl))
  f245 := Tryz.func196.trans (congrArg some (by kernel_rfl))
  f246 := Tryz.func156.trans (congrArg some (by kernel_rfl))
  f247 := Tryz.func195.trans (congrArg some (by kernel_rfl))
  f279 := Tryz.func198.trans (congrArg some (by kernel_rfl))
  f280 := Tryz.func199.trans (congrArg some (by kernel_rfl))
  f281 := Tryz.func200.trans (congrArg some (by kernel_rfl))
  f282 := Tryz.func201.trans (congrArg some (by kernel_rfl))
  f283 := Tryz.func168.trans (congrArg some (by kernel_rfl))
  f284 := Tryz.func169.trans (congrArg some (by kernel_rfl))
  f285 := Tryz.func170.trans (congrArg some (by kernel_rfl))
  f286 := Tryz.func171.trans (congrArg some (by kernel_rfl))
  f287 := Tryz.func197.trans (congrArg some (by kernel_rfl))
  f316 := Tryz.func204.trans (congrArg some (by kernel_rfl))
  f317 := Tryz.func181.trans (congrArg some (by kernel_rfl))
  f318 := Tryz.func183.trans (congrArg some (by kernel_rfl))
  f319 := Tryz.func184.trans (congrArg some (by kernel_rfl))
  f320 := Tryz.func185.trans (congrArg some (by kernel_rfl))
  f321 := Tryz.func202.trans (congrArg some (by kernel_rfl))
  f322 := Tryz.func203.trans (congrArg some (by kernel_rfl))
  f337 := Tryz.func191.trans (congrArg some (by kernel_rfl))
  f338 := Tryz.func192.trans (congrArg some (by kernel_rfl))
  t0 := Tryz.underlying0
  a0 := Tryz.isAgg0
  z0 := Tryz.sizeOf0
  v0 := Tryz.zeroValue0
  t2 := Tryz.underlying2
  a2 := Tryz.isAgg2
  z2 := Tryz.sizeOf2
  v2 := Tryz.zeroValue2
  t3 := Tryz.underlying3
  a3 := Tryz.isAgg3
  z3 := Tryz.sizeOf3
  v3 := Tryz.zeroValue3
  t4 := Tryz.underlying4
  a4 := Tryz.isAgg4
  z4 := Tryz.sizeOf4
  v4 := Tryz.zeroValue4
  t5 := Tryz.underlying5
  a5 := Tryz.isAgg5
  z5 := Tryz.sizeOf5
  v5 := Tryz.zeroValue5
  t9 := Tryz.underlying9
  a9 := Tryz.isAgg9
  z9 := Tryz.sizeOf9
  v9 := Tryz.zeroValue9
  t20 := Tryz.underlying20
  a20 := Tryz.isAgg20
  z20 := Tryz.sizeOf20
  v20 := Tryz.zeroValue20
  t21 := Tryz.underlying21
  a21 := Tryz.isAgg21
  z21 := Tryz.sizeOf21
  v21 := Tryz.zeroValue21
  t37 := Tryz.underlying112
  a37 := Tryz.isAgg112
  z37 := Tryz.sizeOf112
  v37 := Tryz.zeroValue112
  t46 := Tryz.underlying183
  a46 := Tryz.isAgg183
  z46 := Tryz.sizeOf183
  v46 := Tryz.zeroValue183
  t51 := Tryz.underlying180
  a51 := Tryz.isAgg180
  z51 := Tryz.sizeOf180
  v51 := Tryz.zeroValue180
  t53 := Tryz.underlying168
  a53 := Tryz.isAgg168
  z53 := Tryz.sizeOf168
  v53 := Tryz.zeroValue168
  t75 := Tryz.underlying116
  a75 := Tryz.isAgg116
  z75 := Tryz.sizeOf116
  v75 := Tryz.zeroValue116
  t85 := Tryz.underlying189
  a85 := Tryz.isAgg189
  z85 := Tryz.sizeOf189
  v85 := Tryz.zeroValue189
  t127 := Tryz.underlying146
  a127 := Tryz.isAgg146
  z127 := Tryz.sizeOf146
  v127 := Tryz.zeroValue146
  t143 := Tryz.underlying206
  a143 := Tryz.isAgg206
  z143 := Tryz.sizeOf206
  v143 := Tryz.zeroValue206
  t145 := Tryz.underlying208
  a145 := Tryz.isAgg208
  z145 := Tryz.sizeOf208
  v145 := Tryz.zeroValue208
  t167 := Tryz.underlying197
  a167 := Tryz.isAgg197
  z167 := Tryz.sizeOf197
  v167 := Tryz.zeroValue197
  t168 := Tryz.underlying200
  a168 := Tryz.isAgg200
  z168 := Tryz.sizeOf200
  v168 := Tryz.zeroValue200
  t171 := Tryz.underlying167
  a171 := Tryz.isAgg167
  z171 := Tryz.sizeOf167
  v171 := Tryz.zeroValue167
  t173 := Tryz.underlying171
  a173 := Tryz.isAgg171
  z173 := Tryz.sizeOf171
  v173 := Tryz.zeroValue171
  t175 := Tryz.underlying198
  a175 := Tryz.isAgg198
  z175 := Tryz.sizeOf198
  v175 := Tryz.zeroValue198
  t210 := Tryz.underlying204
  a210 := Tryz.isAgg204
  z210 := Tryz.sizeOf204
  v210 := Tryz.zeroValue204
  t212 := Tryz.underlying179
  a212 := Tryz.isAgg179
  z212 := Tryz.sizeOf179
  v212 := Tryz.zeroValue179
  t213 := Tryz.underlying181
  a213 := Tryz.isAgg181
  z213 := Tryz.sizeOf181
  t232 := Tryz.underlying195
  a232 := Tryz.isAgg195
  z232 := Tryz.sizeOf195
  v232 := Tryz.zeroValue195
  t233 := Tryz.underlying196
  a233 := Tryz.isAgg196
  z233 := Tryz.sizeOf196
  v233 := Tryz.zeroValue196
  g15 := by kernel_rfl
  g16 := by kernel_rfl
  g17 := by kernel_rfl
  g18 := by kernel_rfl
  g19 := by kernel_rfl
  t80 := Tryz.underlying86
  a80 := Tryz.isAgg86
  z80 := Tryz.sizeOf86
  v80 := Tryz.zeroValue86
  i0 := by kernel_rfl
  i2 := by kernel_rfl
  i3 := by kernel_rfl
  i4 := by kernel_rfl
  i5 := by kernel_rfl
  i9 := by kernel_rfl
  i20 := by kernel_rfl
  i21 := by kernel_rfl
  i37 := by kernel_rfl
  i46 := by kernel_rfl
  i51 := by kernel_rfl
  i53 := by kernel_rfl
  i75 := by kernel_rfl
  i80 := by kernel_rfl
  i85 := by kernel_rfl
  i127 := by kernel_rfl
  i143 := by kernel_rfl
  i145 := by kernel_rfl
  i167 := by kernel_rfl
  i168 := by kernel_rfl
  i171 := by kernel_rfl
  i173 := by kernel_rfl
  i175 := by kernel_rfl
  i210 := by kernel_rfl
  i212 := by kernel_rfl
  i232 := by kernel_rfl
  i233 := by kernel_rfl
  m15 := by kernel_rfl
  m16 := by kernel_rfl
  m17 := by kernel_rfl
  m18 := by kernel_rfl
  m19 := by kernel_rfl
  c0 := by kernel_rfl
  c2 := by kernel_rfl
  c3 := by kernel_rfl
  c4 := by kernel_rfl
  c5 := by kernel_rfl
  c9 := by kernel_rfl
  c20 := by kernel_rfl
  c21 := by kernel_rfl
  c37 := by kernel_rfl
  c46 := by kernel_rfl
  c51 := by kernel_rfl
  c53 := by kernel_rfl
  c75 := by kernel_rfl
  c80 := by kernel_rfl
  c85 := by kernel_rfl
  c127 := by kernel_rfl
  c143 := by kernel_rfl
  c145 := by kernel_rfl
  c167 := by kernel_rfl
  c168 := by kernel_rfl
  c171 := by kernel_rfl
  c173 := by kernel_rfl
  c175 := by kernel_rfl
  c210 := by kernel_rfl
  c212 := by kernel_rfl
  c213 := by kernel_rfl
  c232 := by kernel_rfl
  c233 := by kernel_rfl }
open Go.RowKit in
/-- strconv.ParseInt(s, 10, 64), AT EVERY STRING THAT SPELLS AN int64 ('Lib.parseIntB 64 s.data.toList = .ok v'): v, AND NO ERROR. (LAID: no walk: one application.) -/
theorem Tryz.strconv_ParseInt_10_at64_ok (s : ByteArray) (hmax : s.size ≤ 9223372036854775806) (v : Int) (h : Lib.parseIntB 64 s.data.toList = .ok v) (w : World) :
    Calls Tryz.prog 190 #[.string s, .int .i64 10, .int .i64 64] w fun e w' => e = .returned (.tuple #[.int .i64 v, .nilIface]) ∧ (w' = w ∨ ∃ t, w' = Lib.bytesWorld w 5 t) := Any.strconv_ParseInt_10_at64_ok Tryz.laysC174 s hmax v h w
open Go.RowKit in
/-- strconv.ParseInt(s, 10, 64), AT EVERY STRING THAT IS NO DECIMAL NUMERAL: 0, AND AN ERROR THAT IS NOT nil: a *NumError in a new block N: {Func: "ParseInt", Num: s's bytes, Err: what the variable ErrSyntax holds}. Of what was there nothing has turned. (LAID: no walk: one application.) -/
theorem Tryz.strconv_ParseInt_10_at64_syntax (s : ByteArray) (hlim : s.size ≤ 281474976710656) (h : Lib.parseIntB 64 s.data.toList = Lib.parseIntB 64 []) (ev : Value) (w : World) (hv : w.cell? ⟨10, 0, none⟩ = some ev) (hev : ev = .nilIface ∨ ∃ te pe, ev = .iface te pe) :
    Calls Tryz.prog 190 #[.string s, .int .i64 10, .int .i64 64] w fun e w' => ∃ N, e = .returned (.tuple #[.int .i64 (0), .iface 200 (.pointer (some ⟨N, 0, none⟩))]) ∧ w.heap.size ≤ N ∧ w'.heap[N]? = some (.cells #[.string ⟨#[80, 97, 114, 115, 101, 73, 110, 116]⟩, .string s, ev] 204 (0, 0)) ∧ Below w.heap.size w w' := Any.strconv_ParseInt_10_at64_syntax Tryz.laysC174 s hlim h ev w hv hev
open Go.RowKit in
/-- strconv.ParseInt(s, 10, 64), AT EVERY NUMERAL THAT NO int64 HOLDS: THE GREATEST OR THE LEAST int64, BY THE SIGN ('Lib.intSat 64'), AND AN ERROR THAT IS NOT nil: a *NumError in a new block N: {Func: "ParseInt", Num: s's bytes, Err: what the variable ErrRange holds}. Of what was there nothing has turned. (LAID: no walk: one application.) -/
theorem Tryz.strconv_ParseInt_10_at64_range (s : ByteArray) (hlim : s.size ≤ 281474976710656) (h : Lib.parseIntB 64 s.data.toList = .range) (ev : Value) (w : World) (hv : w.cell? ⟨11, 0, none⟩ = some ev) (hev : ev = .nilIface ∨ ∃ te pe, ev = .iface te pe) :
    Calls Tryz.prog 190 #[.string s, .int .i64 10, .int .i64 64] w fun e w' => ∃ N, e = .returned (.tuple #[.int .i64 (Lib.intSat 64 s.data.toList), .iface 200 (.pointer (some ⟨N, 0, none⟩))]) ∧ w.heap.size ≤ N ∧ w'.heap[N]? = some (.cells #[.string ⟨#[80, 97, 114, 115, 101, 73, 110, 116]⟩, .string s, ev] 204 (0, 0)) ∧ Below w.heap.size w w' := Any.strconv_ParseInt_10_at64_range Tryz.laysC174 s hlim h ev w hv hev
end Go.Proofs.YtkcnbmgaeompjaaGreatDoor
/- Reading a query: a state that goes on from call to call; numbers. -/
namespace Go.Proofs.YtkcnbmgaeompjaaGreatDoor
open Go.RowKit Go.Maps
set_option linter.unusedVariables false

section
variable {ops : Array Oper} {rest : List Oper} {o : Oper} {a : Act} {Q : Exit → Act → World → Prop} {w : World}
/-- append, by what it comes to. -/
theorem wpList_add (hgd : o.guard = none) (sl x : Operand) (t1 t2 : TypeId) (ho : o.op = .call { callee := .builtin .append, args := #[sl, x], argTypes := #[t1, t2] })
    (v v' xv : Value) (w1 : World) (hs : a.eval sl = v) (hx : a.eval x = xv) (hr : (Builtin.append_ #[t1, t2] o.type #[v, xv]).run Tryz.prog w = .ok v' w1)
    (h : wpList Tryz.prog ops Q rest (a.put o.dst v') w1) : wpList Tryz.prog ops Q (o :: rest) a w := by
  refine wpList_plain hgd fun K hK => ?_
  unfold Oper.wp execOp
  simp only [ho, resolve, invoke, builtin, Sem.run_bind, Sem.run_pure, Result.andThen_ok, List.map_toArray, List.map_cons, List.map_nil, hs, hx, hr]
  exact hK _ _ h
end
/-- A row of one's own has turned, none of the reader's blocks. -/
theorem Rd.own {C : Cx} {w w' : World} {r : List Wd} {m : Bool} {v : Value} {B : Nat} (h : Rd C w r m) (hf : Fr (fun k => v.ownBlock = some k) w w') (hB : ∀ k, v.ownBlock = some k → B ≤ k) (hd : C.d < B) (hg : C.g < B) : Rd C w' r m :=
  { h with pv := h.pv.keep hf (fun k hk => by have h1 := h.d11; have := hB k hk; omega), blk := h.blk.of (hf.block _ h.blk.lt (fun e => by have := hB _ e; omega)), glt := Nat.lt_of_lt_of_le h.glt hf.size, cells := cells_keep (hf.block _ h.glt (fun e => by have := hB _ e; omega)) h.cells }
theorem Fr.own {F : Nat → Prop} {a w w' : World} {v : Value} (h : Fr F a w) (hf : Fr (fun k => v.ownBlock = some k) w w') (hB : ∀ k, v.ownBlock = some k → a.heap.size ≤ k) : Fr F a w' :=
  ⟨hf.os.trans h.os, hf.tape.trans h.tape, hf.output.trans h.output, Nat.le_trans h.size hf.size, fun k hk hn => (hf.block k (Nat.lt_of_lt_of_le hk h.size) (fun e => by have := hB k e; omega)).trans (h.block k hk hn)⟩
def Stable (C : Cx) (J : World → Prop) : Prop := ∀ w w', Fr (Only C.d) w w' → J w → J w'
/-- A reading under way: it began at w; J is what else is kept. -/
structure St (C : Cx) (w : World) (J : World → Prop) (wi : World) (r : List Wd) (b : Bool) : Prop where
  rd : Rd C wi r b
  fr : Fr (Only C.d) w wi
  en : Ended r
  j : J wi
  sj : Stable C J
theorem St.no {C : Cx} {w wi wj : World} {J : World → Prop} {r : List Wd} {b : Bool} (h : St C w J wi r b) (f : Fr No wi wj) : St C w J wj r b :=
  ⟨h.rd.keep f, h.fr.trans f.any fun _ _ h => h, h.en, h.sj _ _ f.any h.j, h.sj⟩
def Tr : World → Prop := fun _ => True
theorem stable_tr (C : Cx) : Stable C Tr := fun _ _ _ _ => trivial
theorem St.start {C : Cx} {w : World} {r : List Wd} {b : Bool} (h : Rd C w r b) (he : Ended r) : St C w Tr w r b := ⟨h, Fr.refl _ _, he, trivial, stable_tr C⟩
/-- One thing more is kept. -/
theorem St.more {C : Cx} {w wi : World} {J J' : World → Prop} {r : List Wd} {b : Bool} (h : St C w J wi r b) (hj : J' wi) (hs : Stable C J') : St C w (fun x => J x ∧ J' x) wi r b :=
  ⟨h.rd, h.fr, h.en, ⟨h.j, hj⟩, fun a c f hh => ⟨h.sj a c f hh.1, hs a c f hh.2⟩⟩
theorem stable_blk {C : Cx} {y : Nat} {t : TypeId} {cs : Array Value} (hy : y ≠ C.d) : Stable C (fun w => Blk w y t cs) := fun w w' f h => h.of (f.block y h.lt hy)
/-- What a call comes to within it. -/
def SP {α : Type} (C : Cx) (w : World) (J : World → Prop) (wi : World) (R : VR α) (x : PR α) (e : Ending) (w' : World) : Prop :=
  match x with
  | .ok a r m => (∃ v, e = .returned v ∧ R (fun k => wi.heap.size ≤ k) w' v a) ∧ St C w J w' r m ∧ Fr (Only C.d) wi w'
  | .bad c p => e = .panicked [{ v := flt c p, recovered := false }] ∧ Fr (Only C.d) w w'
theorem St.call {α : Type} {C : Cx} {w wi : World} {J : World → Prop} {r : List Wd} {b : Bool} {f : FuncId} {args : Array Value} {R : VR α} {p : Pa α} (h : St C w J wi r b) (hc : Calls Tryz.prog f args wi (RdP C wi R (p r b))) (hk : Keeps p) : Calls Tryz.prog f args wi (SP C w J wi R (p r b)) := by
  refine hc.mono ?_
  rintro e w' ⟨f, hp⟩
  unfold SP
  cases hx : p r b with
  | bad c q => rw [hx] at hp; exact ⟨hp, h.fr.trans f fun _ _ h => h⟩
  | ok a r' m =>
    rw [hx] at hp
    exact ⟨hp.1, ⟨hp.2, h.fr.trans f fun _ _ h => h, (hk _ _ _ _ _ h.en hx).1, h.sj _ _ f h.j, h.sj⟩, f⟩
theorem St.bad {α : Type} {C : Cx} {w w' : World} {R : VR α} {x : PR α} {c p : Nat} (hx : x = .bad c p) (f : Fr (Only C.d) w w') : RdP C w R x (.panicked [{ v := flt c p, recovered := false }]) w' := by
  subst hx; exact ⟨f, rfl⟩
theorem St.ok {α : Type} {C : Cx} {w wi : World} {J : World → Prop} {r : List Wd} {b : Bool} {R : VR α} {x : PR α} {a : α} {v : Value} (h : St C w J wi r b) (hx : x = .ok a r b) (hv : R (fun k => w.heap.size ≤ k) wi v a) : RdP C w R x (.returned v) wi := by
  subst hx; exact ⟨h.fr, ⟨v, rfl, hv⟩, h.rd⟩
/-- The same behind stores into the result's own block. -/
theorem St.okc {α : Type} {C : Cx} {w wi wj : World} {J : World → Prop} {r : List Wd} {b : Bool} {R : VR α} {x : PR α} {a : α} {v : Value} {y : Nat} (h : St C w J wi r b) (f : Fr (fun k => k = y) wi wj) (hy : w.heap.size ≤ y) (hd : C.d < w.heap.size) (hg : C.g < w.heap.size) (hx : x = .ok a r b) (hv : R (fun k => w.heap.size ≤ k) wj v a) : RdP C w R x (.returned v) wj := by
  subst hx
  refine ⟨?_, ⟨v, rfl, hv⟩, h.rd.past f (by omega) (by omega)⟩
  refine ⟨f.os.trans h.fr.os, f.tape.trans h.fr.tape, f.output.trans h.fr.output, Nat.le_trans h.fr.size f.size, fun k hk hn => ?_⟩
  exact (f.block k (Nat.lt_of_lt_of_le hk h.fr.size) (fun e => by have e : k = y := e; omega)).trans (h.fr.block k hk hn)
theorem sees_s {C : Cx} {w wi : World} {J : World → Prop} {r : List Wd} {b : Bool} {mv : Value} {m : Wd → Bool} (h : St C w J wi r b) (hm : Mt wi mv m) : Calls Tryz.prog 113 #[rp C, mv] wi fun e w' => e = .returned (.bool (seesW m r)) ∧ St C w J w' r b ∧ Fr No wi w' := by
  obtain ⟨x, l, rfl⟩ := h.en.cons
  refine (sees_any h.rd hm).mono ?_
  rintro e w' ⟨rfl, f⟩
  exact ⟨rfl, h.no f, f⟩
theorem takes_s {C : Cx} {w wi : World} {J : World → Prop} {r : List Wd} {b : Bool} {mv : Value} {m : Wd → Bool} (h : St C w J wi r b) (hm : Mt wi mv m) (hi : Inner m) : Calls Tryz.prog 62 #[rp C, mv] wi fun e w' => e = .returned (.bool (seesW m r)) ∧ (seesW m r = true → St C w J w' r.tail b) ∧ (seesW m r = false → St C w J w' r b) ∧ Fr (Only C.d) wi w' := by
  have he := h.en
  obtain ⟨x, l, rfl⟩ := he.cons
  refine (takes_any h.rd hm).mono ?_
  rintro e w' ⟨rfl, hr, f⟩
  refine ⟨rfl, fun hs => ?_, fun hs => ?_, f⟩
  · have hs : m x = true := hs
    rw [hs, if_pos rfl] at hr
    exact ⟨hr, h.fr.trans f fun _ _ h => h, (he.sees hi hs).1, h.sj _ _ f h.j, h.sj⟩
  · have hs : m x = false := hs
    rw [hs, if_neg (by decide)] at hr
    exact ⟨hr, h.fr.trans f fun _ _ h => h, he, h.sj _ _ f h.j, h.sj⟩
theorem need_s {C : Cx} {w wi : World} {J : World → Prop} {r : List Wd} {b : Bool} {mv : Value} {m : Wd → Bool} (h : St C w J wi r b) (hm : Mt wi mv m) (hi : Inner m) : Calls Tryz.prog 67 #[rp C, mv] wi (SP C w J wi wdR (needW m r b)) := by
  refine h.call ?_ (keeps_need hi)
  have he := h.en
  obtain ⟨x, l, rfl⟩ := he.cons
  exact need_any h.rd hm
theorem name_s {C : Cx} {w wi : World} {J : World → Prop} {r : List Wd} {b : Bool} (h : St C w J wi r b) : Calls Tryz.prog 61 #[rp C] wi (SP C w J wi strR (nameW r b)) := h.call (name_any h.rd h.en) keeps_name
/-- Words that must stand there, out of a row that was laid just now. -/
theorem all_s {C : Cx} {w wi : World} {J : World → Prop} {r : List Wd} {b : Bool} (h : St C w J wi r b) (ts : List Tx) (n : Nat) (hn : ts.length = n) (h1 : n ≤ 100) (cs : Array Value) (hcs : cs = (ts.map sv).toArray) :
    Calls Tryz.prog 58 #[rp C, .slice (some ⟨wi.heap.size, 0, none⟩) n n] (wi.alloc (.cells cs 9)) (SP C w J (wi.alloc (.cells cs 9)) unitR (allW ts r b)) := by
  subst hn
  have fa : Fr No wi (wi.alloc (.cells cs 9)) := (Fr.refl No wi).alloc _
  have hb : Blk (wi.alloc (.cells cs 9)) wi.heap.size 9 cs := Blk.new wi 9 _
  have h2 := h.no fa
  refine h2.call (all_any h2.rd ⟨wi.heap.size, ts.length, rfl, h1, fun k hk => ?_⟩ (fun g n c e => ?_) h2.en) (keeps_all ts)
  · rw [hb.cell k, hcs]
    simp [hk]
  · cases e
    have := h.rd.lt
    omega

/-! ### numbers -/
theorem pint_any (l : Tx) (w : World) (hp : Pv w) (hl : l.length ≤ 100000) : Calls Tryz.prog 190 #[sv l, .int .i64 10, .int .i64 64] w fun e w' =>
    (∀ n, numW l = some n → e = .returned (.tuple #[.int .i64 n, .nilIface])) ∧ (numW l = none → ∃ z a b, e = .returned (.tuple #[.int .i64 z, .iface a b])) ∧ Fr No w w' := by
  have hs : (⟨l.toArray⟩ : ByteArray).size ≤ 100000 := by rw [sz]; exact hl
  have hd : (⟨l.toArray⟩ : ByteArray).data.toList = l := by simp
  obtain ⟨es1, es2, hes⟩ := hp.es
  obtain ⟨er1, er2, her⟩ := hp.er
  unfold numW
  cases h : Lib.parseIntB 64 l with
  | ok n =>
    refine (Tryz.strconv_ParseInt_10_at64_ok ⟨l.toArray⟩ (by omega) n (by rw [hd]; exact h) w).mono ?_
    rintro e w' ⟨rfl, hw⟩
    refine ⟨fun m hm => by cases hm; rfl, (fun hm => by cases hm), ?_⟩
    rcases hw with rfl | ⟨t, rfl⟩
    · exact Fr.refl _ _
    · exact Fr.of_below (Lib.bytesWorld_below w 5 t)
  | range =>
    refine (Tryz.strconv_ParseInt_10_at64_range ⟨l.toArray⟩ (by omega) (by rw [hd]; exact h) _ w her (.inr ⟨_, _, rfl⟩)).mono ?_
    rintro e w' ⟨N, rfl, _, _, hb⟩
    exact ⟨(fun m hm => by cases hm), fun _ => ⟨_, _, _, rfl⟩, Fr.of_below hb⟩
  | _ =>
    refine (Tryz.strconv_ParseInt_10_at64_syntax ⟨l.toArray⟩ (by omega) (by rw [hd]; exact h) _ w hes (.inr ⟨_, _, rfl⟩)).mono ?_
    rintro e w' ⟨N, rfl, _, _, hb⟩
    exact ⟨(fun m hm => by cases hm), fun _ => ⟨_, _, _, rfl⟩, Fr.of_below hb⟩
def vlR : VR Vl := fun _ _ v x => v = .agg #[.bool x.isText, sv x.text, .int .i64 x.int] ∧ x.text.length ≤ 8192 ∧ i64 x.int
theorem numW_bd {l : Tx} {n : Int} (h : numW l = some n) : i64 n := by
  unfold numW at h
  split at h
  · rename_i v hv
    cases h
    rw [Lib.parseIntB_64] at hv
    exact Lib.atoiAll_bounds hv
  · cases h
end Go.Proofs.YtkcnbmgaeompjaaGreatDoor
/- Reading a query: a value. -/
namespace Go.Proofs.YtkcnbmgaeompjaaGreatDoor
open Go.RowKit Go.Maps
set_option linter.unusedVariables false

set_option maxRecDepth 100000 in
set_option maxHeartbeats 4000000 in
theorem val_any {C : Cx} {w : World} {r : List Wd} {b : Bool} (h : Rd C w r b) (he : Ended r) : Calls Tryz.prog 177 #[rp C] w (RdP C w vlR (valW r b)) := by
  have hd := h.lt
  have hg := h.glt
  obtain ⟨y, hy⟩ : ∃ y, w.heap.size = y := ⟨_, rfl⟩
  obtain ⟨w0, hw0⟩ : ∃ w0, w.alloc (.cells #[.bool false, .string ⟨#[]⟩, .int .i64 0] 47) = w0 := ⟨_, rfl⟩
  have f0 : Fr No w w0 := by rw [← hw0]; exact (Fr.refl No w).alloc _
  have hb0 : Blk w0 y 47 #[.bool false, .string ⟨#[]⟩, .int .i64 0] := by rw [← hw0, ← hy]; exact Blk.new w 47 _
  have hyd : y ≠ C.d := by omega
  have h0 := ((St.start h he).no f0).more hb0 (stable_blk hyd)
  have HS0 := Lib.hid h0
  have HD := Lib.hid hd
  have HG := Lib.hid hg
  have HY := Lib.hid hy
  have HW0 := Lib.hid hw0
  have HYL : Hid (w.heap.size ≤ y) := Lib.hid (by omega)
  clear h he hd hg hy hw0 f0 hb0 hyd h0
  unfold rp
  go_enter Tryz.func177, Tryz.ntmps177
  go_upto_region 1 with fail
  rw [HW0.out, HY.out]
  go_wp2_with fail
  refine (of_any 4 w0).mono ?_
  rintro e w1 ⟨⟨mv, rfl, hm⟩, f1⟩
  have HC := Lib.hid (sees_s (HS0.out.no f1) hm)
  unfold rp at HC
  clear hm f1
  go_wp2_with fail
  refine HC.out.mono ?_
  rintro e w2 ⟨rfl, hs, -⟩
  have HS2 := Lib.hid hs
  clear hs HC
  cases h4 : seesW (ofW 4) r with
  | true =>
    have E1 := Lib.hid h4
    clear h4
    go_wp2_with fail
    refine (of_any 4 w2).mono ?_
    rintro e w3 ⟨⟨mv, rfl, hm⟩, f3⟩
    have HC := Lib.hid (need_s (HS2.out.no f3) hm (inner_of (by decide)))
    unfold rp at HC
    clear hm f3
    go_wp2_with fail
    refine HC.out.mono ?_
    clear HC
    rintro e w4 hp
    cases hR : needW (ofW 4) r b with
    | bad c p =>
      rw [hR] at hp
      obtain ⟨rfl, f⟩ := hp
      have HF := Lib.hid f
      have HV : Hid (valW r b = .bad c p) := Lib.hid (by have := E1.out; simp only [valW, this, hR, if_true, PR.map, PR.then])
      clear hR f
      go_wp2_with fail
      exact ⟨rfl, St.bad HV.out HF.out⟩
    | ok x r' b' =>
      rw [hR] at hp
      obtain ⟨⟨v, rfl, rfl, x1, x2, x3⟩, hs, -⟩ := hp
      have HS4 := Lib.hid hs
      have HV : Hid (valW r b = .ok ⟨true, x.text, 0⟩ r' b') := Lib.hid (by have := E1.out; simp only [valW, this, hR, if_true, PR.map, PR.then])
      obtain ⟨-, hb⟩ := hs.j
      have z0 : w4.cell? ⟨y, 0, none⟩ = some (.bool false) := hb.cell 0
      have z1 : w4.cell? ⟨y, 1, none⟩ = some (.string ⟨#[]⟩) := hb.cell 1
      have z2 : w4.cell? ⟨y, 2, none⟩ = some (.int .i64 0) := hb.cell 2
      have y0 := hb.frozen 0
      have y1 := hb.frozen 1
      have y2 := hb.frozen 2
      obtain ⟨xk, xt, xp⟩ := x
      have hfd := fun w => field42 (.int .i64 (xk : Nat)) (sv xt) (.int .i64 (xp : Nat)) w
      clear hR hs hb
      go_wp2
      refine bodyPost_ret (v := .agg #[.bool true, sv xt, .int .i64 0]) (by simp [results, Tryz.results177, go_sem, z0, z1, z2]) rfl ?_
      exact HS4.out.okc (fr_set (fr_set (fr_set (Fr.refl _ w4)))) HYL.out HD.out HG.out HV.out ⟨rfl, x1, show i64 0 by unfold i64; omega⟩
  | false =>
    have E1 := Lib.hid h4
    clear h4
    go_wp2_with fail
    refine (says_any [45] w2).mono ?_
    rintro e w3 ⟨⟨mv, rfl, hm⟩, f3⟩
    have HC := Lib.hid (takes_s (HS2.out.no f3) hm (inner_says _))
    unfold rp at HC
    clear hm f3
    go_wp2_with fail
    refine HC.out.mono ?_
    clear HC
    rintro e w4 ⟨rfl, ht, hf, -⟩
    cases hn : seesW (saysW [45]) r with
    | true =>
      have HS4 := Lib.hid (ht hn)
      have E2 := Lib.hid hn
      clear ht hf hn
      go_wp2_with fail
      refine (of_any 3 w4).mono ?_
      rintro e w5 ⟨⟨mv, rfl, hm⟩, f5⟩
      have HC := Lib.hid (need_s (HS4.out.no f5) hm (inner_of (by decide)))
      unfold rp at HC
      clear hm f5
      go_wp2_with fail
      refine HC.out.mono ?_
      clear HC
      rintro e w6 hp
      cases hR : needW (ofW 3) r.tail b with
      | bad c p =>
        rw [hR] at hp
        obtain ⟨rfl, f⟩ := hp
        have HF := Lib.hid f
        have HV : Hid (valW r b = .bad c p) := Lib.hid (by have q1 := E1.out; have q2 := E2.out; simp only [valW, q1, q2, hR, if_true, if_false, Bool.false_eq_true, PR.then])
        clear hR f
        go_wp2_with fail
        exact ⟨rfl, St.bad HV.out HF.out⟩
      | ok x r' b' =>
        rw [hR] at hp
        obtain ⟨⟨v, rfl, rfl, x1, x2, x3⟩, hs, -⟩ := hp
        have HS6 := Lib.hid hs
        obtain ⟨xk, xt, xp⟩ := x
        simp only at x1 x2 x3
        have HV : Hid (valW r b = match numW ([45] ++ xt) with | some n => .ok ⟨false, [], n⟩ r' b' | none => .bad 45 xp) := Lib.hid (by have q1 := E1.out; have q2 := E2.out; simp only [valW, q1, q2, hR, if_true, if_false, Bool.false_eq_true, PR.then]; rfl)
        -- the word's box
        obtain ⟨z, hz⟩ : ∃ z, w6.heap.size = z := ⟨_, rfl⟩
        obtain ⟨w7, hw7⟩ : ∃ w7, w6.alloc (.cells #[.int .i64 (xk : Nat), sv xt, .int .i64 (xp : Nat)] 42) = w7 := ⟨_, rfl⟩
        have f7 : Fr No w6 w7 := by rw [← hw7]; exact (Fr.refl No w6).alloc _
        have hb7 : Blk w7 z 42 #[.int .i64 (xk : Nat), sv xt, .int .i64 (xp : Nat)] := by rw [← hw7, ← hz]; exact Blk.new w6 42 _
        have hzd : z ≠ C.d := by have := HS6.out.rd.lt; omega
        have hs7 := (HS6.out.no f7).more hb7 (stable_blk hzd)
        have HS7 := Lib.hid hs7
        have c1 : w7.cell? ⟨z, 1, none⟩ = some (sv xt) := hb7.cell 1
        have c2 : w7.cell? ⟨z, 2, none⟩ = some (.int .i64 (xp : Nat)) := hb7.cell 2
        have HP := Lib.hid (pint_any ([45] ++ xt) w7 hs7.rd.pv (by simp; omega))
        have HZ := Lib.hid hz
        have HW7 := Lib.hid hw7
        have hcat : ∀ w0, (Op.stringOp .add ⟨([45] : Tx).toArray⟩ ⟨xt.toArray⟩).run Tryz.prog w0 = .ok (.string ⟨(([45] : Tx) ++ xt).toArray⟩) w0 := fun w0 => run_cat _ xt (by unfold maxLen; simp; omega) w0
        have hcat : ∀ w0, (Op.stringOp .add ⟨#[45]⟩ ⟨xt.toArray⟩).run Tryz.prog w0 = .ok (.string ⟨(([45] : Tx) ++ xt).toArray⟩) w0 := hcat
        generalize hT : ([45] : Tx) ++ xt = T at *
        clear hs hs7 hb7 f7 hw7 hz hzd hR
        go_upto_region 7 with fail
        rw [HW7.out, HZ.out]
        go_wp2_with fail
        refine HP.out.mono ?_
        rintro e w8 ⟨p1, p2, f8⟩
        have HS8 := Lib.hid (HS7.out.no f8)
        obtain ⟨⟨-, hb⟩, hbz⟩ := HS8.out.j
        have d2 : w8.cell? ⟨z, 2, none⟩ = some (.int .i64 (xp : Nat)) := hbz.cell 2
        clear f8 HP c1 c2
        cases hN : numW T with
        | none =>
          obtain ⟨za, aa, ba, rfl⟩ := p2 hN
          have HV2 : Hid (valW r b = .bad 45 xp) := Lib.hid (by rw [HV.out, hN])
          have HGU := Lib.hid (giveUp_any 45 xp w8)
          have hne : ∀ W, (binOp .neq 116 (.iface aa ba) .nilIface).run Tryz.prog W = .ok (.bool true) W := fun W => by simp [go_sem]
          clear p1 p2 hb hbz hN hT
          go_wp2_with fail
          refine HGU.out.mono ?_
          rintro e w9 ⟨rfl, rfl⟩
          go_wp2_with fail
          exact ⟨rfl, St.bad HV2.out HS8.out.fr⟩
        | some n =>
          obtain rfl := p1 n hN
          have HV2 : Hid (valW r b = .ok ⟨false, [], n⟩ r' b') := Lib.hid (by rw [HV.out, hN])
          have HI : Hid (i64 n) := Lib.hid (numW_bd hN)
          have z0 : w8.cell? ⟨y, 0, none⟩ = some (.bool false) := hb.cell 0
          have z1 : w8.cell? ⟨y, 1, none⟩ = some (.string ⟨#[]⟩) := hb.cell 1
          have z2 : w8.cell? ⟨y, 2, none⟩ = some (.int .i64 0) := hb.cell 2
          have y0 := hb.frozen 0
          have y1 := hb.frozen 1
          have y2 := hb.frozen 2
          clear p1 p2 hb hbz hN hT d2
          go_wp2
          refine bodyPost_ret (v := .agg #[.bool false, sv [], .int .i64 n]) (by simp [results, Tryz.results177, go_sem, z0, z1, z2]) rfl ?_
          exact HS8.out.okc (fr_set (fr_set (fr_set (Fr.refl _ w8)))) HYL.out HD.out HG.out HV2.out ⟨rfl, by simp, HI.out⟩
    | false =>
      have HS4 := Lib.hid (hf hn)
      have E2 := Lib.hid hn
      clear ht hf hn
      go_wp2_with fail
      refine (of_any 3 w4).mono ?_
      rintro e w5 ⟨⟨mv, rfl, hm⟩, f5⟩
      have HC := Lib.hid (need_s (HS4.out.no f5) hm (inner_of (by decide)))
      unfold rp at HC
      clear hm f5
      go_wp2_with fail
      refine HC.out.mono ?_
      clear HC
      rintro e w6 hp
      cases hR : needW (ofW 3) r b with
      | bad c p =>
        rw [hR] at hp
        obtain ⟨rfl, f⟩ := hp
        have HF := Lib.hid f
        have HV : Hid (valW r b = .bad c p) := Lib.hid (by have q1 := E1.out; have q2 := E2.out; simp only [valW, q1, q2, hR, if_false, Bool.false_eq_true, PR.then])
        clear hR f
        go_wp2_with fail
        exact ⟨rfl, St.bad HV.out HF.out⟩
      | ok x r' b' =>
        rw [hR] at hp
        obtain ⟨⟨v, rfl, rfl, x1, x2, x3⟩, hs, -⟩ := hp
        have HS6 := Lib.hid hs
        obtain ⟨xk, xt, xp⟩ := x
        simp only at x1 x2 x3
        have HV : Hid (valW r b = match numW (([] : Tx) ++ xt) with | some n => .ok ⟨false, [], n⟩ r' b' | none => .bad 45 xp) := Lib.hid (by have q1 := E1.out; have q2 := E2.out; simp only [valW, q1, q2, hR, if_false, Bool.false_eq_true, PR.then]; rfl)
        -- the word's box
        obtain ⟨z, hz⟩ : ∃ z, w6.heap.size = z := ⟨_, rfl⟩
        obtain ⟨w7, hw7⟩ : ∃ w7, w6.alloc (.cells #[.int .i64 (xk : Nat), sv xt, .int .i64 (xp : Nat)] 42) = w7 := ⟨_, rfl⟩
        have f7 : Fr No w6 w7 := by rw [← hw7]; exact (Fr.refl No w6).alloc _
        have hb7 : Blk w7 z 42 #[.int .i64 (xk : Nat), sv xt, .int .i64 (xp : Nat)] := by rw [← hw7, ← hz]; exact Blk.new w6 42 _
        have hzd : z ≠ C.d := by have := HS6.out.rd.lt; omega
        have hs7 := (HS6.out.no f7).more hb7 (stable_blk hzd)
        have HS7 := Lib.hid hs7
        have c1 : w7.cell? ⟨z, 1, none⟩ = some (sv xt) := hb7.cell 1
        have c2 : w7.cell? ⟨z, 2, none⟩ = some (.int .i64 (xp : Nat)) := hb7.cell 2
        have HP := Lib.hid (pint_any (([] : Tx) ++ xt) w7 hs7.rd.pv (by simp; omega))
        have HZ := Lib.hid hz
        have HW7 := Lib.hid hw7
        have hcat : ∀ w0, (Op.stringOp .add ⟨(([] : Tx) : Tx).toArray⟩ ⟨xt.toArray⟩).run Tryz.prog w0 = .ok (.string ⟨((([] : Tx) : Tx) ++ xt).toArray⟩) w0 := fun w0 => run_cat _ xt (by unfold maxLen; simp; omega) w0
        have hcat : ∀ w0, (Op.stringOp .add ⟨#[]⟩ ⟨xt.toArray⟩).run Tryz.prog w0 = .ok (.string ⟨((([] : Tx) : Tx) ++ xt).toArray⟩) w0 := hcat
        generalize hT : (([] : Tx) : Tx) ++ xt = T at *
        clear hs hs7 hb7 f7 hw7 hz hzd hR
        go_upto_region 7 with fail
        rw [HW7.out, HZ.out]
        go_wp2_with fail
        refine HP.out.mono ?_
        rintro e w8 ⟨p1, p2, f8⟩
        have HS8 := Lib.hid (HS7.out.no f8)
        obtain ⟨⟨-, hb⟩, hbz⟩ := HS8.out.j
        have d2 : w8.cell? ⟨z, 2, none⟩ = some (.int .i64 (xp : Nat)) := hbz.cell 2
        clear f8 HP c1 c2
        cases hN : numW T with
        | none =>
          obtain ⟨za, aa, ba, rfl⟩ := p2 hN
          have HV2 : Hid (valW r b = .bad 45 xp) := Lib.hid (by rw [HV.out, hN])
          have HGU := Lib.hid (giveUp_any 45 xp w8)
          have hne : ∀ W, (binOp .neq 116 (.iface aa ba) .nilIface).run Tryz.prog W = .ok (.bool true) W := fun W => by simp [go_sem]
          clear p1 p2 hb hbz hN hT
          go_wp2_with fail
          refine HGU.out.mono ?_
          rintro e w9 ⟨rfl, rfl⟩
          go_wp2_with fail
          exact ⟨rfl, St.bad HV2.out HS8.out.fr⟩
        | some n =>
          obtain rfl := p1 n hN
          have HV2 : Hid (valW r b = .ok ⟨false, [], n⟩ r' b') := Lib.hid (by rw [HV.out, hN])
          have HI : Hid (i64 n) := Lib.hid (numW_bd hN)
          have z0 : w8.cell? ⟨y, 0, none⟩ = some (.bool false) := hb.cell 0
          have z1 : w8.cell? ⟨y, 1, none⟩ = some (.string ⟨#[]⟩) := hb.cell 1
          have z2 : w8.cell? ⟨y, 2, none⟩ = some (.int .i64 0) := hb.cell 2
          have y0 := hb.frozen 0
          have y1 := hb.frozen 1
          have y2 := hb.frozen 2
          clear p1 p2 hb hbz hN hT d2
          go_wp2
          refine bodyPost_ret (v := .agg #[.bool false, sv [], .int .i64 n]) (by simp [results, Tryz.results177, go_sem, z0, z1, z2]) rfl ?_
          exact HS8.out.okc (fr_set (fr_set (fr_set (Fr.refl _ w8)))) HYL.out HD.out HG.out HV2.out ⟨rfl, by simp, HI.out⟩
end Go.Proofs.YtkcnbmgaeompjaaGreatDoor
