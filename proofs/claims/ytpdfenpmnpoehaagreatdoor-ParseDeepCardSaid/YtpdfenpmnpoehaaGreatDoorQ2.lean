/- Reading a query: what a word may be, whether the next one is, taking it. -/
import Derived.Test.YtpdfenpmnpoehaaGreatDoorQ1
namespace Go.Proofs.YtpdfenpmnpoehaaGreatDoor
open Go.RowKit Go.Maps
set_option linter.unusedVariables false

def wdV (x : Wd) : Value := .agg #[.int .i64 (x.kind : Nat), sv x.text, .int .i64 (x.pos : Nat)]
/-- A fixed word. -/
theorem isFixed_any (x : Wd) (w : World) : Calls Tryz.prog 117 #[wdV x] w fun e w' => e = .returned (.bool (fixW x)) ∧ Fr No w w' := by
  obtain ⟨k, t, p⟩ := x
  unfold wdV fixW
  simp only
  obtain ⟨w1, hw1⟩ : ∃ w1, w.alloc (.cells #[.int .i64 (k : Nat), sv t, .int .i64 (p : Nat)] 42) = w1 := ⟨_, rfl⟩
  have f1 : Fr No w w1 := by rw [← hw1]; exact (Fr.refl No w).alloc _
  have hb : Blk w1 w.heap.size 42 #[.int .i64 (k : Nat), sv t, .int .i64 (p : Nat)] := by rw [← hw1]; exact Blk.new w 42 _
  have c0 : w1.cell? ⟨w.heap.size, 0, none⟩ = some (.int .i64 (k : Nat)) := hb.cell 0
  have F1 := Lib.hid f1
  have HW1 := Lib.hid hw1
  obtain ⟨y, hy⟩ : ∃ y, w.heap.size = y := ⟨_, rfl⟩
  rw [hy] at c0
  have HY := Lib.hid hy
  have HV : Hid ((k == 2 || k == 5) = (decide ((k : Int) = 2) || decide ((k : Int) = 5))) := Lib.hid (by
    rw [Bool.eq_iff_iff]; simp; omega)
  clear f1 hb hw1 hy
  by_cases h2 : (k : Int) = 2
  · have e2 : ((k : Int) == 2) = true := by simpa using h2
    have HE : Hid ((decide ((k : Int) = 2) || decide ((k : Int) = 5)) = true) := Lib.hid (by simp [h2])
    generalize (k : Int) = K at *
    clear h2
    go_enter Tryz.func117, Tryz.ntmps117
    go_upto_region 1 with fail
    rw [HW1.out, HY.out]
    go_wp2
    go_ret
    exact ⟨ret_bool (by rw [HV.out, HE.out]), F1.out⟩
  · have e2 : ((k : Int) == 2) = false := by simpa using h2
    have HE : Hid ((decide ((k : Int) = 2) || decide ((k : Int) = 5)) = ((k : Int) == 5)) := Lib.hid (by rw [decide_eq_false h2, Bool.false_or]; rfl)
    generalize (k : Int) = K at *
    clear h2
    go_enter Tryz.func117, Tryz.ntmps117
    go_upto_region 1 with fail
    rw [HW1.out, HY.out]
    go_wp2
    go_ret
    exact ⟨ret_bool (by rw [HV.out, HE.out]), F1.out⟩
/-- of's word. -/
theorem of1_any (x : Wd) (y n : Nat) (w : World) (hc : w.cell? ⟨y, 0, none⟩ = some (.int .i64 (n : Nat))) : Calls Tryz.prog 123 #[wdV x, .pointer (some ⟨y, 0, none⟩)] w fun e w' => e = .returned (.bool (ofW n x)) ∧ Fr No w w' := by
  obtain ⟨k, t, p⟩ := x
  unfold wdV ofW
  simp only
  have hyl := World.block_lt_of_cell? (a := ⟨y, 0, none⟩) _ hc
  obtain ⟨w1, hw1⟩ : ∃ w1, w.alloc (.cells #[.int .i64 (k : Nat), sv t, .int .i64 (p : Nat)] 42) = w1 := ⟨_, rfl⟩
  have f1 : Fr No w w1 := by rw [← hw1]; exact (Fr.refl No w).alloc _
  have hb : Blk w1 w.heap.size 42 #[.int .i64 (k : Nat), sv t, .int .i64 (p : Nat)] := by rw [← hw1]; exact Blk.new w 42 _
  have c0 : w1.cell? ⟨w.heap.size, 0, none⟩ = some (.int .i64 (k : Nat)) := hb.cell 0
  have c1 : w1.cell? ⟨y, 0, none⟩ = some (.int .i64 (n : Nat)) := by rw [cell_of_heap (f1.block y hyl id)]; exact hc
  have F1 := Lib.hid f1
  have HW1 := Lib.hid hw1
  obtain ⟨z, hz⟩ : ∃ z, w.heap.size = z := ⟨_, rfl⟩
  rw [hz] at c0
  have HZ := Lib.hid hz
  have HV : Hid ((k == n) = ((k : Int) == (n : Int))) := Lib.hid (by
    rw [Bool.eq_iff_iff]; simp; omega)
  clear f1 hb hw1 hz hc hyl
  generalize (k : Int) = K at *
  generalize (n : Int) = N at *
  go_enter Tryz.func123, Tryz.ntmps123
  go_upto_region 1 with fail
  rw [HW1.out, HZ.out]
  go_wp2
  go_ret
  exact ⟨ret_bool (by rw [HV.out]), F1.out⟩
/-- says' word. -/
theorem says1_any (x : Wd) (y : Nat) (t : Tx) (w : World) (hc : w.cell? ⟨y, 0, none⟩ = some (sv t)) : Calls Tryz.prog 116 #[wdV x, .pointer (some ⟨y, 0, none⟩)] w fun e w' => e = .returned (.bool (saysW t x)) ∧ Fr No w w' := by
  have HF : Hid (∀ w', Calls Tryz.prog 117 #[wdV x] w' fun e w'' => e = .returned (.bool (fixW x)) ∧ Fr No w' w'') := Lib.hid fun w' => isFixed_any x w'
  have HV : Hid (saysW t x = (fixW x && (x.text == t))) := Lib.hid rfl
  obtain ⟨k, s, p⟩ := x
  unfold wdV at *
  simp only at HF HV ⊢
  have hyl := World.block_lt_of_cell? (a := ⟨y, 0, none⟩) _ hc
  obtain ⟨w1, hw1⟩ : ∃ w1, w.alloc (.cells #[.int .i64 (k : Nat), sv s, .int .i64 (p : Nat)] 42) = w1 := ⟨_, rfl⟩
  have f1 : Fr No w w1 := by rw [← hw1]; exact (Fr.refl No w).alloc _
  have hb : Blk w1 w.heap.size 42 #[.int .i64 (k : Nat), sv s, .int .i64 (p : Nat)] := by rw [← hw1]; exact Blk.new w 42 _
  have c0 : w1.cell? ⟨w.heap.size, 0, none⟩ = some (.int .i64 (k : Nat)) := hb.cell 0
  have c1 : w1.cell? ⟨w.heap.size, 1, none⟩ = some (sv s) := hb.cell 1
  have c2 : w1.cell? ⟨w.heap.size, 2, none⟩ = some (.int .i64 (p : Nat)) := hb.cell 2
  have F1 := Lib.hid f1
  have HW1 := Lib.hid hw1
  obtain ⟨z, hz⟩ : ∃ z, w.heap.size = z := ⟨_, rfl⟩
  have HC : Hid (∀ w2, Fr No w1 w2 → w2.cell? ⟨z, 1, none⟩ = some (sv s) ∧ w2.cell? ⟨y, 0, none⟩ = some (sv t)) := Lib.hid fun w2 f2 => by
    refine ⟨?_, ?_⟩
    · rw [← hz, cell_of_heap (f2.block _ hb.lt id)]; exact c1
    · have h1 := f1.block y hyl id
      have hl1 : y < w1.heap.size := Nat.lt_of_lt_of_le hyl f1.size
      rw [cell_of_heap (f2.block y hl1 id), cell_of_heap h1]; exact hc
  rw [hz] at c0 c1 c2
  have HZ := Lib.hid hz
  clear f1 hb hw1 hz hc hyl
  generalize fixW ⟨k, s, p⟩ = fx at *
  generalize (k : Int) = K at *
  generalize (p : Int) = P at *
  go_enter Tryz.func116, Tryz.ntmps116
  go_upto_region 1 with fail
  rw [HW1.out, HZ.out]
  go_wp2_with fail
  refine (HF.out w1).mono ?_
  rintro e w2 ⟨rfl, f2⟩
  obtain ⟨d1, d2⟩ := HC.out w2 f2
  have F2 := Lib.hid (F1.out.trans f2 fun _ _ h => h)
  clear f2 c0 c1 c2
  cases fx with
  | true =>
    go_wp2
    go_ret
    exact ⟨ret_bool (by rw [HV.out]; first | rfl | simp), F2.out⟩
  | false =>
    go_wp2
    go_ret
    exact ⟨ret_bool (by rw [HV.out]; rfl), F2.out⟩

/-! ### a table's numbers -/
theorem idx_at {t : Tx} : ∀ {l : List Tx} {k j : Nat}, (∀ i, i < j → l[i]? ≠ some t) → l[j]? = some t → idx t l k = k + j
  | [], k, j, _, h => by simp at h
  | x :: l, k, 0, _, h => by
    have : x = t := by simpa using h
    unfold idx; rw [if_pos this]; rfl
  | x :: l, k, j + 1, h0, h => by
    have hx : x ≠ t := by
      have := h0 0 (by omega)
      simpa using this
    unfold idx
    rw [if_neg hx, idx_at (l := l) (k := k + 1) (j := j) (fun i hi => by have := h0 (i + 1) (by omega); simpa using this) (by simpa using h)]
    omega
theorem idx_no {t : Tx} : ∀ {l : List Tx} {k : Nat}, (∀ i, i < l.length → l[i]? ≠ some t) → idx t l k = 0
  | [], _, _ => rfl
  | x :: l, k, h => by
    have hx : x ≠ t := by
      have := h 0 (by simp)
      simpa using this
    unfold idx
    rw [if_neg hx]
    exact idx_no fun i hi => by have := h (i + 1) (by simpa using hi); simpa using this
theorem idx_le (t : Tx) : ∀ (l : List Tx) (k : Nat), idx t l k ≤ k + l.length
  | [], k => by simp [idx]
  | x :: l, k => by
    have := idx_le t l (k + 1)
    unfold idx
    split
    · simp
    · simp only [List.length_cons]; omega
/-- A table of seven texts. -/
structure T7 where
  a : Tx
  b : Tx
  c : Tx
  d : Tx
  e : Tx
  f : Tx
  g : Tx
def T7.l (t : T7) : List Tx := [t.a, t.b, t.c, t.d, t.e, t.f, t.g]
def T7.cs (t : T7) : Array Value := #[sv t.a, sv t.b, sv t.c, sv t.d, sv t.e, sv t.f, sv t.g]
theorem T7.at (t : T7) {k : Nat} (hk : k < 7) : t.cs[k]? = some (sv (t.l.getD k [])) := by
  have h : k = 0 ∨ k = 1 ∨ k = 2 ∨ k = 3 ∨ k = 4 ∨ k = 5 ∨ k = 6 := by omega
  rcases h with rfl | rfl | rfl | rfl | rfl | rfl | rfl <;> rfl
theorem T7.get (t : T7) {k : Nat} (hk : k < 7) : t.l[k]? = some (t.l.getD k []) := by
  have h : k = 0 ∨ k = 1 ∨ k = 2 ∨ k = 3 ∨ k = 4 ∨ k = 5 ∨ k = 6 := by omega
  rcases h with rfl | rfl | rfl | rfl | rfl | rfl | rfl <;> rfl
def calls7 : T7 := ⟨[], [], [67, 79, 85, 78, 84], [83, 85, 77], [77, 73, 78], [77, 65, 88], [71, 82, 79, 85, 80, 73, 78, 71]⟩
def signs7 : T7 := ⟨[], [61], [60, 62], [60], [60, 61], [62], [62, 61]⟩
theorem calls7_l : calls7.l = callsT := rfl
theorem signs7_l : signs7.l = signsT := rfl
theorem index7 (cs : Array Value) (k : Nat) (v : Value) (hk : k < 7) (hv : cs[k]? = some v) (w : World) : (Instr.index 138 (.agg cs) (.int .i64 (k : Nat))).run Tryz.prog w = .ok v w := by
  have h1 : ¬ 7 ≤ k := by omega
  simp [Instr.index, asIntOf, run_underlying Tryz.underlying138, part, h1, hv, go_sem]
def cells7 (a : Addr) : Sem (Array Value) := loadCellsFrom a 0 7 #[]
theorem to7 (a : Addr) : loadCellsFrom a 0 7 #[] = cells7 a := rfl
theorem to7' (a : Addr) : loadCells a 7 = cells7 a := rfl
theorem load7 (w : World) (t : T7) (g : Nat) (h : ∀ k, k < 7 → w.cell? ⟨g, k, none⟩ = some (sv (t.l.getD k []))) : (cells7 ⟨g, 0, none⟩).run Tryz.prog w = .ok t.cs w := by
  have h2 := run_loadCellsFrom (P := Tryz.prog) w ⟨g, 0, none⟩ (fun j => (t.cs[j]?).getD undef) 7 0 #[] (fun j hj => by
    rw [Nat.zero_add, t.at hj]
    rw [show (⟨g, 0, none⟩ : Addr).add j = ⟨g, j, none⟩ by simp [Addr.add]; exact fun e => e.symm]
    exact h j hj)
  unfold cells7
  rw [h2]
  rfl
attribute [local go_sem ↓] to7 to7'
set_option maxRecDepth 100000 in
set_option maxHeartbeats 2000000 in
theorem place_any (t : T7) (x : Tx) (w : World) : Calls Tryz.prog 114 #[.agg t.cs, sv x] w fun e w' => e = .returned (.int .i64 (placeW t.l x : Nat)) ∧ Fr No w w' := by
  obtain ⟨w1, hw1⟩ : ∃ w1, w.alloc (.cells t.cs 138) = w1 := ⟨_, rfl⟩
  have f1 : Fr No w w1 := by rw [← hw1]; exact (Fr.refl No w).alloc _
  have hb : Blk w1 w.heap.size 138 t.cs := by rw [← hw1]; exact Blk.new w 138 _
  have hload := load7 w1 t w.heap.size (fun k hk => by rw [hb.cell k]; exact t.at hk)
  have HIX : Hid (∀ (k : Nat) (hk : k < 7) (w' : World), (Instr.index 138 (.agg t.cs) (.int .i64 (k : Nat))).run Tryz.prog w' = .ok (sv (t.l.getD k [])) w') := Lib.hid fun k hk w' => index7 _ k _ hk (t.at hk) w'
  have HY : Hid (∀ k, k < 7 → (∀ j, j < k → t.l.getD j [] ≠ x) → t.l.getD k [] = x → placeW t.l x = k) := Lib.hid fun k hk h0 h1 => by
    have := idx_at (t := x) (l := t.l) (k := 0) (j := k) (fun i hi => by rw [t.get (by omega)]; exact fun e => h0 i hi (Option.some.inj e)) (by rw [t.get hk, h1])
    unfold placeW
    omega
  have HN0 : Hid ((∀ j, j < 7 → t.l.getD j [] ≠ x) → placeW t.l x = 0) := Lib.hid fun h0 => idx_no fun i hi => by rw [t.get hi]; exact fun e => h0 i hi (Option.some.inj e)
  have F1 := Lib.hid f1
  have HW1 := Lib.hid hw1
  obtain ⟨y, hy⟩ : ∃ y, w.heap.size = y := ⟨_, rfl⟩
  rw [hy] at hload
  have HY0 := Lib.hid hy
  have HSZ : Hid (t.cs.size = 7) := Lib.hid rfl
  generalize t.cs = K at *
  obtain ⟨N, hN⟩ : ∃ N, placeW t.l x = N := ⟨_, rfl⟩
  rw [hN] at HY HN0 ⊢
  generalize t.l = L at *
  clear f1 hb hw1 hy hN
  go_enter Tryz.func114, Tryz.ntmps114
  go_upto_region 1 with fail
  rw [HW1.out, HY0.out]
  go_wp2
  clear hload
  go_loop [4, 5, 6, 8] (fun _ _ _ iv => ∃ k : Nat, k ≤ 7 ∧ iv = .int .i64 k ∧ Hid (∀ j, j < k → L.getD j [] ≠ x)) (fun _ _ _ iv => 7 - (intOf iv).toNat)
  case atStart => exact ⟨0, Nat.zero_le _, rfl, Lib.hid (fun j hj => by omega)⟩
  case round =>
    obtain ⟨k, hk, rfl, HN⟩ := hrel
    by_cases hlt : k < 7
    · have hix := HIX.out k hlt w1
      have HYK := Lib.hid (HY.out k hlt HN.out)
      have HNX : Hid (L.getD k [] ≠ x → ∀ j, j < k + 1 → L.getD j [] ≠ x) := Lib.hid fun h j hj => by
        rcases Nat.lt_or_eq_of_le (Nat.le_of_lt_succ hj) with h3 | rfl
        · exact HN.out j h3
        · exact h
      clear HN
      generalize L.getD k [] = s at *
      by_cases he : s = x
      · have hq : (s == x) = true := by simpa using he
        have HE := Lib.hid (HYK.out he)
        clear he
        go_wp2
        go_ret
        exact ⟨ret_int (by rw [HE.out]), F1.out⟩
      · have hq : (s == x) = false := by simpa using he
        have HNX2 := Lib.hid (HNX.out he)
        clear he
        go_wp2
        exact ⟨⟨k + 1, by omega, by go_num, HNX2⟩, by simp [intOf]; omega⟩
    · obtain rfl : k = 7 := by omega
      have HE := Lib.hid (HN0.out HN.out)
      go_wp2
      go_ret
      exact ⟨ret_int (by rw [HE.out]; rfl), F1.out⟩
end Go.Proofs.YtpdfenpmnpoehaaGreatDoor
