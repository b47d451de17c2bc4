/- The landed calls as a law sees them: Words, Quote, IsKeyword, IsName; lists of words. -/
import Derived.Test.YtpdfenpmnpoehaaGreatDoorXB3
import Derived.Laws.StructEq
namespace Go.Proofs.YtpdfenpmnpoehaaGreatDoor
open Go.RowKit Go.Maps
set_option linter.unusedVariables false

set_option maxRecDepth 100000 in
set_option maxHeartbeats 2000000 in
theorem words_long (s : ByteArray) (w : World) (hs : s.size ≤ maxLen) (h4 : 4096 < s.size) : Calls Tryz.prog 21 #[.string s] w (WordsP s w) := by
  have hV : wordsB s.data.toList = ([], 45, 0) := by unfold wordsB; rw [len_data, if_pos h4]
  unfold WordsP
  rw [hV]
  have HEND : Hid (∃ v, Ending.returned (.tuple #[.slice none 0 0, .agg #[.int .i64 45, .int .i64 0]]) = .returned (.tuple #[v, .agg #[.int .i64 (45 : Nat), .int .i64 (0 : Nat)]]) ∧ RowW w.heap.size (w.alloc (.cells #[.int .i64 45, .int .i64 0] 30)) v [] ∧ Below w.heap.size w (w.alloc (.cells #[.int .i64 45, .int .i64 0] 30))) := Lib.hid
    ⟨.slice none 0 0, rfl, ⟨rfl, .inl ⟨rfl, rfl⟩⟩, (Below.refl _ _).alloc (Nat.le_refl _) _⟩
  unfold maxLen at hs
  clear hV
  go_enter Tryz.func21, Tryz.ntmps21
  go_wp2_with fail
  go_step3
  go_wp2_with fail
  rw [Exit.noGoto_ret]
  refine bodyPost_ret (v := .tuple #[.slice none 0 0, .agg #[.int .i64 45, .int .i64 0]]) (by simp [results, Tryz.results21, go_sem]) rfl ?_
  exact HEND.out
theorem words_any (s : ByteArray) (w : World) (hL : Lr w) (hs : s.size ≤ maxLen) : Calls Tryz.prog 21 #[.string s] w (WordsP s w) := by
  by_cases h4 : 4096 < s.size
  · exact words_long s w hs h4
  · exact words_some s w hL (by omega)

/-! ### lists of words, as they are read -/
def Wd.at? (x : Wd) (j : Nat) : Option Value := x.cells[j]?
def LW (w : World) (v : Value) (l : List Wd) : Prop :=
  ∃ A c, v = .slice A l.length c ∧ l.length ≤ 100000 ∧ (0 < l.length → ∃ g, A = some ⟨g, 0, none⟩ ∧ g < w.heap.size ∧ ∀ k x, l[k]? = some x →
    w.cell? ⟨g, k * 3, none⟩ = some (.int .i64 (x.kind : Nat)) ∧ w.cell? ⟨g, k * 3 + 1, none⟩ = some (.string ⟨x.text.toArray⟩) ∧ w.cell? ⟨g, k * 3 + 2, none⟩ = some (.int .i64 (x.pos : Nat)))
theorem cells_len (l : List Wd) : (l.flatMap Wd.cells).length = l.length * 3 := by
  induction l with
  | nil => rfl
  | cons x l ih => rw [List.flatMap_cons, List.length_append, ih]; simp [Wd.cells]; omega
theorem cells_at : ∀ (l : List Wd) (k j : Nat) (x : Wd), l[k]? = some x → j < 3 → (l.flatMap Wd.cells)[k * 3 + j]? = x.cells[j]?
  | [], k, j, x, h, hj => by simp at h
  | y :: l, 0, j, x, h, hj => by
    have e : y = x := by simpa using h
    subst e
    rw [List.flatMap_cons, Nat.zero_mul, Nat.zero_add, List.getElem?_append_left (by simp [Wd.cells]; omega)]
  | y :: l, k + 1, j, x, h, hj => by
    have ih := cells_at l k j x (by simpa using h) hj
    rw [List.flatMap_cons, List.getElem?_append_right (by simp [Wd.cells]; omega)]
    rw [show (k + 1) * 3 + j - y.cells.length = k * 3 + j by simp [Wd.cells]; omega]
    exact ih
theorem RowW.lw {B : Nat} {w : World} {v : Value} {l : List Wd} (h : RowW B w v l) (hl : l.length ≤ 100000) : LW w v l := by
  obtain ⟨h1, h2⟩ := h
  rcases h2 with ⟨rfl, h0⟩ | ⟨g, cap, cur, rfl, hb, hh, hnc, hcm, hs, ht⟩
  · refine ⟨none, 0, by rw [h0], hl, fun h => by omega⟩
  · refine ⟨some ⟨g, 0, none⟩, cap, rfl, hl, fun h0 => ⟨g, rfl, ?_, fun k x hk => ?_⟩⟩
    · rcases Nat.lt_or_ge g w.heap.size with hlt | hge
      · exact hlt
      · rw [Array.getElem?_eq_none hge] at hh; cases hh
    · have hkl : k < l.length := (List.getElem?_eq_some_iff.1 hk).1
      have key : ∀ j, j < 3 → w.cell? ⟨g, k * 3 + j, none⟩ = x.cells[j]? := fun j hj => by
        rw [cell_of_row w g (k * 3 + j) cur 42 (0, 0) hh, ← cells_at l k j x hk hj, ← ht]
        rw [List.getElem?_take, if_pos (by omega), Array.getElem?_toList]
      exact ⟨key 0 (by omega), key 1 (by omega), key 2 (by omega)⟩
theorem LW.keep {w w' : World} {v : Value} {l : List Wd} (h : LW w v l) (hf : Fr No w w') : LW w' v l := by
  obtain ⟨A, c, e, hl, hc⟩ := h
  refine ⟨A, c, e, hl, fun h0 => ?_⟩
  obtain ⟨g, rfl, hg, hk⟩ := hc h0
  have hcell : ∀ i, w'.cell? ⟨g, i, none⟩ = w.cell? ⟨g, i, none⟩ := fun i => by
    simp only [World.cell?]
    rw [hf.block g hg id]
  refine ⟨g, rfl, Nat.lt_of_lt_of_le hg hf.size, fun k x hx => ?_⟩
  rw [hcell, hcell, hcell]
  exact hk k x hx
theorem goW_len : ∀ (f : Nat) (r : Tx) (p : Nat), (goW f r p).1.length ≤ f
  | 0, _, _ => Nat.le_refl _
  | f + 1, r, p => by
    unfold goW
    split
    · simp
    · cases wordT (r.drop (runB isBla r)) with
      | bad c on => simp
      | good k t s =>
        have := goW_len f ((r.drop (runB isBla r)).drop s) (p + runB isBla r + s)
        show (cons1 _ _).1.length ≤ _
        unfold cons1
        split
        · exact Nat.succ_le_succ this
        · simp
theorem wordsB_len (l : Tx) : (wordsB l).1.length ≤ 4097 := by
  unfold wordsB
  split
  · simp
  · have := goW_len (l.length + 1) l 0
    omega

/-- Words, as a law sees it. -/
def WordsL (l : List Wd) (c f : Nat) (w : World) (e : Ending) (w' : World) : Prop :=
  ∃ v, e = .returned (.tuple #[v, .agg #[.int .i64 (c : Nat), .int .i64 (f : Nat)]]) ∧ LW w' v l ∧ Fr No w w' ∧ (∀ g, v.ownBlock = some g → w.heap.size ≤ g) ∧ RowW w.heap.size w' v l
theorem l_words (s : ByteArray) (w : World) (hL : Lr w) (hs : s.size ≤ maxLen) {l : List Wd} {c f : Nat} (he : wordsB s.data.toList = (l, c, f)) : Calls Tryz.prog 21 #[.string s] w (WordsL l c f w) := by
  refine (words_any s w hL hs).mono ?_
  rintro e w' ⟨v, he', h1, h2⟩
  have hl := wordsB_len s.data.toList
  rw [he] at he' h1 hl
  exact ⟨v, he', h1.lw (by have h3 : l.length ≤ 4097 := hl; omega), Fr.of_below h2, fun g hg => (h1.lt g hg).1, h1⟩

/-! ### structs compared -/
theorem neq31 (a b : Int) (s : ByteArray) (w : World) : (binOp .neq 42 (.agg #[.int .i64 a, .string s, .int .i64 b]) (.agg #[.int .i64 a, .string s, .int .i64 b])).run Tryz.prog w = .ok (.bool false) w := by
  have hS : Tryz.prog.underlying 42 = some (.struct (Tryz.prog.fieldsOf 42)) := by kernel_rfl
  have hp : Tryz.prog.stoodInHeld 42 = false := by kernel_rfl
  rw [run_neq_struct, show (10000 : Nat) = 9999 + 1 from rfl, run_equalIn_agg w 9999 42 _ _ hS hp]
  simp only [Program.fieldsOf, Tryz.underlying42]
  simp [Op.eqFields, go_sem]
theorem eql31 (a b : Int) (s : ByteArray) (w : World) : (binOp .eql 42 (.agg #[.int .i64 a, .string s, .int .i64 b]) (.agg #[.int .i64 a, .string s, .int .i64 b])).run Tryz.prog w = .ok (.bool true) w := by
  have hS : Tryz.prog.underlying 42 = some (.struct (Tryz.prog.fieldsOf 42)) := by kernel_rfl
  have hp : Tryz.prog.stoodInHeld 42 = false := by kernel_rfl
  rw [run_eql_struct, show (10000 : Nat) = 9999 + 1 from rfl, run_equalIn_agg w 9999 42 _ _ hS hp]
  simp only [Program.fieldsOf, Tryz.underlying42]
  simp [Op.eqFields, go_sem]
theorem eql26 (a b c d : Int) (w : World) : (binOp .eql 30 (.agg #[.int .i64 a, .int .i64 b]) (.agg #[.int .i64 c, .int .i64 d])).run Tryz.prog w = .ok (.bool (a == c && b == d)) w := by
  have hS : Tryz.prog.underlying 30 = some (.struct (Tryz.prog.fieldsOf 30)) := by kernel_rfl
  have hp : Tryz.prog.stoodInHeld 30 = false := by kernel_rfl
  rw [run_eql_struct, show (10000 : Nat) = 9999 + 1 from rfl, run_equalIn_agg w 9999 30 _ _ hS hp]
  simp only [Program.fieldsOf, Tryz.underlying30]
  by_cases e1 : a = c <;> by_cases e2 : b = d <;> simp [Op.eqFields, go_sem, e1, e2]
theorem neq26 (a b : Int) (w : World) : (binOp .neq 30 (.agg #[.int .i64 a, .int .i64 b]) (.agg #[.int .i64 a, .int .i64 b])).run Tryz.prog w = .ok (.bool false) w := by
  have hS : Tryz.prog.underlying 30 = some (.struct (Tryz.prog.fieldsOf 30)) := by kernel_rfl
  have hp : Tryz.prog.stoodInHeld 30 = false := by kernel_rfl
  rw [run_neq_struct, show (10000 : Nat) = 9999 + 1 from rfl, run_equalIn_agg w 9999 30 _ _ hS hp]
  simp only [Program.fieldsOf, Tryz.underlying30]
  simp [Op.eqFields, go_sem]
theorem guard31 (o : BinOp) (ho : o = .eql ∨ o = .neq) : ∀ x y xs ys (w : World), (eqGuard o 42 x y (.agg xs) (.agg ys)).run Tryz.prog w = .ok () w := by
  rcases ho with rfl | rfl
  · exact fun x y xs ys w => run_eqGuard_agg w .eql 42 x y xs ys (by kernel_rfl)
  · exact fun x y xs ys w => run_eqGuard_agg w .neq 42 x y xs ys (by kernel_rfl)
theorem guard26 (o : BinOp) (ho : o = .eql ∨ o = .neq) : ∀ x y xs ys (w : World), (eqGuard o 30 x y (.agg xs) (.agg ys)).run Tryz.prog w = .ok () w := by
  rcases ho with rfl | rfl
  · exact fun x y xs ys w => run_eqGuard_agg w .eql 30 x y xs ys (by kernel_rfl)
  · exact fun x y xs ys w => run_eqGuard_agg w .neq 30 x y xs ys (by kernel_rfl)

/-! ### beside -/
theorem isKeyword_any (s : ByteArray) (w : World) (hL : Lr w) (hs : s.size ≤ maxLen) : Calls Tryz.prog 93 #[.string s] w fun e w' => e = .returned (.bool (decide (s.data.toList.map capB ∈ kws))) ∧ ∃ n, w' = w.drewN n := by
  have HK := Lib.hid (keywordOf_any s w hL hs)
  unfold KwP at HK
  have hv : decide (s.data.toList.map capB ∈ kws) = !(kwOf s.data.toList).isEmpty := by
    unfold kwOf
    by_cases h : s.data.toList.map capB ∈ kws
    · rw [if_pos h, decide_eq_true h]
      cases hk : s.data.toList.map capB with
      | nil => exact absurd hk (kws_ne h)
      | cons a b => rfl
    · rw [if_neg h, decide_eq_false h]; rfl
  have HV := Lib.hid hv
  clear hv hL hs
  generalize kwOf s.data.toList = kw at *
  go_enter Tryz.func93, Tryz.ntmps93
  go_wp2_with fail
  refine HK.out.mono ?_
  rintro e w' ⟨rfl, q, rfl⟩
  go_wp2
  go_ret
  exact ⟨ret_bool (by rw [HV.out]), _, rfl⟩
theorem run_cat (l m : Tx) (h : l.length + m.length ≤ maxLen) (w : World) : (Op.stringOp .add ⟨l.toArray⟩ ⟨m.toArray⟩).run Tryz.prog w = .ok (.string ⟨(l ++ m).toArray⟩) w := by
  rw [run_string_add_sum w _ _ (by rw [← len_data, ← len_data]; exact h), ByteArray.mk_append_mk]
set_option maxRecDepth 100000 in
theorem quote_any (s : ByteArray) (w : World) (hL : Lr w) (hs : s.size ≤ 4000000000) : Calls Tryz.prog 180 #[.string s] w fun e w' => e = .returned (.string ⟨(quoteB s.data.toList).toArray⟩) ∧ Fr No w w' := by
  have HR := Lib.hid (replDbl_any s w hL hs)
  have hdl : ∀ t : Tx, (dbl t).length ≤ 2 * t.length := by
    intro t
    induction t with
    | nil => exact Nat.le_refl _
    | cons b t ih => rw [dbl_cons]; split <;> simp <;> omega
  have hd := hdl s.data.toList
  rw [len_data] at hd
  have hc1 : ∀ w0, (Op.stringOp .add ⟨#[39]⟩ ⟨(dbl s.data.toList).toArray⟩).run Tryz.prog w0 = .ok (.string ⟨([39] ++ dbl s.data.toList).toArray⟩) w0 := fun w0 => run_cat [39] _ (by unfold maxLen; simp; omega) w0
  have hc2 : ∀ w0, (Op.stringOp .add ⟨([39] ++ dbl s.data.toList).toArray⟩ ⟨#[39]⟩).run Tryz.prog w0 = .ok (.string ⟨([39] ++ dbl s.data.toList ++ [39]).toArray⟩) w0 := fun w0 => run_cat _ [39] (by unfold maxLen; simp; omega) w0
  have HQ : Hid (quoteB s.data.toList = [39] ++ dbl s.data.toList ++ [39]) := Lib.hid rfl
  generalize dbl s.data.toList = D at *
  obtain ⟨X, hX⟩ : ∃ X, [39] ++ D = X := ⟨_, rfl⟩
  rw [hX] at HQ hc1 hc2
  obtain ⟨Y, hY⟩ : ∃ Y, X ++ [39] = Y := ⟨_, rfl⟩
  rw [hY] at HQ hc2
  clear hdl hd hX hY hL hs
  go_enter Tryz.func180, Tryz.ntmps180
  go_wp2_with fail
  refine HR.out.mono ?_
  rintro e w' ⟨rfl, hb⟩
  have HB := Lib.hid (Fr.of_below hb)
  clear hb
  go_wp2
  go_ret
  exact ⟨by rw [HQ.out]; rfl, HB.out⟩
end Go.Proofs.YtpdfenpmnpoehaaGreatDoor
