/- How many sets a list has; a list of single names. -/
import Derived.Test.YthejnkpnpckmbaaB1
namespace Go.Proofs.Ythejnkpnpckmbaa
open Go.RowKit Go.Maps
set_option linter.unusedVariables false

/-- Lists that are no longer than a reading of so much may hold. -/
def GpF (g : Gp) : Prop := g.cols.length ≤ 2097152 ∧ g.sets.length ≤ 2097152 ∧ ∀ s ∈ g.sets, s.length ≤ 2097152
theorem esize_le (g : Gp) : esize g ≤ 65 := Nat.min_le_right _ _
theorem size_take {l : List Gp} {j : Nat} (h : j < l.length) : sizeL (l.take (j + 1)) = min (sizeL (l.take j) * esize l[j]) 65 := by
  rw [take_succ h]; unfold sizeL; rw [List.foldl_append]; rfl
theorem size_le (l : List Gp) (j : Nat) : sizeL (l.take j) ≤ 65 := by
  by_cases h : j < l.length
  · cases j with
    | zero => exact (by decide : sizeL [] ≤ 65)
    | succ i => rw [size_take (by omega)]; exact Nat.min_le_right _ _
  · rw [List.take_of_length_le (by omega)]
    rcases l.eq_nil_or_concat with rfl | ⟨a, x, rfl⟩
    · decide
    · unfold sizeL; rw [List.concat_eq_append, List.foldl_append]; exact Nat.min_le_right _ _
set_option maxRecDepth 100000 in
set_option maxHeartbeats 1000000 in
theorem size_any {K : Nat → Prop} {l : List Gp} {v : Value} (w : World) (h : RowE K w 3 (gpG K w) v l) (hF : ∀ g ∈ l, GpF g) : Calls Try.prog 23 #[v] w (TellsI ((sizeL l : Nat) : Int) w) := by
  obtain ⟨A, c, rfl, hlc, hcm, hrow⟩ := h
  obtain ⟨n, hn⟩ : ∃ n, l.length = n := ⟨_, rfl⟩
  rw [hn] at hlc ⊢
  have HROW := Lib.hid hrow
  have HN := Lib.hid hn
  have HGF := Lib.hid hF
  unfold maxLen at hcm
  clear hrow hn hF
  go_enter Try.func23, Try.ntmps23
  go_wp2_with fail
  go_loopg [3, 5, 8] n (fun k r3 r5 r8 wr => Hid (∃ j p : Nat, r8 = .int .i64 (j : Nat) ∧ j + k = n ∧ r3 = .int .i64 (p : Int) ∧ p = sizeL (l.take j) ∧ Fr No w wr))
  case atStart => exact Lib.hid ⟨0, 1, rfl, by omega, rfl, rfl, Fr.refl _ _⟩
  case round =>
  obtain ⟨j, p, rfl, hjn, rfl, hp, hf⟩ := hrel.out
  clear hrel
  have HP := Lib.hid hp
  have hp65 : p ≤ 65 := by rw [hp]; exact size_le l j
  have HF := Lib.hid hf
  clear hp
  by_cases hj : j < n
  · have hji : (j : Int) < (n : Int) := by omega
    have hjl : j < l.length := by rw [HN.out]; exact hj
    obtain ⟨g, off, rfl, hK, hg, hel⟩ := HROW.out (by omega)
    obtain ⟨cs, hcl, hcs, hE⟩ := hel j hjl
    obtain ⟨x, hx⟩ : ∃ x, l[j] = x := ⟨_, rfl⟩
    have hst : sizeL (l.take (j + 1)) = min (p * esize x) 65 := by rw [size_take hjl, hx, ← HP.out]
    have hgf : GpF x := by rw [← hx]; exact HGF.out _ (List.getElem_mem _)
    rw [hx] at hE
    obtain ⟨a0, b0, hE, h64, hRA, hRB⟩ := hE
    obtain ⟨A1, c1, rfl⟩ : ∃ A1 c1, a0 = .slice A1 x.cols.length c1 := by obtain ⟨A1, c1, e, _⟩ := hRA; exact ⟨_, _, e⟩
    obtain ⟨A2, c2, rfl⟩ : ∃ A2 c2, b0 = .slice A2 x.sets.length c2 := by obtain ⟨A2, c2, e, _⟩ := hRB; exact ⟨_, _, e⟩
    have e0 : wr.cell? ⟨g, off + j * 3, none⟩ = some (.int .i64 x.kind) := (cell_of_heap (hf.block g hg id)).trans (by have := hcs 0 (by decide); rw [hE] at this; simpa using this)
    have e1 : wr.cell? ⟨g, off + j * 3 + 1, none⟩ = some (.slice A1 x.cols.length c1) := (cell_of_heap (hf.block g hg id)).trans (by have := hcs 1 (by decide); rw [hE] at this; simpa using this)
    have e2 : wr.cell? ⟨g, off + j * 3 + 2, none⟩ = some (.slice A2 x.sets.length c2) := (cell_of_heap (hf.block g hg id)).trans (by have := hcs 2 (by decide); rw [hE] at this; simpa using this)
    obtain ⟨wn, hwn⟩ : ∃ wn, wr.alloc (.cells #[.int .i64 x.kind, .slice A1 x.cols.length c1, .slice A2 x.sets.length c2] 38) = wn := ⟨_, rfl⟩
    obtain ⟨y, hy⟩ : ∃ y, wr.heap.size = y := ⟨_, rfl⟩
    have f1 : Fr No wr wn := by rw [← hwn]; exact (Fr.refl No wr).alloc _
    have hb : Blk wn y 38 #[.int .i64 x.kind, .slice A1 x.cols.length c1, .slice A2 x.sets.length c2] := by rw [← hwn, ← hy]; exact Blk.new wr 38 _
    have m0 : wn.cell? ⟨y, 0, none⟩ = some (.int .i64 x.kind) := hb.cell 0
    have m1 : wn.cell? ⟨y, 1, none⟩ = some (.slice A1 x.cols.length c1) := hb.cell 1
    have m2 : wn.cell? ⟨y, 2, none⟩ = some (.slice A2 x.sets.length c2) := hb.cell 2
    have HWN := Lib.hid hwn
    have HY := Lib.hid hy
    have HFN := Lib.hid (hf.trans f1 fun _ _ h => h)
    have HC := Lib.hid (esize_any x wn (hRA.at_ strG_elem HFN.out) (hRB.at_ lsG_elem HFN.out) (by have := hgf.1; omega) (by have := hgf.2.1; omega))
    have hm65 := esize_le x
    obtain ⟨m, hm⟩ : ∃ m, esize x = m := ⟨_, rfl⟩
    rw [hm] at HC hst hm65
    obtain ⟨q, hq⟩ : ∃ q, p * m = q := ⟨_, rfl⟩
    have hq2 : q ≤ 65 * 65 := by rw [← hq]; exact Nat.mul_le_mul hp65 hm65
    have hmul : (p : Int) * (m : Int) = (q : Int) := by rw [← hq]; simp
    rw [hq] at hst
    have HT := Lib.hid hst
    clear hcs hcl hel hK hf hE hx hRA hRB h64 hb hwn hy f1 hst hgf hm hq
    go_upto_region 5 with fail
    rw [HY.out, HWN.out]
    go_wp2_with fail
    refine HC.out.mono ?_
    rintro e w5 ⟨rfl, f5⟩
    have HF5 := Lib.hid (HFN.out.trans f5 fun _ _ h => h)
    clear f5
    go_wp2_with fail
    all_goals
      obtain ⟨g1, rfl⟩ : ∃ g1, gk = g1 + 1 := ⟨gk - 1, by omega⟩
      go_roundg g1
      case rel => exact Lib.hid ⟨j + 1, min q 65, by go_num, by omega, congrArg (Value.int .i64) (by omega), HT.out.symm, HF5.out⟩
      all_goals omega
  · have hji : (n : Int) ≤ (j : Int) := by omega
    have HT : Hid (p = sizeL l) := Lib.hid (by rw [HP.out, List.take_of_length_le (by rw [HN.out]; omega)])
    clear hf
    go_wp2_with fail
    go_ret
    exact ⟨by rw [← HT.out]; rfl, HF.out⟩

theorem row_one {α : Type} {E : EG α} (hE : Elem E) (w : World) (e : TypeId) (x : α) (u : Value) (h : E (fun k => w.heap.size ≤ k) w x [u]) :
    RowE (fun k => w.heap.size ≤ k) (w.alloc (.cells #[u] e)) 1 (E (fun k => w.heap.size ≤ k) (w.alloc (.cells #[u] e))) (.slice (some ⟨w.heap.size, 0, none⟩) 1 1) [x] :=
  (Grow.single (b := w.heap.size) (e := e) (size := 1) hE (w0 := w) (Nat.le_refl _) (Nat.le_refl _) x [u] rfl h (by decide)).row hE
theorem bitT_lt (dims : List Tx) (t : Tx) : bitT dims t < 64 := bitI_lt _
theorem own_take_ {dims l : List Tx} {j : Nat} (h : j < l.length) : ownL dims (l.take (j + 1)) = ownL dims (l.take j) ++ [bitT dims l[j]] := by
  rw [take_succ h]; unfold ownL; rw [List.map_append]; rfl
theorem own_len (dims l : List Tx) : (ownL dims l).length = l.length := List.length_map ..
theorem own_lt (dims l : List Tx) : ∀ x ∈ ownL dims l, x < 64 := fun x hx => by
  unfold ownL at hx
  obtain ⟨t, _, rfl⟩ := List.mem_map.1 hx
  exact bitT_lt _ _
theorem ofL_one (d : Int) : ofL [d] = bitI d := Nat.zero_or _
set_option maxRecDepth 100000 in
set_option maxHeartbeats 1000000 in
/-- own. -/
theorem own_any {K K2 : Nat → Prop} {dims l : List Tx} {dv v : Value} (w : World) (hD : RowE K2 w 1 (strG K2 w) dv dims) (h : RowE K w 1 (strG K w) v l) (hl : l.length ≤ 2097152) (hd : dims.length ≤ maxLen) : Calls Try.prog 39 #[dv, v] w (TellsR 1 natG (ownL dims l) w) := by
  obtain ⟨A0, c0, hdv⟩ : ∃ A0 c0, dv = .slice A0 dims.length c0 := by obtain ⟨A1, c1, e, _⟩ := hD; exact ⟨_, _, e⟩
  subst hdv
  obtain ⟨A, c, rfl, hlc, hcm, hrow⟩ := h
  obtain ⟨n, hn⟩ : ∃ n, l.length = n := ⟨_, rfl⟩
  rw [hn] at hlc hl ⊢
  have HROW := Lib.hid hrow
  have HN := Lib.hid hn
  have HD := Lib.hid hD
  have HDL := Lib.hid hd
  obtain ⟨B, hB⟩ : ∃ B, w.heap.size = B := ⟨_, rfl⟩
  obtain ⟨w1, hw1⟩ : ∃ w1, w.alloc (.cells #[] 3) = w1 := ⟨_, rfl⟩
  have HF1 : Hid (Fr No w w1) := Lib.hid (by rw [← hw1]; exact (Fr.refl No w).alloc _)
  have HG1 : Hid (Grow B 3 1 natG w1 (.slice (some ⟨B, 0, none⟩) 0 0) (ownL dims (l.take 0))) := Lib.hid (by rw [← hw1, ← hB]; exact Grow.empty _ 3 1 natG w (Nat.le_refl _) #[] rfl)
  have HW1 := Lib.hid hw1
  have HB := Lib.hid hB
  unfold maxLen at hcm
  clear hrow hn hD hd hw1 hB
  go_enter Try.func39, Try.ntmps39
  go_upto_region 2 with fail
  rw [HW1.out, HB.out]
  go_wp2_with fail
  go_loopg [5, 7, 11] n (fun k r5 r7 r11 wr => Hid (∃ (j : Nat) (A : Option Addr) (c : Nat), r11 = .int .i64 (j : Nat) ∧ j + k = n ∧ r5 = .slice A j c ∧ Grow B 3 1 natG wr (.slice A j c) (ownL dims (l.take j)) ∧ Fr No w wr))
  case atStart => exact Lib.hid ⟨0, _, _, rfl, by omega, rfl, HG1.out, HF1.out⟩
  case round =>
  obtain ⟨j, A3, c3, rfl, hjn, rfl, hg3, hf⟩ := hrel.out
  clear hrel
  have HG := Lib.hid hg3
  have HF := Lib.hid hf
  clear hg3
  by_cases hj : j < n
  · have hji : (j : Int) < (n : Int) := by omega
    have hjl : j < l.length := by rw [HN.out]; exact hj
    have hlen : (ownL dims (l.take j)).length = j := by rw [own_len, List.length_take]; omega
    obtain ⟨g, off, rfl, hK, hg, hel⟩ := HROW.out (by omega)
    obtain ⟨cs, hcl, hcs, hE⟩ := hel j hjl
    obtain ⟨hE, hi⟩ := hE
    have e0 : wr.cell? ⟨g, off + j, none⟩ = some (sv l[j]) := (cell_of_heap (hf.block g hg id)).trans (by have := hcs 0 (by decide); rw [hE] at this; simpa using this)
    have HT := Lib.hid (own_take_ (dims := dims) hjl)
    obtain ⟨x, hx⟩ : ∃ x, l[j] = x := ⟨_, rfl⟩
    rw [hx] at e0 HT
    have HC := Lib.hid (index_any x wr (HD.out.at_ strG_elem HF.out))
    have HLEN := Lib.hid hlen
    have hi64 : i64 (idxI dims x) := by
      have h1 := idx_lt dims x
      have h2 := HDL.out
      unfold maxLen at h2
      exact ⟨by omega, by omega⟩
    obtain ⟨d, hd⟩ : ∃ d, idxI dims x = d := ⟨_, rfl⟩
    obtain ⟨u, hu⟩ : ∃ u, bitT dims x = u := ⟨_, rfl⟩
    have HU : Hid (ofL [d] = u) := Lib.hid (by rw [ofL_one, ← hu, ← hd]; rfl)
    have HI := Lib.hid hi64
    rw [hd] at HC HI
    rw [hu] at HT
    clear hcs hcl hel hK hf hE hx hi hlen hi64 hd hu
    go_wp2_with fail
    refine HC.out.mono ?_
    rintro e w2 ⟨rfl, f2⟩
    have HF2 := Lib.hid (HF.out.trans f2 fun _ _ h => h)
    have HG2 := Lib.hid (HG.out.keep natG_elem f2 fun _ h => h.elim)
    obtain ⟨w3, hw3⟩ : ∃ w3, w2.alloc (.cells #[.int .i64 d] 3) = w3 := ⟨_, rfl⟩
    obtain ⟨y, hy⟩ : ∃ y, w2.heap.size = y := ⟨_, rfl⟩
    have f3 : Fr No w2 w3 := by rw [← hw3]; exact (Fr.refl No w2).alloc _
    have hone := row_one intG_elem w2 3 d (.int .i64 d) ⟨rfl, HI.out⟩
    rw [hw3, hy] at hone
    have HC2 := Lib.hid (of_any w3 hone)
    rw [HU.out] at HC2
    have HF3 := Lib.hid (HF2.out.trans f3 fun _ _ h => h)
    have HG3 := Lib.hid (HG2.out.keep natG_elem f3 fun _ h => h.elim)
    have HW3 := Lib.hid hw3
    have HY := Lib.hid hy
    clear f2 f3 hw3 hy hone
    go_wp2_with fail
    rw [HW3.out, HY.out]
    refine HC2.out.mono ?_
    rintro e w4 ⟨rfl, f4⟩
    have HF4 := Lib.hid (HF3.out.trans f4 fun _ _ h => h)
    have HG4 := Lib.hid (HG3.out.keep natG_elem f4 fun _ h => h.elim)
    obtain ⟨A', c', w6, hrun, hg6, hf6, _⟩ := Grow.push (bytes := 8) natG_elem HG4.out HB.out.symm HF4.out 22 Try.underlying22 (.int .i64 0) (by kernel_rfl) rfl u (.int .i64 u) rfl rfl (by rw [HLEN.out]; omega) (by rw [HLEN.out]; unfold maxLen; omega)
    rw [HLEN.out] at hrun hg6
    have HRUN := Lib.hid hrun
    have HG6 := Lib.hid hg6
    have HF6 := Lib.hid hf6
    clear hrun hg6 hf6 f4
    go_wp2_with (at_builtin; refine wpList_add rfl _ _ _ _ rfl _ _ _ _ rfl rfl (HRUN.out _) ?_)
    obtain ⟨g1, rfl⟩ : ∃ g1, gk = g1 + 1 := ⟨gk - 1, by omega⟩
    go_roundg g1
    case rel => exact Lib.hid ⟨j + 1, A', c', by go_num, by omega, rfl, by rw [HT.out]; exact HG6.out, HF6.out⟩
    all_goals omega
  · have hji : (n : Int) ≤ (j : Int) := by omega
    have HT : Hid (l.take j = l) := Lib.hid (List.take_of_length_le (by rw [HN.out]; omega))
    clear hf
    go_wp2_with fail
    go_ret
    have := HG.out.tells natG_elem HB.out.symm HF.out
    rw [HT.out] at this
    exact this
end Go.Proofs.Ythejnkpnpckmbaa
