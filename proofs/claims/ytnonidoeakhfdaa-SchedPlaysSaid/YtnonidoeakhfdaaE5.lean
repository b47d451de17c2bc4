/- SchedRising: what comes in; how the main loop begins. -/
import Derived.Test.YtnonidoeakhfdaaE4
import Derived.Test.YtnonidoeakhfdaaC2
import Derived.Deep.Matrix
namespace Go.Proofs.Ytnonidoeakhfdaa
open Go.RowKit Go.Maps Go.Sort
set_option linter.unusedVariables false

/-- A list of ints that was there at the call. -/
structure IntsAt (w : World) (v : Value) (m : Nat) : Prop where
  len : ∀ ty W, (Builtin.len_ #[29] ty #[v]).run Try.prog W = .ok (.int .i64 m) W
  cap : m ≤ maxLen
  at_ : ∀ k, k < m → ∃ g o z, g < w.heap.size ∧ (∀ W, (Instr.indexAt 29 v (.int .i64 (k : Nat))).run Try.prog W = .ok (.pointer (some ⟨g, o, none⟩)) W) ∧ w.cell? ⟨g, o, none⟩ = some (.int .i64 z) ∧ -9223372036854775808 ≤ z ∧ z ≤ 9223372036854775807
/-- A list of such lists. -/
structure RowsAt (w : World) (v : Value) (n : Nat) : Prop where
  len : ∀ ty W, (Builtin.len_ #[45] ty #[v]).run Try.prog W = .ok (.int .i64 n) W
  cap : n ≤ maxLen
  at_ : ∀ r, r < n → ∃ g o vr m, g < w.heap.size ∧ (∀ W, (Instr.indexAt 45 v (.int .i64 (r : Nat))).run Try.prog W = .ok (.pointer (some ⟨g, o, none⟩)) W) ∧ w.cell? ⟨g, o, none⟩ = some vr ∧ IntsAt w vr m

theorem ints_of {w : World} {A : Option Addr} {n c : Nat} {zs : List Int} (h : ListAt (Value.int .i64) w A n c zs) (hR : ∀ z ∈ zs, -9223372036854775808 ≤ z ∧ z ≤ 9223372036854775807) : IntsAt w (.slice A n c) n := by
  refine ⟨fun ty W => by simp [Builtin.len_, run_underlying Try.underlying29, goInt], by have := h.cap; omega, fun k hk => ?_⟩
  obtain ⟨g, off, rfl, hg, h2⟩ := h.at_ (by omega)
  have hj : k < zs.length := by have := h.len; omega
  refine ⟨g, off + k, zs[k], hg, fun W => ?_, h2 k hj, hR _ (List.getElem_mem hj)⟩
  rw [run_indexAt_slice (w := W) 29 _ _ _ .i64 k under29, size29]
  simp [Result.andThen, Addr.add_lit]
  omega

section
variable {H : Type} {enc : TypeId × Value → H}
theorem u45 : Try.prog.underlying 45 = some (.slice 29) := under45'
theorem Try.c29 : Try.prog.cellsOf 29 = 1 := by set_option maxRecDepth 100000 in kernel_rfl
open Go.ChangeShapes Go.WideShapes Go.ChangeAt in
set_option maxRecDepth 100000 in
theorem open_rowsA {W : World} {v : Value} {d : DataW H} {ps : List MemPlace} (hval : Value.okWide Try.prog W .any 0 45 v) (h : DataW.Trod enc Try.prog W 0 (fun _ => true) true 45 v d ps) :
    ∃ n, RowsAt W v n := by
  obtain ⟨a0, len, cap, rfl⟩ := okWide_slice u45 hval
  obtain ⟨fuel, hf⟩ := h
  rcases Go.Deep.open_int_rows u45 Try.underlying29 Try.underlying3 Try.c29 Try.c3 hf with ⟨hcs, hx⟩ | ⟨a, len', cap', A, L, C, Z, hcs, _, hl, hm, hx, hcell⟩
  · simp [Value.cells] at hcs
    obtain ⟨rfl, rfl, rfl⟩ := hcs
    exact ⟨0, fun ty W => by simp [Builtin.len_, run_underlying u45, goInt], Nat.zero_le _, fun r hr => by omega⟩
  · simp [Value.cells] at hcs
    obtain ⟨rfl, rfl, rfl⟩ := hcs
    refine ⟨len, fun ty W => by simp [Builtin.len_, run_underlying u45, goInt], by omega, fun r hr => ?_⟩
    obtain ⟨h1, h2, h3, h4, h5, h6, h7⟩ := hcell r (by omega)
    obtain ⟨b, off, spot⟩ := a
    have hspot : spot = none := by simpa [Addr.add] using World.cell?_spot (hcell 0 (by omega)).1
    subst hspot
    have add : ∀ (x y z : Nat), ((⟨x, y, none⟩ : Addr).add z) = ⟨x, y + z, none⟩ := fun x y z => by unfold Addr.add; split <;> simp_all
    rw [add] at h1
    have hb : b < W.heap.size := World.block_lt_of_cell? W _ h1
    refine ⟨b, off + r, _, L r, hb, fun W => ?_, h1, ?_⟩
    · rw [run_indexAt_slice (w := W) 45 _ _ _ .i64 r under45, size45]
      simp [Result.andThen, Addr.add_lit]
      omega
    · refine ⟨fun ty W => by simp [Builtin.len_, run_underlying Try.underlying29, goInt], by omega, fun k hk => ?_⟩
      cases hA : A r with
      | none => have := h6 hA; omega
      | some a' =>
        obtain ⟨_, h8⟩ := h7 a' hA
        have h9 := h8 k (by omega)
        obtain ⟨b', off', spot'⟩ := a'
        have hspot : spot' = none := by simpa [Addr.add] using World.cell?_spot (h8 0 (by omega))
        subst hspot
        rw [add] at h9
        have hz : (Z r).getD k 0 ∈ Z r := by rw [getD_of _ _ _ (by omega)]; exact List.getElem_mem _
        refine ⟨b', off' + k, _, World.block_lt_of_cell? W _ h9, fun W => ?_, h9, wf_i64_bd (h5 _ hz)⟩
        rw [run_indexAt_slice (w := W) 29 _ _ _ .i64 k under29, size29]
        simp [Result.andThen, Addr.add_lit]
        omega
end

section
variable {ops : Array Oper} {rest : List Oper} {o : Oper} {a : Act} {Q : Exit → Act → World → Prop} {w : World}
theorem wpList_addr (hgd : o.guard = none) (sl x : Operand) (ho : o.op = .call { callee := .builtin .append, args := #[sl, x], argTypes := #[45, 45] })
    (v v' xv : Value) (w1 : World) (hs : a.eval sl = v) (hx : a.eval x = xv) (hr : (Builtin.append_ #[45, 45] o.type #[v, xv]).run Try.prog w = .ok v' w1)
    (h : wpList Try.prog ops Q rest (a.put o.dst v') w1) : wpList Try.prog ops Q (o :: rest) a w := by
  refine wpList_plain hgd fun K hK => ?_
  unfold Oper.wp execOp
  simp only [ho, resolve, invoke, builtin, Sem.run_bind, Sem.run_pure, Result.andThen_ok, List.map_toArray, List.map_cons, List.map_nil, hs, hx, hr]
  exact hK _ _ h
end

/-- The locks found so far, those below q. -/
structure Rup (l : List Int) (q : Nat) : Prop where
  up : l.Pairwise (· < ·)
  len : l.length ≤ 4
  bd : ∀ x ∈ l, 0 ≤ x ∧ x < (q : Int)
theorem Rup.zero : Rup [] 0 := ⟨.nil, by simp, fun x hx => by cases hx⟩
theorem Rup.next {l : List Int} {q : Nat} (h : Rup l q) : Rup l (q + 1) := ⟨h.up, h.len, fun x hx => by have := h.bd x hx; omega⟩
theorem Rup.add {l : List Int} {q : Nat} (h : Rup l q) (hl : l.length < 4) : Rup (l ++ [(q : Int)]) (q + 1) :=
  ⟨List.pairwise_append.2 ⟨h.up, List.pairwise_singleton _ _, fun x hx y hy => by rw [List.mem_singleton.1 hy]; exact (h.bd x hx).2⟩, by simp; omega, fun x hx => by
    rcases List.mem_append.1 hx with hx | hx
    · have := h.bd x hx; omega
    · rw [List.mem_singleton.1 hx]; omega⟩
theorem Rup.rising {l : List Int} {q : Nat} (h : Rup l q) (hq : q ≤ 6) : Rising l := ⟨h.up, h.len, fun x hx => by have := h.bd x hx; omega⟩

section
variable {w wr : World} {d : Nat} {vt vl : Value} {vals : List Value} {tds : List (List Int)}
theorem ML.begin (h : RB w d (Tz tds.length) vt vals tds vl (List.replicate tds.length 0) wr) (hm : tds.length ≤ 12) (hR : ∀ l ∈ tds, Rising l) :
    ML w d vt vals tds vl (List.replicate tds.length 0) (fun _ => 0) (fun _ => true) (fun _ => 9) tds.length Any wr := by
  refine ⟨h.imp fun S X hS hP => ⟨MI.start hP.1 hS.wf hP.2 fun k hk => ?_, hP.1.used, trivial⟩, fun k hk => by simp [hk], by simp, hm⟩
  unfold tdF
  rw [getD_of _ _ _ hk]
  exact hR _ (List.getElem_mem hk)
end

/-- How many are there yet. -/
theorem left_all (m : Nat) : sumTo (alN fun _ => true) m = m := by
  induction m with
  | zero => rfl
  | succ m ih => unfold sumTo; rw [ih]; rfl
theorem left_end {al : Nat → Bool} {k m : Nat} (hk : k < m) (ha : al k = true) : sumTo (alN (upN al k false)) m + 1 = sumTo (alN al) m := by
  have := sumTo_up (alN al) k 0 m hk
  rw [alN_up]
  unfold alN at this ⊢
  rw [ha] at this
  simpa using this
theorem left_none {al : Nat → Bool} {m : Nat} (h : sumTo (alN al) m = 0) (k : Nat) (hk : k < m) : al k = false := by
  have := sumTo_zero h k hk
  unfold alN at this
  split at this
  · cases this
  · simpa using ‹¬ al k = true›
theorem left_some {al : Nat → Bool} {m : Nat} (h : 0 < sumTo (alN al) m) : ∃ k, k < m ∧ al k = true := by
  obtain ⟨k, hk, h2⟩ := sumTo_pos h
  unfold alN at h2
  split at h2
  · exact ⟨k, hk, ‹_›⟩
  · cases h2

end Go.Proofs.Ytnonidoeakhfdaa
