/- Open, by contract. -/
import Derived.Test.YthcpdeffgdaieaaB1
namespace Go.Proofs.Ythcpdeffgdaieaa
open Go.RowKit Go.Maps
set_option linter.unusedVariables false

section
variable {ops : Array Oper} {o : Oper} {a : Act} {K : Act → World → Prop} {Q : Exit → Act → World → Prop} {E : Prop} {w : World}
theorem step_store (hgd : o.guard = none) (m x v : Operand) (hop : o.op = Op.mapUpdate 51 m x v) (b : Nat) (key val : Value) (w1 : World) (hm : a.eval m = .map (some b)) (hx : a.eval x = key) (hv : a.eval v = val)
    (hr : (Instr.mapUpdate 51 (.map (some b)) key val).run Try.prog w = .ok () w1) (h : K (a.put o.dst undef) w1) : if Region.wanted o (yielded ops a.tmps) = true then Oper.wp Try.prog o a w K Q else E := by
  have hw : Region.wanted o (yielded ops a.tmps) = true := by simp [Region.wanted, hgd]
  rw [if_pos hw]
  unfold Oper.wp
  simp [execOp, hop, hm, hx, hv, hr, Result.andThen]
  exact h
end

theorem lenMap {w : World} {d : Nat} {R : Rp} {S : NS} (h : At w d R S) (ty : TypeId) : (Builtin.len_ #[51] ty #[.map R.m]).run Try.prog w = .ok (.int .i64 S.keys.length) w := by
  have hm := h.map
  have hs := h.sz
  cases hb : R.m with
  | none =>
    rw [hb] at hm
    have hD : R.FD = .map [] := hm
    rw [hD] at hs
    have e0 : S.keys.length = 0 := hs.symm
    rw [e0]
    exact Maps.len_nil (P := Try.prog) Try.underlying51 ty
  | some b =>
    rw [hb] at hm
    have hm' : w.ownsMap Try.prog 3 ptrElem b (Maps.size R.FD) R.FD := hm
    rw [hm'.len Try.underlying51 ty, hs]

set_option maxHeartbeats 400000 in
theorem open_full (d : Nat) (R : Rp) (S : NS) (w : World) (h : At w d R S) (h8 : 8 ≤ S.keys.length) :
    Calls Try.prog 11 #[.pointer (some ⟨d, 0, none⟩)] w fun e w' => e = .returned (.tuple #[.int .i64 0, .int .i64 12]) ∧ w = w' := by
  have c0 : w.cell? ⟨d, 0, none⟩ = some (.map R.m) := h.blk.cell 0
  have hl := lenMap h
  have h8' : (8 : Int) ≤ (S.keys.length : Int) := by omega
  clear h h8
  go_enter Try.func11, Try.ntmps11
  go_wp2
  go_ret2
  exact ⟨rfl, rfl⟩

/-- The net's last number is one more. -/
def NS.next (S : NS) : NS := { S with last := S.last + 1 }
theorem PRnext {w : World} {d : Nat} {R : Rp} {S : NS} (h : At w d R S) : PR d R S w R S.next (w.setCell ⟨d, 1, none⟩ (.int .i64 (S.last + 1))) := by
  have hf : Fr (One d) w (w.setCell ⟨d, 1, none⟩ (.int .i64 (S.last + 1))) := (Fr.refl (One d) w).setCell (p := ⟨d, 1, none⟩) (fun _ => rfl) _
  have same : ∀ k, foot d R S k → k ≠ d → _ := fun k hk hn => hf.block k (h.lt k hk) hn
  refine ⟨{ blk := h.blk.set_ 1 _, map := h.map.of fun b hb => same b (.inr (.inl hb)) fun e => h.map_ne (e ▸ hb), fd := fun n => (h.fd n).of fun K hK k hk => same k (.inr (.inr ⟨n, K, hK, hk⟩)) (h.other hK hk).1, ap := h.ap, sz := h.sz }, hf.mono fun k _ hk => .inl hk, fun k hk => .inl hk⟩

/-- A table is made. -/
theorem PRmade {w : World} {d : Nat} {R : Rp} {S : NS} (h : At w d R S) (hm : R.m = none) :
    PR d R S w { R with m := some w.heap.size } S ((w.alloc (.map #[] 0)).setCell ⟨d, 0, none⟩ (.map (some w.heap.size))) := by
  have hf : Fr (One d) w ((w.alloc (.map #[] 0)).setCell ⟨d, 0, none⟩ (.map (some w.heap.size))) := ((Fr.refl (One d) w).alloc _).setCell (p := ⟨d, 0, none⟩) (fun _ => rfl) _
  have same : ∀ k, foot d R S k → k ≠ d → _ := fun k hk hn => hf.block k (h.lt k hk) hn
  have hdl := h.blk.lt
  have hD : R.FD = .map [] := by have := h.map; rw [hm] at this; exact this
  have hnl : ∀ n, S.link n = none := fun n => by
    cases hK : S.link n with
    | none => rfl
    | some K => obtain ⟨b, hb⟩ := h.mapSome hK; rw [hm] at hb; cases hb
  refine ⟨{ blk := ?_, map := ?_, fd := fun n => (h.fd n).of fun K hK k hk => same k (.inr (.inr ⟨n, K, hK, hk⟩)) (h.other hK hk).1, ap := h.ap, sz := h.sz }, hf.mono fun k _ hk => .inl hk, fun k hk => ?_⟩
  · have h1 : Blk (w.alloc (.map #[] 0)) d 53 #[.map R.m, .int .i64 S.last] := h.blk.of (Below.heap_alloc w _ d hdl)
    exact h1.set_ 0 _
  · show World.ownsMap _ Try.prog 3 ptrElem w.heap.size (Maps.size R.FD) R.FD
    rw [hD]
    have h1 := World.ownsMap_made (H := Unit) w Try.prog 3 ptrElem
    refine owns_of h1 ?_
    exact Below.heap_setCell _ ⟨d, 0, none⟩ _ _ (by show w.heap.size ≠ d; omega)
  · rcases hk with hk | hk | ⟨n, K, hK, hk⟩
    · exact .inl (.inl hk)
    · exact .inr (by have : w.heap.size = k := by simpa using hk
                     omega)
    · exact .inl (.inr (.inr ⟨n, K, hK, hk⟩))

set_option maxRecDepth 100000 in
set_option maxHeartbeats 2000000 in
theorem open_some (d b : Nat) (R : Rp) (S : NS) (w : World) (h : At w d R S) (h8 : S.keys.length < 8) (hb : R.m = some b) (hl0 : 0 ≤ S.last) (hl1 : S.last ≤ 4611686018427387904) (hn : S.link (S.last + 1) = none) :
    Calls Try.prog 11 #[.pointer (some ⟨d, 0, none⟩)] w fun e w' => e = .returned (.tuple #[.int .i64 (S.last + 1), .int .i64 0]) ∧ Post d R S w S.made w' := by
  have c0 : w.cell? ⟨d, 0, none⟩ = some (.map (some b)) := by rw [h.blk.cell 0, ← hb]; rfl
  have c1 : w.cell? ⟨d, 1, none⟩ = some (.int .i64 S.last) := h.blk.cell 1
  have f1 := h.blk.frozen 1
  have hl := lenMap h
  rw [hb] at hl
  have h8' : (S.keys.length : Int) < 8 := by omega
  have hP := PRnext h
  obtain ⟨w2, hw2⟩ : ∃ w2, w.setCell ⟨d, 1, none⟩ (.int .i64 (S.last + 1)) = w2 := ⟨_, rfl⟩
  rw [hw2] at hP
  have d0 : w2.cell? ⟨d, 0, none⟩ = some (.map (some b)) := by rw [hP.at_.blk.cell 0, ← hb]; rfl
  have d1 : w2.cell? ⟨d, 1, none⟩ = some (.int .i64 (S.last + 1)) := hP.at_.blk.cell 1
  have hm2 := hP.at_.map
  rw [hb] at hm2
  have hm3 : ((w2.alloc (.cells freshCells 69)).drew).ownsMap Try.prog 3 ptrElem b (Maps.size R.FD) R.FD := World.ownsMap.drew (World.ownsMap.alloc (b := b) hm2 _)
  have hsz : Maps.size R.FD < maxLen := by rw [h.sz]; unfold maxLen; omega
  obtain ⟨w4, hr, ho, ht⟩ := hm3.store law3 Try.underlying51 hsz (key := .int .i64 (S.last + 1)) (key3 _ (wf64 (by omega) (by omega))) (ptrElem_mk w2.heap.size)
  obtain ⟨R', hP2⟩ : Post d R S.next w2 S.made w4 := (PRopen hP.at_ (n := S.last + 1) hn hb ho ht).post
  have HP : Hid (Post d R S w S.made w4) := Lib.hid ⟨R', hP.trans hP2⟩
  have e1 : w4.cell? ⟨d, 1, none⟩ = some (.int .i64 (S.last + 1)) := hP2.at_.blk.cell 1
  have b0 : d < w2.heap.size := hP.at_.blk.lt
  have q51 : ∀ (w : World) (r : Option Nat), (binOp .eql 51 (.map r) (.map none)).run Try.prog w = .ok (.bool r.isNone) w := fun w r => run_eql_map_nil w _ _ _ r Try.underlying51
  have HR := Lib.hid hr
  clear h h8 hb hn hP hm2 hm3 hsz hr ho ht hP2
  go_enter Try.func11, Try.ntmps11
  go_wp2
  clear hw2 c0 c1 f1 hl
  have hr : (Instr.mapUpdate 51 (.map (some b)) (.int .i64 (S.last + 1)) (.pointer (some ⟨w2.heap.size, 0, none⟩))).run Try.prog (w2.alloc (.cells #[.slice none 0 0, .int .i64 0, .bool false, .slice none 0 0, .int .i64 0, .bool false, .bool false, .bool false, .bool false] 69)).drew = .ok () w4 := HR.out
  go_region
  all_goals (go_wp2; go_ret2)
  all_goals exact ⟨rfl, HP.out⟩

set_option maxRecDepth 100000 in
set_option maxHeartbeats 2000000 in
theorem open_first (d : Nat) (R : Rp) (S : NS) (w : World) (h : At w d R S) (h8 : S.keys.length < 8) (hb : R.m = none) (hl0 : 0 ≤ S.last) (hl1 : S.last ≤ 4611686018427387904) (hn : S.link (S.last + 1) = none) :
    Calls Try.prog 11 #[.pointer (some ⟨d, 0, none⟩)] w fun e w' => e = .returned (.tuple #[.int .i64 (S.last + 1), .int .i64 0]) ∧ Post d R S w S.made w' := by
  have c0 : w.cell? ⟨d, 0, none⟩ = some (.map none) := by rw [h.blk.cell 0, ← hb]; rfl
  have c1 : w.cell? ⟨d, 1, none⟩ = some (.int .i64 S.last) := h.blk.cell 1
  have f0 := h.blk.frozen 0
  have hdl := h.blk.lt
  have hl := lenMap h
  rw [hb] at hl
  have h8' : (S.keys.length : Int) < 8 := by omega
  have hQ := PRmade h hb
  obtain ⟨w1, hw1⟩ : ∃ w1, (w.alloc (.map #[] 0)).setCell ⟨d, 0, none⟩ (.map (some w.heap.size)) = w1 := ⟨_, rfl⟩
  rw [hw1] at hQ
  have g1 : w1.cell? ⟨d, 1, none⟩ = some (.int .i64 S.last) := hQ.at_.blk.cell 1
  have f1 := hQ.at_.blk.frozen 1
  have hP := PRnext hQ.at_
  obtain ⟨w2, hw2⟩ : ∃ w2, w1.setCell ⟨d, 1, none⟩ (.int .i64 (S.last + 1)) = w2 := ⟨_, rfl⟩
  rw [hw2] at hP
  have d0 : w2.cell? ⟨d, 0, none⟩ = some (.map (some w.heap.size)) := hP.at_.blk.cell 0
  have d1 : w2.cell? ⟨d, 1, none⟩ = some (.int .i64 (S.last + 1)) := hP.at_.blk.cell 1
  have hm2 : w2.ownsMap Try.prog 3 ptrElem w.heap.size (Maps.size R.FD) R.FD := hP.at_.map
  have hm3 : ((w2.alloc (.cells freshCells 69)).drew).ownsMap Try.prog 3 ptrElem w.heap.size (Maps.size R.FD) R.FD := World.ownsMap.drew (World.ownsMap.alloc hm2 _)
  have hsz : Maps.size R.FD < maxLen := by rw [h.sz]; unfold maxLen; omega
  obtain ⟨w4, hr, ho, ht⟩ := hm3.store law3 Try.underlying51 hsz (key := .int .i64 (S.last + 1)) (key3 _ (wf64 (by omega) (by omega))) (ptrElem_mk w2.heap.size)
  obtain ⟨R', hP2⟩ : Post d { R with m := some w.heap.size } S.next w2 S.made w4 := (PRopen hP.at_ (n := S.last + 1) hn (b := w.heap.size) rfl ho ht).post
  have HP : Hid (Post d R S w S.made w4) := Lib.hid ⟨R', hQ.trans (hP.trans hP2)⟩
  have e1 : w4.cell? ⟨d, 1, none⟩ = some (.int .i64 (S.last + 1)) := hP2.at_.blk.cell 1
  have b0 : d < w2.heap.size := hP.at_.blk.lt
  have q51 : ∀ (w : World) (r : Option Nat), (binOp .eql 51 (.map r) (.map none)).run Try.prog w = .ok (.bool r.isNone) w := fun w r => run_eql_map_nil w _ _ _ r Try.underlying51
  have hmk := @run_makeMap Try.prog
  have HR := Lib.hid hr
  clear h h8 hb hn hP hm2 hm3 hsz hr ho ht hP2 hQ
  go_enter Try.func11, Try.ntmps11
  go_wp2
  clear hw2 hw1 c0 c1 f1 hl
  have hr : (Instr.mapUpdate 51 (.map (some w.heap.size)) (.int .i64 (S.last + 1)) (.pointer (some ⟨w2.heap.size, 0, none⟩))).run Try.prog (w2.alloc (.cells #[.slice none 0 0, .int .i64 0, .bool false, .slice none 0 0, .int .i64 0, .bool false, .bool false, .bool false, .bool false] 69)).drew = .ok () w4 := HR.out
  go_region
  all_goals (go_wp2; go_ret2)
  all_goals exact ⟨rfl, HP.out⟩

theorem open_call (d : Nat) (R : Rp) (S : NS) (w : World) (h : At w d R S) (hW : WF S) :
    Calls Try.prog 11 #[.pointer (some ⟨d, 0, none⟩)] w fun e w' => e = .returned (.tuple #[.int .i64 S.opened.1.1, .int .i64 S.opened.1.2]) ∧ Post d R S w S.opened.2 w' := by
  by_cases h8 : 8 ≤ S.keys.length
  · have e : S.opened = ((0, 12), S) := by unfold NS.opened; rw [if_pos h8]
    rw [e]
    exact (open_full d R S w h h8).mono fun e w' ⟨h1, h2⟩ => ⟨h1, h2 ▸ Post.refl h⟩
  · have e : S.opened = ((S.last + 1, 0), S.made) := by unfold NS.opened; rw [if_neg h8]
    rw [e]
    have hn : S.link (S.last + 1) = none := by
      cases hK : S.link (S.last + 1) with
      | none => rfl
      | some K =>
        have := hW.keys _ ((hW.right.2 (S.last + 1)).2 (by rw [hK]; rfl))
        omega
    cases hb : R.m with
    | none => exact open_first d R S w h (by omega) hb hW.last.1 hW.last.2 hn
    | some b => exact open_some d b R S w h (by omega) hb hW.last.1 hW.last.2 hn

end Go.Proofs.Ythcpdeffgdaieaa
