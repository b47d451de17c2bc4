/- The document's own scheduler: Picks, Ready, Stuck; one list grows, one task turns. -/
import Derived.Test.YtnonidoeakhfdaaG2
namespace Go.Proofs.Ytnonidoeakhfdaa
open Go.RowKit Go.Maps Go.Sort
set_option linter.unusedVariables false

section
variable {ops : Array Oper} {rest : List Oper} {o : Oper} {a : Act} {Q : Exit → Act → World → Prop} {w : World}
theorem wpList_addt (t : TypeId) (hgd : o.guard = none) (sl x : Operand) (ho : o.op = .call { callee := .builtin .append, args := #[sl, x], argTypes := #[t, t] })
    (v v' xv : Value) (w1 : World) (hs : a.eval sl = v) (hx : a.eval x = xv) (hr : (Builtin.append_ #[t, t] o.type #[v, xv]).run Try.prog w = .ok v' w1)
    (h : wpList Try.prog ops Q rest (a.put o.dst v') w1) : wpList Try.prog ops Q (o :: rest) a w := by
  refine wpList_plain hgd fun K hK => ?_
  unfold Oper.wp execOp
  simp only [ho, resolve, invoke, builtin, Sem.run_bind, Sem.run_pure, Result.andThen_ok, List.map_toArray, List.map_cons, List.map_nil, hs, hx, hr]
  exact hK _ _ h
end

section
variable {w wr w' w1 : World} {r : Nat} {V : Nat → Value} {Z Z' : ZS} {l : List Int} {v : Value}
/-- One more behind a list of one's own. -/
theorem own_add (ho : Own w wr v l) (hf : Fr No w wr) (x : Int) (hlen : l.length ≤ 1000000) :
    ∃ v' w1, (∀ ty, (Builtin.append_ #[29, 29] ty #[v, .slice (some ⟨wr.heap.size, 0, none⟩) 1 1]).run Try.prog (wr.alloc (.cells #[.int .i64 x] 3)) = .ok v' w1) ∧ Own w w1 v' (l ++ [x]) ∧ Fr No w w1 := by
  obtain ⟨i0, hi, hz0, hz1, hz2⟩ := info_parts info3
  have hbase : w.heap.size ≤ (wr.alloc (.cells #[.int .i64 x] 3)).heap.size := by have := hf.size; simp; omega
  obtain ⟨v', w', hr, ho', hgr, _, hat⟩ := run_append_own_at (P := Try.prog) (wr.alloc (.cells #[.int .i64 x] 3)) w.heap.size 29 0 3 i0 (.int .i64 0) 1 8 Try.underlying29 hi hz0 hz1 hz2 rfl (by omega) v l.length (l.map encZ) (World.ownsRow.alloc ho _) ⟨wr.heap.size, 0, none⟩ 1 1 [encZ x] rfl (cell_one_new _ _ _) (by simp [Value.oneCell']) (by unfold maxLen; omega) (by omega) hbase
  refine ⟨v', w', fun ty => hr, ?_, (hf.alloc _).grown hgr fun k hk hlt => ?_⟩
  · have : w'.ownsRow w.heap.size 3 1 v' (l.length + 1) (l.map encZ ++ [encZ x]) := ho'
    unfold Own
    rw [List.length_append, List.map_append]; exact this
  · have := (World.ownsRow.lt ho k hk).1; omega

/-- One more behind the pairs. -/
theorem RAt.addp (h : RAt w r V Z) {i : Nat} (hi : i = 1 ∨ i = 2) (p : Int × Int) (hlen : (Z.rows i).length ≤ 1000000) :
    ∃ v' w1, (∃ A' c', v' = .slice A' ((Z.rows i).length + 1) c') ∧ (∀ ty, (Builtin.append_ #[28, 28] ty #[V i, .slice (some ⟨w.heap.size, 0, none⟩) 1 1]).run Try.prog (w.alloc (.cells #[.int .i64 p.1, .int .i64 p.2] 68)) = .ok v' w1) ∧
      w1.cell? ⟨r, i + 1, none⟩ = some (V i) ∧ w1.frozen? ⟨r, i + 1, none⟩ = false ∧
      ∀ Z', Z'.rows i = Z.rows i ++ [pc p] → (∀ j, j < 4 → j ≠ i → Z'.rows j = Z.rows j) → Z'.last = Z.last → PRr r V w (upV V i v') Z' (w1.setCell ⟨r, i + 1, none⟩ v') := by
  have hi4 : i < 4 := by omega
  have hty : zty i = 68 := by rcases hi with rfl | rfl <;> rfl
  have hsz : zsz i = 2 := by rcases hi with rfl | rfl <;> rfl
  obtain ⟨i0, hi0, hz0, hz1, hz2⟩ := info_parts info68
  have hrow := h.row i hi4
  rw [hty, hsz] at hrow
  obtain ⟨v', w', hr, ho', hgr, _, hat⟩ := run_append_own_at (P := Try.prog) (w.alloc (.cells #[.int .i64 p.1, .int .i64 p.2] 68)) 0 28 0 68 i0 (.agg #[.int .i64 0, .int .i64 0]) 2 16 under28' hi0 hz0 hz1 hz2 rfl (by omega) (V i) _ _ (World.ownsRow.alloc hrow _) ⟨w.heap.size, 0, none⟩ 1 1 (pc p) rfl (World.news_of_block (cs := #[.int .i64 p.1, .int .i64 p.2]) (t := 68) (fr := (0, 0)) (heap_alloc_new w _)) (by simp [pc, Value.oneCell']) (by unfold maxLen; omega) (by omega) (Nat.zero_le _)
  have hsw : (w.alloc (.cells #[.int .i64 p.1, .int .i64 p.2] 68)).heap.size = w.heap.size + 1 := by simp
  have hf : Fr (fun k => (V i).ownBlock = some k) w w' := ((Fr.refl _ w).alloc _).grown hgr fun k hk _ => hk
  have hb1 : Blk w' r 31 #[.int .i64 Z.last, V 0, V 1, V 2, V 3] := h.blk.of (hf.block r h.blk.lt fun e => h.ne_r hi4 e rfl)
  have hform : ∃ A' c', v' = .slice A' ((Z.rows i).length + 1) c' := by
    rcases ho'.2 with ⟨e, h0⟩ | ⟨g, cap, cur, e, _⟩
    · omega
    · exact ⟨_, _, e⟩
  refine ⟨v', w', hform, fun ty => hr, ?_, hb1.frozen _, fun Z' hZ1 hZ2 hl => h.turn hi4 hf ?_ (fun k hk => ?_) hZ2 hl⟩
  · rcases hi with rfl | rfl
    · exact hb1.cell 2
    · exact hb1.cell 3
  · rw [hZ1, hty, hsz, List.length_append, List.flatten_append, List.flatten_singleton]
    exact ho'
  · rcases hat with e | e
    · left; rw [← e]; exact hk
    · right
      rw [hk] at e
      have e' : k = (w.alloc (.cells #[.int .i64 p.1, .int .i64 p.2] 68)).heap.size := by simpa using e
      omega

/-- One cell of a task turns. -/
theorem RAt.tset (h : RAt w r V Z) {k g o j : Nat} {T T' : ZT} {x : Value} (hT : Z.tasks[k]? = some T) (hA : TaskAt w (V 0) k T g o) (hj : j < 4) (hc : T'.cells = T.cells.set j x) :
    PRr r V w V { Z with tasks := Z.tasks.set k T' } (w.setCell ⟨g, o + j, none⟩ x) := by
  have hk := (List.getElem?_eq_some_iff.1 hT).1
  have hl : (Z.rows 0).length = Z.tasks.length := by simp [ZS.rows]
  have hg : (Z.rows 0).getD k [] = T.cells := by
    show (Z.tasks.map ZT.cells).getD k [] = _
    rw [List.getD_eq_getElem?_getD, List.getElem?_map, hT]; rfl
  rw [hA.off]
  refine h.store (i := 0) (k := k) (j := j) (by omega) (by omega) hj hA.own x ?_ (fun m hm hne => ?_) rfl
  · rw [hg, ← hc]
    show (Z.tasks.set k T').map ZT.cells = (Z.tasks.map ZT.cells).set k T'.cells
    rw [List.map_set]
  · have : m = 1 ∨ m = 2 ∨ m = 3 := by omega
    rcases this with rfl | rfl | rfl <;> rfl
/-- The place of another world in which the task lies the same. -/
theorem TaskAt.of {k g o : Nat} {T : ZT} (hA : TaskAt w v k T g o) (hb : w'.heap[g]? = w.heap[g]?) : TaskAt w' v k T g o :=
  ⟨hA.own, hA.off, hA.ix, by rw [World.cell?_of_block hb]; exact hA.n, by rw [World.cell?_of_block hb]; exact hA.kind, by rw [World.cell?_of_block hb]; exact hA.num, by rw [World.cell?_of_block hb]; exact hA.picks, fun j hj => by rw [World.frozen?_of_block hb]; exact hA.frozen j hj⟩
end

/-! ### Picks -/
set_option maxHeartbeats 400000 in
theorem zpicks_no (r : Nat) (V : Nat → Value) (Z : ZS) (t : Int) (w : World) (h : RAt w r V Z) (hno : Z.Hasnt t) :
    Calls Try.prog 19 #[.pointer (some ⟨r, 0, none⟩), .int .i64 t] w fun e w' => e = .returned (.int .i64 0) ∧ w = w' := by
  have hf := zfind_no r V Z t w h hno
  clear h hno
  go_enter Try.func19, Try.ntmps19
  go_wp2_with (go_at_call 39; refine hf.mono ?_; rintro e w' ⟨rfl, rfl⟩)
  go_ret
  exact ⟨rfl, rfl⟩
set_option maxHeartbeats 400000 in
theorem zpicks_yes (r : Nat) (V : Nat → Value) (Z : ZS) (t : Int) (p : Nat) (P : ZT) (w : World) (h : RAt w r V Z) (hP : Z.Has t p P) :
    Calls Try.prog 19 #[.pointer (some ⟨r, 0, none⟩), .int .i64 t] w fun e w' => e = .returned (.int .i64 P.picks) ∧ w = w' := by
  have hf := zfind_yes r V Z t p P w h hP
  obtain ⟨_, c1, _⟩ := h.cells
  obtain ⟨g, o, hA⟩ := h.task hP.get
  have hix := hA.ix
  have hpk := hA.picks
  clear h hP hA
  go_enter Try.func19, Try.ntmps19
  go_wp2_with (go_at_call 39; refine hf.mono ?_; rintro e w' ⟨rfl, rfl⟩)
  go_ret
  exact ⟨rfl, rfl⟩

/-! ### Ready, Stuck -/
def ZS.rdyTo (Z : ZS) (k : Nat) : List Int := ((Z.tasks.take k).filter fun T => T.kind == 0).map ZT.n
def ZS.ready (Z : ZS) : List Int := (Z.tasks.filter fun T => T.kind == 0).map ZT.n
theorem rdyTo_all (Z : ZS) {k : Nat} (h : Z.tasks.length ≤ k) : Z.rdyTo k = Z.ready := by unfold ZS.rdyTo ZS.ready; rw [List.take_of_length_le h]
theorem rdyTo_succ {Z : ZS} {k : Nat} {T : ZT} (h : Z.tasks[k]? = some T) : Z.rdyTo (k + 1) = Z.rdyTo k ++ if T.kind == 0 then [T.n] else [] := by
  unfold ZS.rdyTo
  rw [List.take_add_one, h, List.filter_append, List.map_append]
  congr 1
  simp only [Option.toList, List.filter_cons, List.filter_nil]
  split <;> rfl
theorem rdyTo_len (Z : ZS) (k : Nat) : (Z.rdyTo k).length ≤ Z.tasks.length := by
  unfold ZS.rdyTo
  rw [List.length_map]
  refine Nat.le_trans (List.length_filter_le _ _) ?_
  rw [List.length_take]; omega

set_option maxRecDepth 100000 in
set_option maxHeartbeats 1000000 in
theorem zready (r : Nat) (V : Nat → Value) (Z : ZS) (w : World) (h : RAt w r V Z) (h64 : Z.tasks.length ≤ 64) :
    Calls Try.prog 13 #[.pointer (some ⟨r, 0, none⟩)] w fun e w' => ∃ v, e = .returned v ∧ Own w w' v Z.ready ∧ Fr No w w' := by
  have HH := Lib.hid h
  clear h
  go_enter Try.func13, Try.ntmps13
  go_wp2
  go_loopw [3, 4] (fun v iv wr => ∃ k : Nat, k ≤ Z.tasks.length ∧ iv = .int .i64 k ∧ Own w wr v (Z.rdyTo k) ∧ Fr No w wr) (fun _ iv _ => Z.tasks.length - (intOf iv).toNat)
  case atStart => exact ⟨0, Nat.zero_le _, rfl, World.ownsRow_nil _ _ 3 1, Fr.refl _ _⟩
  case round =>
    obtain ⟨k, hk, rfl, ho, hf⟩ := hrel
    have HO := Lib.hid ho
    have HF := Lib.hid hf
    have hR := HH.out.keep hf
    obtain ⟨_, c1, _⟩ := hR.cells
    have hlen := hR.tlen
    clear ho hf
    by_cases hlt : k < Z.tasks.length
    · obtain ⟨T, hT⟩ : ∃ T, Z.tasks[k]? = some T := ⟨_, List.getElem?_eq_getElem hlt⟩
      obtain ⟨g, o, hA⟩ := hR.task hT
      have hix := hA.ix
      have hn := hA.n
      have hkd := hA.kind
      have hs := rdyTo_succ hT
      clear hA hT hR
      by_cases e : T.kind = 0
      · rw [if_pos (by simp [e])] at hs
        have HS := Lib.hid hs
        rw [e] at hkd
        obtain ⟨v', w1, hr, ho1, hf1⟩ := own_add HO.out HF.out T.n (by have := rdyTo_len Z k; omega)
        have HAd := Lib.hid hr
        have HO1 := Lib.hid ho1
        have HF1 := Lib.hid hf1
        clear hr ho1 hf1 hs e
        go_wp2_with (at_builtin; refine wpList_add rfl _ _ rfl _ _ _ _ rfl rfl (HAd.out _) ?_)
        go_roundw
        case rel => exact ⟨k + 1, by omega, by go_num, by rw [HS.out]; exact HO1.out, HF1.out⟩
        case measure => simp [intOf]; omega
      · have hne : (T.kind == 0) = false := by simpa using e
        rw [hne] at hs
        have HS := Lib.hid hs
        clear hs e
        go_wp2
        go_roundw
        case rel => exact ⟨k + 1, by omega, by go_num, by rw [HS.out]; simpa using HO.out, HF.out⟩
        case measure => simp [intOf]; omega
    · have HS := Lib.hid (rdyTo_all Z (k := k) (by omega))
      clear hR
      go_wp2
      go_ret
      exact ⟨_, rfl, by rw [← HS.out]; exact HO.out, HF.out⟩

def ZS.stuck (Z : ZS) : Bool := !Z.tasks.isEmpty && Z.ready.isEmpty
set_option maxRecDepth 100000 in
set_option maxHeartbeats 1000000 in
theorem zstuck (r : Nat) (V : Nat → Value) (Z : ZS) (w : World) (h : RAt w r V Z) (h64 : Z.tasks.length ≤ 64) :
    Calls Try.prog 15 #[.pointer (some ⟨r, 0, none⟩)] w fun e w' => e = .returned (.bool Z.stuck) ∧ Fr No w w' := by
  have hr := zready r V Z w h h64
  obtain ⟨_, c1, _⟩ := h.cells
  have hlen := h.tlen
  by_cases h0 : Z.tasks.length = 0
  · have hst : Z.stuck = false := by unfold ZS.stuck; rw [List.eq_nil_of_length_eq_zero h0]; rfl
    rw [hst]
    have hlen' : ∀ ty W, (Builtin.len_ #[27] ty #[V 0]).run Try.prog W = .ok (.int .i64 0) W := fun ty W => by rw [hlen, h0]; rfl
    clear h hr hlen h0 hst
    go_enter Try.func15, Try.ntmps15
    go_wp2
    go_ret
    exact ⟨rfl, Fr.refl _ _⟩
  · have hpos : (0 : Int) < (Z.tasks.length : Int) := by omega
    have hst : Z.stuck = ((Z.ready.length : Int) == 0) := by
      unfold ZS.stuck
      have : Z.tasks.isEmpty = false := by cases hz : Z.tasks with
        | nil => rw [hz] at h0; simp at h0
        | cons => rfl
      rw [this]
      cases Z.ready with
      | nil => rfl
      | cons a l => simp; omega
    rw [hst]
    have HR := Lib.hid hr
    clear h hr h0 hst
    go_enter Try.func15, Try.ntmps15
    go_wp2_with (go_at_call 13; refine HR.out.mono ?_; rintro e w1 ⟨v, rfl, ho, hf⟩; have hlv := fun ty W => own_len ho ty W; have HF := Lib.hid hf; clear ho hf)
    go_ret
    exact ⟨rfl, HF.out⟩

end Go.Proofs.Ytnonidoeakhfdaa
