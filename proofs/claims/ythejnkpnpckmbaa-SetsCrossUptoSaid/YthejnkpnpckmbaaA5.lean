/- Rows that grow by one; List. -/
import Derived.Test.YthejnkpnpckmbaaA4
namespace Go.Proofs.Ythejnkpnpckmbaa
open Go.RowKit Go.Maps
set_option linter.unusedVariables false

section
variable {ops : Array Oper} {rest : List Oper} {o : Oper} {a : Act} {Q : Exit → Act → World → Prop} {w : World}
/-- append, by what it comes to. -/
theorem wpList_add (hgd : o.guard = none) (sl x : Operand) (t1 t2 : TypeId) (ho : o.op = .call { callee := .builtin .append, args := #[sl, x], argTypes := #[t1, t2] })
    (v v' xv : Value) (w1 : World) (hs : a.eval sl = v) (hx : a.eval x = xv) (hr : (Builtin.append_ #[t1, t2] o.type #[v, xv]).run Try.prog w = .ok v' w1)
    (h : wpList Try.prog ops Q rest (a.put o.dst v') w1) : wpList Try.prog ops Q (o :: rest) a w := by
  refine wpList_plain hgd fun K hK => ?_
  unfold Oper.wp execOp
  simp only [ho, resolve, invoke, builtin, Sem.run_bind, Sem.run_pure, Result.andThen_ok, List.map_toArray, List.map_cons, List.map_nil, hs, hx, hr]
  exact hK _ _ h
end
theorem Grow.empty {α : Type} (b e size : Nat) (E : EG α) (w : World) (hb : b ≤ w.heap.size) (x : Array Value) (hx : x = #[]) : Grow b e size E (w.alloc (.cells x e)) (.slice (some ⟨w.heap.size, 0, none⟩) 0 0) [] := by
  subst hx
  refine ⟨fun _ => False, [], ⟨by simp, .inr ⟨w.heap.size, 0, #[], rfl, hb, heap_alloc_new w _, Nat.le_refl _, by decide, by simp, by simp⟩⟩, fun j hj => absurd hj (by simp), fun k hk => hk.elim⟩
theorem Grow.nil_ {α : Type} (b e size : Nat) (E : EG α) (w : World) : Grow b e size E w (.slice none 0 0) [] := by
  refine ⟨fun _ => False, [], ⟨by simp, .inl ⟨rfl, rfl⟩⟩, fun j hj => absurd hj (by simp), fun k hk => hk.elim⟩
/-- One more in a row of one-cell elements; the row lies in blocks from b on. -/
theorem Grow.push {α : Type} {b e bytes : Nat} {E : EG α} (hE : Elem E) {w0 w : World} {v : Value} {l : List α} (hg : Grow b e 1 E w v l) (hb : b = w0.heap.size) (hf : Fr No w0 w)
    (t : TypeId) (ht : Try.prog.underlying t = some (.slice e)) (z : Value) (hinfo : (Try.prog.info? e).map (fun i => (i.zero, i.size, i.bytes)) = some (some z, 1, bytes)) (hzs : z.cells.size = 1)
    (x : α) (u : Value) (hone : u.oneCell' = true) (hx : E (fun k => w.heap.size ≤ k) w x [u]) (hlen : (l.length + 1) * bytes ≤ 140737488355328) (hmax : l.length + 1 ≤ maxLen) :
    ∃ A c w', (∀ ty, (Builtin.append_ #[t, t] ty #[v, .slice (some ⟨w.heap.size, 0, none⟩) 1 1]).run Try.prog (w.alloc (.cells #[u] e)) = .ok (.slice A (l.length + 1) c) w') ∧ Grow b e 1 E w' (.slice A (l.length + 1) c) (l ++ [x]) ∧ Fr No w0 w' ∧ Fr (fun k => v.ownBlock = some k) w w' ∧ ∀ k, (Value.slice A (l.length + 1) c).ownBlock = some k → v.ownBlock = some k ∨ w.heap.size ≤ k := by
  obtain ⟨A, c, w', hrun, hg', hf', hlt⟩ := Grow.more (bytes := bytes) hE (w0 := w) hg (by rw [hb]; exact hf.size) (Nat.le_refl _) (fun k hk => (hg.lt k hk).2) t ht z hinfo hzs (by decide) x [u] rfl (by simp [hone]) hx hlen hmax
  refine ⟨A, c, w', hrun, hg', ?_, hf', fun k hk => (hlt k hk).2⟩
  refine ⟨hf'.os.trans hf.os, hf'.tape.trans hf.tape, hf'.output.trans hf.output, Nat.le_trans hf.size hf'.size, fun k hk _ => ?_⟩
  rw [← hf.block k hk id]
  refine hf'.block k (Nat.lt_of_lt_of_le hk hf.size) fun e1 => ?_
  have := (hg.lt k e1).1
  omega
/-- A call that tells a row of one's own. -/
def TellsR {α : Type} (size : Nat) (E : EG α) (l : List α) (w : World) (e : Ending) (w' : World) : Prop :=
  ∃ v, e = .returned v ∧ RowE (fun k => w.heap.size ≤ k) w' size (E (fun k => w.heap.size ≤ k) w') v l ∧ Fr No w w'
theorem Grow.tells {α : Type} {b e size : Nat} {E : EG α} (hE : Elem E) {w0 w : World} {v : Value} {l : List α} (hg : Grow b e size E w v l) (hb : b = w0.heap.size) (hf : Fr No w0 w) : TellsR size E l w0 (.returned v) w :=
  ⟨v, rfl, by have := hg.row hE; rw [hb] at this; exact this, hf⟩

def listN (s n : Nat) : List Nat := (List.range n).filter fun d => hasB s d
theorem listN_succ (s n : Nat) : listN s (n + 1) = listN s n ++ (if hasB s n then [n] else []) := by
  unfold listN
  rw [List.range_succ, List.filter_append]
  congr 1
  cases h : hasB s n <;> simp [h]
theorem listN_len (s : Nat) : ∀ n, (listN s n).length ≤ n
  | 0 => Nat.le_refl _
  | n + 1 => by
    rw [listN_succ, List.length_append]
    have := listN_len s n
    split <;> simp <;> omega
theorem listB_in {s : Nat} (h : s < 64) : listB (s : Int) = listN s 6 := by
  unfold listB listN
  rw [if_pos (by omega)]
  congr 1
theorem listB_out {s : Int} (h : s < 0 ∨ 64 ≤ s) : listB s = [] := by
  unfold listB
  rw [if_neg (by omega)]
set_option maxRecDepth 100000 in
theorem list_in (s : Nat) (hs : s < 64) (w : World) : Calls Try.prog 8 #[.int .i64 (s : Int)] w (TellsR 1 natG (listN s 6) w) := by
  obtain ⟨B, hB⟩ : ∃ B, w.heap.size = B := ⟨_, rfl⟩
  have HS := Lib.hid hs
  have hlt : (s : Int) < 64 := by omega
  obtain ⟨w1, hw1⟩ : ∃ w1, w.alloc (.cells #[] 3) = w1 := ⟨_, rfl⟩
  have HF1 : Hid (Fr No w w1) := Lib.hid (by rw [← hw1]; exact (Fr.refl No w).alloc _)
  have HG1 : Hid (Grow B 3 1 natG w1 (.slice (some ⟨B, 0, none⟩) 0 0) (listN s 0)) := Lib.hid (by rw [← hw1, ← hB]; exact Grow.empty _ 3 1 natG w (Nat.le_refl _) #[] rfl)
  have HW1 := Lib.hid hw1
  have HB := Lib.hid hB
  clear hw1 hB
  go_enter Try.func8, Try.ntmps8
  go_upto_region 4 with fail
  rw [HW1.out, HB.out]
  go_wp2_with fail
  go_loopg [3, 4, 12] 6 (fun g r3 r4 r12 wr => Hid (∃ (j n : Nat) (A : Option Addr) (c : Nat), r12 = .int .i64 (j : Nat) ∧ j + g = 6 ∧ r3 = .slice A n c ∧ n = (listN s j).length ∧ Grow B 3 1 natG wr (.slice A n c) (listN s j) ∧ Fr No w wr))
  case atStart => exact Lib.hid ⟨0, 0, _, _, rfl, by omega, rfl, rfl, HG1.out, HF1.out⟩
  case round =>
  obtain ⟨j, n, A, c, rfl, hj6, rfl, hn, hg, hf⟩ := hrel.out
  clear hrel
  have HN := Lib.hid hn
  have HG := Lib.hid hg
  have HF := Lib.hid hf
  by_cases hj : j < 6
  · have hji : (j : Int) < 6 := by omega
    obtain ⟨q, hq⟩ : ∃ q, s / 2 ^ j = q := ⟨_, rfl⟩
    have hq64 : q < 64 := by rw [← hq]; exact Nat.lt_of_le_of_lt (Nat.div_le_self _ _) hs
    have hdiv : (s : Int) / (2 : Int) ^ j = (q : Int) := by rw [← hq]; simp
    have hand := i64_and1 q (by omega)
    obtain ⟨m, hm⟩ : ∃ m, q % 2 = m := ⟨_, rfl⟩
    rw [hm] at hand
    have HH : Hid (hasB s j = (m == 1)) := Lib.hid (by unfold hasB; rw [hq, hm])
    have HL := Lib.hid (listN_succ s j)
    have hm2 : m = 0 ∨ m = 1 := by omega
    have hnl : n ≤ 6 := by rw [hn]; have := listN_len s j; omega
    clear hn hf hq hm
    rcases hm2 with rfl | rfl
    · clear hg
      have HT : Hid (listN s (j + 1) = listN s j) := Lib.hid (by rw [HL.out, HH.out]; exact List.append_nil _)
      go_wp2_with fail
      obtain ⟨g1, rfl⟩ : ∃ g1, gk = g1 + 1 := ⟨gk - 1, by omega⟩
      go_roundg g1
      case rel => exact Lib.hid ⟨j + 1, n, A, c, by go_num, by omega, rfl, by rw [HT.out]; exact HN.out, by rw [HT.out]; exact HG.out, HF.out⟩
      all_goals omega
    · have HT : Hid (listN s (j + 1) = listN s j ++ [j]) := Lib.hid (by rw [HL.out, HH.out]; rfl)
      obtain ⟨A', c', w6, hrun, hg6, hf6, _⟩ := Grow.push (bytes := 8) natG_elem hg HB.out.symm HF.out 22 Try.underlying22 (.int .i64 0) (by kernel_rfl) rfl j (.int .i64 j) rfl rfl (by rw [← HN.out]; omega) (by rw [← HN.out]; unfold maxLen; omega)
      rw [← HN.out] at hrun hg6
      have HRUN := Lib.hid hrun
      have HG6 := Lib.hid hg6
      have HF6 := Lib.hid hf6
      clear hg hrun hg6 hf6
      go_wp2_with (at_builtin; refine wpList_add rfl _ _ _ _ rfl _ _ _ _ rfl rfl (HRUN.out _) ?_)
      obtain ⟨g1, rfl⟩ : ∃ g1, gk = g1 + 1 := ⟨gk - 1, by omega⟩
      go_roundg g1
      case rel => exact Lib.hid ⟨j + 1, n + 1, A', c', by go_num, by omega, rfl, by rw [HT.out, List.length_append, ← HN.out]; rfl, by rw [HT.out]; exact HG6.out, HF6.out⟩
      all_goals omega
  · have hji : (6 : Int) ≤ (j : Int) := by omega
    have HT : Hid (listN s j = listN s 6) := Lib.hid (by rw [show j = 6 by omega])
    clear hn hg hf
    go_wp2_with fail
    go_ret
    have := HG.out.tells natG_elem HB.out.symm HF.out
    rw [HT.out] at this
    exact this
set_option maxRecDepth 100000 in
theorem list_out (s : Int) (hs : s < 0 ∨ 64 ≤ s) (w : World) : Calls Try.prog 8 #[.int .i64 s] w (TellsR 1 natG [] w) := by
  have HE : Hid (TellsR 1 natG [] w (.returned (.slice none 0 0)) w) := Lib.hid ⟨_, rfl, RowE.nil _ _ _ _, Fr.refl _ _⟩
  rcases Int.lt_or_le s 0 with h | h
  · clear hs
    go_enter Try.func8, Try.ntmps8
    go_wp2_with fail
    go_ret
    exact HE.out
  · have h2 : (64 : Int) ≤ s := by omega
    clear hs
    go_enter Try.func8, Try.ntmps8
    go_wp2_with fail
    go_ret
    exact HE.out
theorem list_any (s : Int) (w : World) : Calls Try.prog 8 #[.int .i64 s] w (TellsR 1 natG (listB s) w) := by
  by_cases h : 0 ≤ s ∧ s < 64
  · obtain ⟨k, rfl⟩ := Int.eq_ofNat_of_zero_le h.1
    rw [listB_in (by omega)]
    exact list_in k (by omega) w
  · rw [listB_out (by omega)]
    exact list_out s (by omega) w
end Go.Proofs.Ythejnkpnpckmbaa
