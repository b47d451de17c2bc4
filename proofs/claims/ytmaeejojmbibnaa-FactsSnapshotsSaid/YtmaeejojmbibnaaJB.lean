/- Told facts appended to a law's row; appending nothing. -/
import Derived.Test.YtmaeejojmbibnaaJA
import Derived.Laws.AppendOwnNone
import Derived.Deep.Upon
namespace Go.Proofs.Ytmaeejojmbibnaa
open Go.RowKit Go.Maps
set_option linter.unusedVariables false

theorem run_append_none0 {P : Program} (w : World) (t ty e : TypeId) (i : TypeInfo) (ht : P.underlying t = some (.slice e)) (hi : P.info? e = some i) (b : Option Addr) (n c : Nat) (hle : n ≤ c) (A : Option Addr) (c2 : Nat) :
    (Builtin.append_ #[t, t] ty #[.slice b n c, .slice A 0 c2]).run P w = .ok (.slice b n c) w := by
  cases b <;> cases A <;> simp [Builtin.append_, run_underlying ht, sizeOf, typeInfo, hi, hle, storeCells, loadCells, loadCellsFrom, Builtin.lenOf, Builtin.firstCells]
theorem wpList_append_nothing {P : Program} {w : World} {ops : Array Oper} {rest : List Oper} {o : Oper} {a : Act} {Q : Exit → Act → World → Prop} (hgd : o.guard = none) (s x : Operand) (t : TypeId)
    (ho : o.op = .call { callee := .builtin .append, args := #[s, x], argTypes := #[t, t] })
    (e : TypeId) (i : TypeInfo) (ht : P.underlying t = some (.slice e)) (hi : P.info? e = some i)
    (b : Option Addr) (n c : Nat) (hle : n ≤ c) (hs : a.eval s = .slice b n c) (A : Option Addr) (c2 : Nat) (hx : a.eval x = .slice A 0 c2)
    (h : wpList P ops Q rest (a.put o.dst (.slice b n c)) w) : wpList P ops Q (o :: rest) a w := by
  refine wpList_plain hgd fun K hK => ?_
  have hrun := run_append_none0 (P := P) w t o.type e i ht hi b n c hle A c2
  unfold Oper.wp
  simp [execOp, ho, resolve, invoke, builtin, hs, hx, hrun, Result.andThen]
  exact hK _ _ h
theorem own_cap {w : World} {b n s : Nat} {e : TypeId} {A : Option Addr} {c : Nat} {xs : List Value} (h : w.ownsRow b e s (.slice A n c) n xs) : n ≤ c := by
  rcases h.2 with ⟨e1, _⟩ | ⟨g, cap', cur, e1, _, _, hnc, _⟩
  · injection e1 with _ e2 e3; omega
  · injection e1 with _ _ e3; omega
/-- Told facts behind a law's row. -/
theorem LF2.join {hr h0 hs K M g2 c2 : Nat} {w w3 : World} {v v' : Value} {l1 l2 : List FactP} {xs : List Value} (ho : w.ownsRow hr 51 2 v l1.length xs) (hlen : l1.length + l2.length ≤ 100000)
    (hop : ∀ i (hi : i < l1.length), ∃ dv mv, xs[i * 2]? = some dv ∧ xs[i * 2 + 1]? = some mv ∧ RowE (LK h0 w) w 1 strE dv l1[i].dims ∧ RowE (LK h0 w) w 1 intE mv l1[i].meas)
    (hh : h0 ≤ hs) (da ma : Nat → Nat) (b : Bks w hs l2.length K M da ma (TL l2) (ML l2)) (hfit : ∀ f ∈ l2, f.Fits K M ∧ f.Ok) (hK : K ≤ 6) (hM : M ≤ 4) (hg : w.grownBy w3 v.ownBlock)
    (ho3 : w3.ownsRow hr 51 2 v' (l1.length + l2.length) (xs ++ fcells K M da ma l2.length)) : LF2 hr h0 w3 v' (l1 ++ l2) := by
  have hfr : Fr (fun k => v.ownBlock = some k) w w3 := (Fr.refl _ w).grown hg fun k hk _ => hk
  have hoff : ∀ k, LK h0 w k → k < w.heap.size → LK h0 w3 k ∧ w3.heap[k]? = w.heap[k]? := by
    rintro k ⟨h1, cs, t, hb, ht⟩ hlt
    have e := hfr.block k hlt fun e => by
      obtain ⟨cur, hc⟩ := own_row ho e
      exact Blk.ne_ hb hc ht rfl
    exact ⟨⟨h1, cs, t, hb.of e, ht⟩, e⟩
  have hxs : xs.length = l1.length * 2 := ho.1
  refine ⟨xs ++ fcells K M da ma l2.length, by rw [List.length_append]; exact ho3, by rw [List.length_append]; exact hlen, fun i hi => ?_⟩
  by_cases e : i < l1.length
  · obtain ⟨dv', mv', c1, c2, r1, r2⟩ := hop i e
    have el : (l1 ++ l2)[i] = l1[i] := by rw [List.getElem_append_left e]
    rw [el]
    refine ⟨dv', mv', ?_, ?_, r1.of hfr.size hoff fun _ _ _ h => h, r2.of hfr.size hoff fun _ _ _ h => h⟩
    · rw [List.getElem?_append_left (by omega)]; exact c1
    · rw [List.getElem?_append_left (by omega)]; exact c2
  · obtain ⟨j, rfl⟩ : ∃ j, i = l1.length + j := ⟨i - l1.length, by omega⟩
    have hj : j < l2.length := by rw [List.length_append] at hi; omega
    have el : (l1 ++ l2)[l1.length + j] = l2[j] := by
      rw [List.getElem_append_right (by omega)]
      congr 1; omega
    rw [el]
    obtain ⟨hfj, hok⟩ := hfit _ (List.getElem_mem hj)
    obtain ⟨cs, b1, b2, b3⟩ := b.db j hj
    obtain ⟨ms, m1, m2, m3⟩ := b.mb j hj
    have hb1 := hoff _ ⟨Nat.le_trans hh (b.lo j hj).1, cs, 9, b1, by decide⟩ b1.lt
    have hb2 := hoff _ ⟨Nat.le_trans hh (b.lo j hj).2, ms, 2, m1, by decide⟩ m1.lt
    have b1' := b1.of hb1.2
    have m1' := m1.of hb2.2
    refine ⟨_, _, ?_, ?_, ⟨some ⟨da j, 0, none⟩, K, by rw [hfj.1], by rw [hfj.1]; unfold maxLen; omega, fun _ => ⟨da j, 0, rfl, hb1.1, b1'.lt, fun d hd => ?_⟩⟩, ⟨some ⟨ma j, 0, none⟩, M, by rw [hfj.2.1], by rw [hfj.2.1]; unfold maxLen; omega, fun _ => ⟨ma j, 0, rfl, hb2.1, m1'.lt, fun d hd => ?_⟩⟩⟩
    · rw [List.getElem?_append_right (by omega), hxs, show (l1.length + j) * 2 - l1.length * 2 = j * 2 + 0 by omega]
      exact fcells_at K M da ma l2.length j hj 0 (by omega)
    · rw [List.getElem?_append_right (by omega), hxs, show (l1.length + j) * 2 + 1 - l1.length * 2 = j * 2 + 1 by omega]
      exact fcells_at K M da ma l2.length j hj 1 (by omega)
    · have hd' : d < K := by rw [← hfj.1]; exact hd
      refine ⟨[encT l2[j].dims[d]], rfl, fun i hi => ?_, rfl, ?_⟩
      · obtain rfl : i = 0 := by omega
        rw [Nat.zero_add, Nat.mul_one, Nat.add_zero, b1'.cell, b3 d hd']
        unfold TL
        rw [fat_eq hj, dim_get hd]; rfl
      · have := hfj.2.2 _ (List.getElem_mem hd)
        unfold maxLen; omega
    · have hd' : d < M := by rw [← hfj.2.1]; exact hd
      refine ⟨[.int .i64 l2[j].meas[d]], rfl, fun i hi => ?_, rfl, ?_⟩
      · obtain rfl : i = 0 := by omega
        rw [Nat.zero_add, Nat.mul_one, Nat.add_zero, m1'.cell, m3 d hd']
        unfold ML
        rw [fat_eq hj, mea_get hd]; rfl
      · exact hok _ (List.getElem_mem hd)
end Go.Proofs.Ytmaeejojmbibnaa
