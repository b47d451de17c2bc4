/- A whole row behind a row of one's own. -/
import Derived.Test.YthejnkpnpckmbaaD3
import Derived.Test.YthejnkpnpckmbaaP4
import Derived.Deep.Upon
namespace Go.Proofs.Ythejnkpnpckmbaa
open Go.RowKit Go.Maps
set_option linter.unusedVariables false

theorem run_append_none0 {P : Program} (w : World) (t ty e : TypeId) (i : TypeInfo) (ht : P.underlying t = some (.slice e)) (hi : P.info? e = some i) (b : Option Addr) (n c : Nat) (hle : n ≤ c) (A : Option Addr) (c2 : Nat) :
    (Builtin.append_ #[t, t] ty #[.slice b n c, .slice A 0 c2]).run P w = .ok (.slice b n c) w := by
  cases b <;> cases A <;> simp [Builtin.append_, run_underlying ht, sizeOf, typeInfo, hi, hle, storeCells, loadCells, loadCellsFrom, Builtin.lenOf, Builtin.firstCells]
theorem own_cap {w : World} {b n s : Nat} {e : TypeId} {A : Option Addr} {c : Nat} {xs : List Value} (h : w.ownsRow b e s (.slice A n c) n xs) : n ≤ c := by
  rcases h.2 with ⟨e1, _⟩ | ⟨g, cap', cur, e1, _, _, hnc, _⟩
  · injection e1 with _ e2 e3; omega
  · injection e1 with _ _ e3; omega
theorem GrowK.join {α : Type} {K K' : Nat → Prop} {e size bytes : Nat} {E : EG α} (hE : Elem E) {w : World} {A : Option Addr} {c : Nat} {l : List α} (h : GrowK K 0 e size E w (.slice A l.length c) l)
    (t : TypeId) (ht : Try.prog.underlying t = some (.slice e)) (z : Value) (hinfo : (Try.prog.info? e).map (fun i => (i.zero, i.size, i.bytes)) = some (some z, size, bytes)) (hzs : z.cells.size = size) (hsz : 0 < size)
    {u : Value} {m : List α} (hu : RowE K' w size (E K w) u m) (hone : ∀ x cs, E K w x cs → ∀ y ∈ cs, y.oneCell' = true) (hlen : (l.length + m.length) * bytes ≤ 140737488355328) (hmax : l.length + m.length ≤ maxLen) :
    ∃ A' c' w', (∀ ty, (Builtin.append_ #[t, t] ty #[.slice A l.length c, u]).run Try.prog w = .ok (.slice A' (l.length + m.length) c') w') ∧ GrowK K 0 e size E w' (.slice A' (l.length + m.length) c') (l ++ m) ∧
      Fr (fun k => (Value.slice A l.length c).ownBlock = some k) w w' ∧ (∀ k, (Value.slice A' (l.length + m.length) c').ownBlock = some k → (Value.slice A l.length c).ownBlock = some k ∨ w.heap.size ≤ k) := by
  obtain ⟨xs, ho, hel, hK⟩ := h
  obtain ⟨i0, hi, hz0, hz1, hz2⟩ := info_parts hinfo
  obtain ⟨A2, c2, rfl, h1, h2, hrow⟩ := hu
  rcases Nat.eq_zero_or_pos m.length with h0 | h0
  · have hm : m = [] := List.length_eq_zero_iff.1 h0
    subst hm
    refine ⟨A, c, w, fun ty => ?_, ?_, Fr.refl _ _, fun k hk => .inl hk⟩
    · exact run_append_none0 (P := Try.prog) w t ty e i0 ht hi A l.length c (own_cap ho) A2 c2
    · rw [List.append_nil]; exact ⟨xs, ho, hel, hK⟩
  · obtain ⟨g, off, rfl, hKg, hg, hcell⟩ := hrow h0
    have hat : ∀ k, k < m.length * size → ∃ y, w.cell? ⟨g, off + k, none⟩ = some y ∧ y.oneCell' = true := fun k hk => by
      have hd : k / size < m.length := Nat.div_lt_of_lt_mul (by rw [Nat.mul_comm]; exact hk)
      obtain ⟨cs, q1, q2, q3⟩ := hcell (k / size) hd
      have hm := Nat.mod_lt k hsz
      have hq := q2 (k % size) hm
      have e1 : off + k / size * size + k % size = off + k := by rw [Nat.add_assoc, Nat.div_add_mod']
      rw [e1, List.getElem?_eq_getElem (by omega)] at hq
      exact ⟨_, hq, hone _ _ q3 _ (List.getElem_mem _)⟩
    let news : List Value := (List.range (m.length * size)).map fun k => (w.cell? ⟨g, off + k, none⟩).getD (.bool false)
    have hnl : news.length = m.length * size := by simp [news]
    have hnth : ∀ k, k < m.length * size → news[k]? = w.cell? ⟨g, off + k, none⟩ := fun k hk => by
      obtain ⟨y, hy, _⟩ := hat k hk
      simp only [news]
      rw [List.getElem?_map, List.getElem?_range hk, Option.map_some, hy]; rfl
    have hnews : ∀ j y, news[j]? = some y → w.cell? ((⟨g, off, none⟩ : Addr).add j) = some y := fun j y hj => by
      have hlt := (List.getElem?_eq_some_iff.1 hj).1
      rw [Addr.add_lit, ← hnth j (by omega)]; exact hj
    have hnone : ∀ y ∈ news, y.oneCell' = true := fun y hy => by
      obtain ⟨j, hj, rfl⟩ := List.mem_iff_getElem.1 hy
      obtain ⟨y, hy1, hy2⟩ := hat j (by omega)
      have := hnth j (by omega)
      rw [hy1, List.getElem?_eq_getElem hj] at this
      rw [Option.some.inj this]; exact hy2
    obtain ⟨v', w', hr, how, hgr, hnil, hat2⟩ := run_append_own_at (P := Try.prog) w 0 t 0 e i0 z size bytes ht hi hz0 hz1 hz2 hzs hsz (.slice A l.length c) l.length xs ho ⟨g, off, none⟩ m.length c2 news hnl hnews hnone hmax hlen (Nat.zero_le _)
    have hv' : ∃ A' c', v' = .slice A' (l.length + m.length) c' := by
      rcases how.2 with ⟨e1, h0'⟩ | ⟨g', cap, cur, e1, _⟩
      · omega
      · exact ⟨_, _, e1⟩
    obtain ⟨A', c', rfl⟩ := hv'
    have hfr : Fr (fun k => (Value.slice A l.length c).ownBlock = some k) w w' := (Fr.refl _ w).grown hgr fun k hk _ => hk
    have hatk : ∀ j, (Value.slice A' (l.length + m.length) c').ownBlock = some j → (Value.slice A l.length c).ownBlock = some j ∨ j = w.heap.size := fun j hj => by
      rcases hat2 with e1 | e1
      · exact .inl (e1 ▸ hj)
      · rw [hj] at e1; exact .inr (Option.some.inj e1)
    have hKk : ∀ k, K k → k < w.heap.size → K k ∧ w'.heap[k]? = w.heap[k]? := fun k hk hlt => ⟨hk, hfr.block k hlt (hK k hk).2.2⟩
    refine ⟨A', c', w', fun ty => hr, ⟨xs ++ news, by simpa using how, fun j hj => ?_, fun k hk => ?_⟩, hfr, fun k hk => ?_⟩
    · rw [List.length_append] at hj
      by_cases hjl : j < l.length
      · obtain ⟨cs', q1, q2, q3⟩ := hel j hjl
        refine ⟨cs', q1, fun i hi' => ?_, ?_⟩
        · have hlt : j * size + i < xs.length := by
            rw [ho.1]
            have := Nat.mul_le_mul_right size (show j + 1 ≤ l.length by omega)
            rw [Nat.add_mul, Nat.one_mul] at this
            omega
          rw [List.getElem?_append_left hlt]; exact q2 i hi'
        · rw [List.getElem_append_left hjl]
          exact hE.mono _ _ _ _ _ _ q3 hKk
      · obtain ⟨q, rfl⟩ : ∃ q, j = l.length + q := ⟨j - l.length, by omega⟩
        have hq : q < m.length := by omega
        obtain ⟨cs', q1, q2, q3⟩ := hcell q hq
        refine ⟨cs', q1, fun i hi' => ?_, ?_⟩
        · have e3 : (l.length + q) * size + i - xs.length = q * size + i := by rw [ho.1, Nat.add_mul]; omega
          have hlt : q * size + i < m.length * size := by
            have := Nat.mul_le_mul_right size (show q + 1 ≤ m.length by omega)
            rw [Nat.add_mul, Nat.one_mul] at this
            omega
          rw [List.getElem?_append_right (by rw [ho.1, Nat.add_mul]; omega), e3, hnth _ hlt, ← Nat.add_assoc]
          exact q2 i hi'
        · rw [List.getElem_append_right (by omega)]
          simp only [Nat.add_sub_cancel_left]
          exact hE.mono _ _ _ _ _ _ q3 hKk
    · obtain ⟨q1, q2, q3⟩ := hK k hk
      refine ⟨q1, by have := hfr.size; omega, fun e1 => ?_⟩
      rcases hatk k e1 with e2 | e2
      · exact q3 e2
      · omega
    · rcases hatk k hk with e1 | e1
      · exact .inl e1
      · exact .inr (by omega)
theorem gp_one {K : Nat → Prop} {w : World} (x : Gp) (cs : List Value) (h : gpG K w x cs) : ∀ y ∈ cs, y.oneCell' = true := by
  obtain ⟨a, b, rfl, _, hA, hB⟩ := h
  obtain ⟨A1, c1, rfl, _⟩ := hA
  obtain ⟨A2, c2, rfl, _⟩ := hB
  intro y hy
  simp at hy
  rcases hy with rfl | rfl | rfl <;> rfl
end Go.Proofs.Ythejnkpnpckmbaa
