/- Rows of ints that begin anywhere in a block of their own: appended to, read, cut at their front. -/
import Derived.Test.YtnonidoeakhfdaaA1
import Derived.Lib.SlKeysI
namespace Go.Proofs.Ytnonidoeakhfdaa
open Go.RowKit Go.Maps
set_option linter.unusedVariables false

theorem info3 : (Try.prog.info? 3).map (fun i => (i.zero, i.size, i.bytes)) = some (some (.int .i64 0), 1, 8) := by kernel_rfl

/-- v is a row of ints in a block of its own, and reads as l. -/
def RowZ (w : World) (v : Value) (l : List Int) : Prop :=
  (v = .slice none 0 0 ∧ l = []) ∨
  ∃ g off cap cur, v = .slice (some ⟨g, off, none⟩) l.length cap ∧ w.heap[g]? = some (.cells cur 3 (0, 0)) ∧ l.length ≤ cap ∧ cap ≤ maxLen ∧ off + cap ≤ cur.size ∧ (cur.toList.drop off).take l.length = l.map encZ

theorem RowZ.nil (w : World) : RowZ w (.slice none 0 0) [] := .inl ⟨rfl, rfl⟩

theorem RowZ.of {w w' : World} {v : Value} {l : List Int} (h : RowZ w v l) (hk : ∀ k, v.ownBlock = some k → w'.heap[k]? = w.heap[k]?) : RowZ w' v l := by
  rcases h with h | ⟨g, off, cap, cur, rfl, hg, r⟩
  · exact .inl h
  · exact .inr ⟨g, off, cap, cur, rfl, (hk g rfl).trans hg, r⟩

theorem RowZ.block {w : World} {v : Value} {l : List Int} (h : RowZ w v l) {k : Nat} (hk : v.ownBlock = some k) : ∃ cur, w.heap[k]? = some (.cells cur 3 (0, 0)) := by
  rcases h with ⟨rfl, _⟩ | ⟨g, off, cap, cur, rfl, hg, r⟩
  · simp [Value.ownBlock] at hk
  · simp [Value.ownBlock] at hk; subst hk; exact ⟨cur, hg⟩

theorem RowZ.lt {w : World} {v : Value} {l : List Int} (h : RowZ w v l) {k : Nat} (hk : v.ownBlock = some k) : k < w.heap.size := by
  obtain ⟨cur, hc⟩ := h.block hk
  rcases Nat.lt_or_ge k w.heap.size with hlt | hge
  · exact hlt
  · rw [Array.getElem?_eq_none hge] at hc; cases hc

theorem RowZ.len {w : World} {v : Value} {l : List Int} (h : RowZ w v l) : ∃ A c, v = .slice A l.length c := by
  rcases h with ⟨rfl, rfl⟩ | ⟨g, off, cap, cur, rfl, _⟩
  · exact ⟨_, _, rfl⟩
  · exact ⟨_, _, rfl⟩

/-- The first of it. -/
theorem RowZ.head {w : World} {v : Value} {x : Int} {l : List Int} (h : RowZ w v (x :: l)) :
    ∃ g off cap, v = .slice (some ⟨g, off, none⟩) (l.length + 1) cap ∧ w.cell? ⟨g, off, none⟩ = some (.int .i64 x) ∧ 0 < cap := by
  rcases h with ⟨_, h⟩ | ⟨g, off, cap, cur, rfl, hg, h1, h2, h3, h4⟩
  · cases h
  · refine ⟨g, off, cap, by simp, ?_, by simp at h1; omega⟩
    rw [cell_of_row w g off cur 3 (0, 0) hg]
    have : ((cur.toList.drop off).take (x :: l).length)[0]? = some (encZ x) := by rw [h4]; rfl
    rw [List.getElem?_take, if_pos (by simp), List.getElem?_drop] at this
    simpa using this

/-- append(v, x). -/
theorem RowZ.run_add {w : World} {v : Value} {l : List Int} (h : RowZ w v l) (x : Int) (ty : TypeId) (a : Addr) (c : Nat) (hx : w.cell? a = some (.int .i64 x)) (hlen : l.length + 1 ≤ 1000000000000) :
    ∃ v' w', (Builtin.append_ #[29, 29] ty #[v, .slice (some a) 1 c]).run Try.prog w = .ok v' w' ∧ RowZ w' v' (l ++ [x]) ∧ w.grownBy w' v.ownBlock ∧ (∀ k, v'.ownBlock = some k → v.ownBlock = some k ∨ k = w.heap.size) := by
  obtain ⟨i0, hi, hz0, hz1, hz2⟩ := info_parts info3
  have hnews : ∀ j u, [encZ x][j]? = some u → w.cell? (a.add j) = some u := by
    intro j u hj
    match j, hj with
    | 0, hj =>
      simp at hj; subst hj
      obtain ⟨b, o, m⟩ := a
      cases m with
      | none => simpa [Addr.add] using hx
      | some m => simpa [Addr.add] using hx
  rcases h with ⟨rfl, rfl⟩ | ⟨g, off, cap, cur, rfl, hg, hnc, hcm, hcs, htk⟩
  · obtain ⟨v', w', hr, ho, hgr, hnn, hat⟩ := run_append_own_at (P := Try.prog) w w.heap.size 29 ty 3 i0 (.int .i64 0) 1 8 Try.underlying29 hi hz0 hz1 hz2 rfl (by omega) (.slice none 0 0) 0 [] (World.ownsRow_nil w _ 3 1) a 1 c [encZ x] rfl hnews (by simp [Value.oneCell']) (by unfold maxLen; omega) (by omega) (Nat.le_refl _)
    refine ⟨v', w', hr, ?_, hgr, fun k hk => ?_⟩
    · rcases ho.2 with ⟨rfl, h0⟩ | ⟨g, cap, cur, rfl, hb, hh, hnc, hcm, hs, ht⟩
      · omega
      · exact .inr ⟨g, 0, cap, cur, by simp, hh, by simpa using hnc, hcm, by omega, by simpa using ht⟩
    · rcases hat with hat | hat
      · exact .inl (hat ▸ hk)
      · rw [hk] at hat; exact .inr (by simpa using hat)
  · by_cases hroom : l.length + 1 ≤ cap
    · have hf := run_firstCells_some (P := Try.prog) w 1 1 a 1 c [encZ x] rfl hnews
      have hst := run_storeCells_at Try.prog g (off + l.length) 3 [encZ x] 0 cur w hg (by simp; omega) (by simp [Value.oneCell'])
      simp only [Nat.add_zero, List.length_cons, List.length_nil, Nat.zero_add] at hst
      have hr : (Builtin.append_ #[29, 29] ty #[.slice (some ⟨g, off, none⟩) l.length cap, .slice (some a) 1 c]).run Try.prog w = .ok (.slice (some ⟨g, off, none⟩) (l.length + 1) cap) (w.setRow g (cur.toList.take (off + l.length) ++ [encZ x] ++ cur.toList.drop (off + l.length + 1)).toArray) := by
        simp [Builtin.append_, run_underlying Try.underlying29, sizeOf, typeInfo, hi, hz1, Builtin.lenOf, hroom, hf, Addr.add_lit, hst]
      refine ⟨_, _, hr, .inr ⟨g, off, cap, _, by simp, setRow_heap w g cur _ 3 _ hg, by simpa using hroom, hcm, ?_, ?_⟩, ⟨rfl, rfl, rfl, by simp, fun k _ hk => setRow_other w g k _ (fun e => hk (by simp [Value.ownBlock, e]))⟩, fun k hk => .inl hk⟩
      · simp; omega
      · have hl1 : (cur.toList.take (off + l.length)).length = off + l.length := by simp; omega
        have hd : (cur.toList.take (off + l.length)).drop off = l.map encZ := by rw [← htk, List.drop_take, Nat.add_sub_cancel_left]
        simp only [List.append_assoc, List.length_append, List.map_append]
        rw [List.drop_append_of_le_length (by omega), hd, ← List.append_assoc]
        exact List.take_left' (by simp)
    · have holds : ∀ j u, (l.map encZ)[j]? = some u → w.cell? ((⟨g, off, none⟩ : Addr).add j) = some u := by
        intro j u hu
        rw [Addr.add_lit, cell_of_row w g (off + j) cur 3 (0, 0) hg]
        rw [← htk, List.getElem?_take] at hu
        split at hu
        · simpa using hu
        · cases hu
      have hr := run_append_grow (P := Try.prog) w 29 ty 3 i0 (.int .i64 0) Try.underlying29 hi hz0 ⟨g, off, none⟩ l.length cap (l.map encZ) (by rw [hz1, List.length_map, Nat.mul_one]) holds a 1 c [encZ x] (by rw [hz1]; rfl) hnews (by omega) (by omega) (by rw [hz2]; exact growslice_fits (by omega) (by omega))
      have hge := grownCap_ge w (l.length + 1) cap 3
      have hcm' : grownCap w (l.length + 1) cap 3 ≤ maxLen := grownCap_le_maxLen w (l.length + 1) cap 3 (by unfold maxLen; omega)
      have hz1' : (Value.int IntKind.i64 0).cells.size = 1 := rfl
      refine ⟨_, _, hr, .inr ⟨w.heap.size, 0, _, _, by simp, heap_alloc_new w.drew _, by simpa using hge, hcm', ?_, ?_⟩, ⟨rfl, rfl, rfl, by simp, fun k hk _ => heap_alloc_old w.drew _ hk⟩, fun k hk => .inr ?_⟩
      · simp only [Array.size_append, List.size_toArray, size_zeroCells, hz1', List.length_map, List.length_cons, List.length_nil]
        omega
      · simp only [Array.toList_append, List.append_assoc, List.drop_zero, List.length_append, List.map_append]
        rw [← List.append_assoc]
        exact List.take_left' (by simp)
      · simpa [Value.ownBlock, eq_comm] using hk

/-- v[1:]. -/
theorem RowZ.run_tail {w : World} {v : Value} {x : Int} {l : List Int} (h : RowZ w v (x :: l)) :
    ∃ v', (Instr.slice 29 v (some (.int .i64 1)) none none).run Try.prog w = .ok v' w ∧ RowZ w v' l ∧ v'.ownBlock = v.ownBlock := by
  obtain ⟨i0, hi, hz0, hz1, hz2⟩ := info_parts info3
  have hel : Try.prog.underlying 29 = some (.slice (Try.prog.elem 29)) := by kernel_rfl
  have hsz : (sizeOf (Try.prog.elem 29)).run Try.prog w = .ok 1 w := by
    have e : Try.prog.elem 29 = 3 := by kernel_rfl
    rw [e]
    simp [sizeOf, typeInfo, hi, hz1]
  rcases h with ⟨_, h⟩ | ⟨g, off, cap, cur, rfl, hg, hnc, hcm, hcs, htk⟩
  · cases h
  · have hr := run_slice_l (P := Try.prog) w 29 (some ⟨g, off, none⟩) (x :: l).length cap hel .i64 (1 : Nat) (by simp) (by simp; omega)
    rw [hsz] at hr
    have hl1 : (x :: l).length = l.length + 1 := rfl
    have hc1 : 1 ≤ cap := by omega
    have htk' : (cur.toList.drop (off + 1)).take l.length = l.map encZ := by
      have : ((cur.toList.drop off).take (x :: l).length).drop 1 = ((x :: l).map encZ).drop 1 := by rw [htk]
      rw [List.drop_take, List.drop_drop] at this
      simpa using this
    refine ⟨_, hr, ?_, ?_⟩
    · by_cases e : cap = 1
      · subst e
        have : l = [] := List.eq_nil_of_length_eq_zero (by omega)
        subst this
        exact .inr ⟨g, off, 0, cur, by simp [sliced], hg, by simp, by omega, by omega, by simp⟩
      · have ea : (if cap = ((1 : Nat) : Int).toNat then (some ⟨g, off, none⟩ : Option Addr) else (some (⟨g, off, none⟩ : Addr)).map (·.add (((1 : Nat) : Int).toNat * 1))) = some ⟨g, off + 1, none⟩ := by
          rw [if_neg (by simp; omega)]
          simp [Addr.add_lit]
        refine .inr ⟨g, off + 1, cap - 1, cur, ?_, hg, by omega, by omega, by omega, htk'⟩
        simp only [sliced, ea]
        simp
    · simp only [sliced]
      split <;> simp [Value.ownBlock, Addr.add_lit]

end Go.Proofs.Ytnonidoeakhfdaa
