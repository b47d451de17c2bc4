/- The document's own scheduler: one is cut out of a list; a list of pairs of one's own. -/
import Derived.Test.YtnonidoeakhfdaaG6
namespace Go.Proofs.Ytnonidoeakhfdaa
open Go.RowKit Go.Maps Go.Sort
set_option linter.unusedVariables false

def Own2 (w wr : World) (v : Value) (l : List (Int × Int)) : Prop := wr.ownsRow w.heap.size 68 2 v l.length (l.map pc).flatten
theorem flat_one (Z : ZS) (i : Nat) : ∀ u ∈ (Z.rows i).flatten, u.oneCell' = true := by
  intro u hu
  obtain ⟨e, he, hu⟩ := List.mem_flatten.1 hu
  match i with
  | 0 => obtain ⟨x, _, rfl⟩ := List.mem_map.1 he; simp [ZT.cells] at hu; rcases hu with rfl | rfl | rfl | rfl <;> rfl
  | 1 => obtain ⟨x, _, rfl⟩ := List.mem_map.1 he; simp [pc] at hu; rcases hu with rfl | rfl <;> rfl
  | 2 => obtain ⟨x, _, rfl⟩ := List.mem_map.1 he; simp [pc] at hu; rcases hu with rfl | rfl <;> rfl
  | i + 3 => obtain ⟨x, _, rfl⟩ := List.mem_map.1 he; simp [oc] at hu; subst hu; rfl

section
variable {w wr w' w1 : World} {r : Nat} {V : Nat → Value} {Z Z' : ZS} {l : List (Int × Int)} {v : Value}
theorem own2_add (ho : Own2 w wr v l) (hf : Fr No w wr) (p : Int × Int) (hlen : l.length ≤ 1000000) :
    ∃ v' w1, (∀ ty, (Builtin.append_ #[28, 28] ty #[v, .slice (some ⟨wr.heap.size, 0, none⟩) 1 1]).run Try.prog (wr.alloc (.cells #[.int .i64 p.1, .int .i64 p.2] 68)) = .ok v' w1) ∧ Own2 w w1 v' (l ++ [p]) ∧ Fr No w w1 := by
  obtain ⟨i0, hi, hz0, hz1, hz2⟩ := info_parts info68
  have hbase : w.heap.size ≤ (wr.alloc (.cells #[.int .i64 p.1, .int .i64 p.2] 68)).heap.size := by have := hf.size; simp; omega
  obtain ⟨v', w', hr, ho', hgr, _, hat⟩ := run_append_own_at (P := Try.prog) (wr.alloc (.cells #[.int .i64 p.1, .int .i64 p.2] 68)) w.heap.size 28 0 68 i0 (.agg #[.int .i64 0, .int .i64 0]) 2 16 under28' hi hz0 hz1 hz2 rfl (by omega) v l.length _ (World.ownsRow.alloc ho _) ⟨wr.heap.size, 0, none⟩ 1 1 (pc p) rfl (World.news_of_block (cs := #[.int .i64 p.1, .int .i64 p.2]) (t := 68) (fr := (0, 0)) (heap_alloc_new wr _)) (by simp [pc, Value.oneCell']) (by unfold maxLen; omega) (by omega) hbase
  refine ⟨v', w', fun ty => hr, ?_, (hf.alloc _).grown hgr fun k hk hlt => ?_⟩
  · have : w'.ownsRow w.heap.size 68 2 v' (l.length + 1) ((l.map pc).flatten ++ pc p) := ho'
    unfold Own2
    rw [List.length_append, List.map_append, List.flatten_append]; simpa using this
  · have := (World.ownsRow.lt ho k hk).1; omega
theorem own2_form (h : Own2 w wr v l) : ∃ A c, v = .slice A l.length c := by
  rcases h.2 with ⟨rfl, h0⟩ | ⟨g, cap, cur, rfl, _⟩
  · exact ⟨none, 0, by rw [h0]⟩
  · exact ⟨_, _, rfl⟩

theorem flat_drop {s : Nat} : ∀ {L : List (List Value)} {k : Nat}, (∀ e ∈ L, e.length = s) → L.flatten.drop (k * s) = (L.drop k).flatten
  | [], k, _ => by simp
  | e :: L, 0, _ => by simp
  | e :: L, k + 1, h => by
    have he := h e (by simp)
    rw [List.flatten_cons, List.drop_append, he, show (k + 1) * s - s = k * s by rw [Nat.add_mul]; omega, flat_drop (L := L) (fun x hx => h x (by simp [hx])), List.drop_of_length_le (by rw [he, Nat.add_mul]; omega)]
    simp

/-- One is taken out of a list, by two appends. -/
theorem RAt.cut (h : RAt w r V Z) {i : Nat} (hi : i < 4) (t : TypeId) (z : Value) (bytes : Nat) (hu : Try.prog.underlying t = some (.slice (zty i))) (hu' : Try.prog.underlying t = some (.slice (Try.prog.elem t)))
    (hsz : ∀ W, (sizeOf (Try.prog.elem t)).run Try.prog W = .ok (zsz i) W) (hinfo : (Try.prog.info? (zty i)).map (fun i => (i.zero, i.size, i.bytes)) = some (some z, zsz i, bytes)) (hz : z.cells.size = zsz i) (hby : bytes ≤ 32)
    {k : Nat} (hk : k < (Z.rows i).length) (hlen : (Z.rows i).length ≤ 1000000) :
    ∃ v1 vr w1 v2 v' w2, (Instr.slice t (V i) none (some (.int .i64 (k : Nat))) none).run Try.prog w = .ok v1 w ∧ (∀ ty, (Builtin.append_ #[t, t] ty #[.slice none 0 0, v1]).run Try.prog w = .ok vr w1) ∧
      (Instr.slice t (V i) (some (.int .i64 ((k : Int) + 1))) none none).run Try.prog w1 = .ok v2 w1 ∧ (∀ ty, (Builtin.append_ #[t, t] ty #[vr, v2]).run Try.prog w1 = .ok v' w2) ∧ (∃ A' n' c', v' = .slice A' n' c') ∧ Fr No w w1 ∧ Fr No w w2 ∧
      ∀ Z', Z'.rows i = (Z.rows i).take k ++ (Z.rows i).drop (k + 1) → (∀ j, j < 4 → j ≠ i → Z'.rows j = Z.rows j) → Z'.last = Z.last → PRr r V w (upV V i v') Z' (w2.setCell ⟨r, i + 1, none⟩ v') := by
  obtain ⟨i0, hi0, hz0, hz1, hz2⟩ := info_parts hinfo
  have hpos := zsz_pos i
  have hrow := h.row i hi
  have hszr := rows_sz Z i
  generalize hs : zsz i = s at *
  generalize hL : Z.rows i = L at *
  obtain ⟨g, cap, hv, _, hg2⟩ := World.ownsRow.form hrow (by omega)
  have hlc : L.length ≤ cap := by
    rcases hrow.2 with ⟨e, _⟩ | ⟨g', cap', cur, e, _, _, h, _⟩
    · rw [hv] at e; cases e
    · rw [hv] at e; cases e; exact h
  rw [hv]
  have hs1 := run_slice_h (P := Try.prog) w t (some ⟨g, 0, none⟩) L.length cap hu' .i64 (k : Nat) (by omega) (by omega)
  rw [hsz] at hs1
  have e1 : sliced (some ⟨g, 0, none⟩) 0 (k : Int).toNat cap s = .slice (some ⟨g, 0, none⟩) k cap := by
    unfold sliced
    have : cap ≠ 0 := by omega
    simp [this, Addr.add_lit]
  have hs1' : (Instr.slice t (.slice (some ⟨g, 0, none⟩) L.length cap) none (some (.int .i64 k)) none).run Try.prog w = .ok (.slice (some ⟨g, 0, none⟩) k cap) w := by
    rw [hs1]; show Result.ok _ _ = _; rw [e1]
  have hcell : ∀ j x, L.flatten[j]? = some x → w.cell? ⟨g, j, none⟩ = some x := fun j x hj => by
    have := World.ownsRow.cells hrow (g := g) (by rw [hv]; rfl) j x hj
    rwa [Addr.add_lit, Nat.zero_add] at this
  have hone : ∀ u ∈ L.flatten, u.oneCell' = true := by rw [← hL]; exact flat_one Z i
  obtain ⟨vr, w1, hr1, ho1, hg1', _, hat1⟩ := run_append_own_at (P := Try.prog) w w.heap.size t 0 (zty i) i0 z s bytes hu hi0 hz0 hz1 hz2 hz hpos (.slice none 0 0) 0 [] (World.ownsRow_nil w _ (zty i) s) ⟨g, 0, none⟩ k cap (L.take k).flatten (by
    rw [← flat_take hszr, List.length_take, flat_len hszr, Nat.min_eq_left (Nat.mul_le_mul_right s (by omega))]) (fun j u hj => by
    rw [Addr.add_lit, Nat.zero_add]
    refine hcell j u ?_
    rw [← flat_take hszr, List.getElem?_take] at hj
    split at hj
    · exact hj
    · cases hj) (fun u hu => hone u (by rw [← flat_take hszr] at hu; exact List.mem_of_mem_take hu)) (by unfold maxLen; omega) (by
      have : (0 + k) * bytes ≤ 1000000 * 32 := Nat.mul_le_mul (by omega) hby
      omega) (Nat.le_refl _)
  have hs2 := run_slice_l (P := Try.prog) w1 t (some ⟨g, 0, none⟩) L.length cap hu' .i64 ((k : Int) + 1) (by omega) (by omega)
  rw [hsz] at hs2
  have ek : ((k : Int) + 1).toNat = k + 1 := by omega
  obtain ⟨a2, ha2, ha3⟩ : ∃ a2, sliced (some ⟨g, 0, none⟩) ((k : Int) + 1).toNat L.length cap s = .slice (some a2) (L.length - (k + 1)) (cap - (k + 1)) ∧ (cap ≠ k + 1 → a2 = ⟨g, (k + 1) * s, none⟩) := by
    unfold sliced
    rw [ek]
    by_cases e : cap = k + 1
    · exact ⟨⟨g, 0, none⟩, by simp [e], fun h => absurd e h⟩
    · exact ⟨⟨g, (k + 1) * s, none⟩, by simp [e, Addr.add_lit], fun _ => rfl⟩
  have hsz1 := hg1'.size
  have hcell1 : ∀ j x, L.flatten[j]? = some x → w1.cell? ⟨g, j, none⟩ = some x := fun j x hj => by
    rw [World.cell?_of_block (hg1'.block g hg2 (by simp [Value.ownBlock]))]; exact hcell j x hj
  obtain ⟨v', w2, hr2, ho2, hg2', _, hat2⟩ := run_append_own_at (P := Try.prog) w1 w.heap.size t 0 (zty i) i0 z s bytes hu hi0 hz0 hz1 hz2 hz hpos vr (0 + k) _ ho1 a2 (L.length - (k + 1)) (cap - (k + 1)) (L.drop (k + 1)).flatten (by
    rw [← flat_drop hszr, List.length_drop, flat_len hszr, Nat.sub_mul]) (fun j u hj => by
    rw [← flat_drop hszr, List.getElem?_drop] at hj
    have hlt := (List.getElem?_eq_some_iff.1 hj).1
    rw [flat_len hszr] at hlt
    have hne : cap ≠ k + 1 := by
      intro e
      have hle : L.length * s ≤ (k + 1) * s := Nat.mul_le_mul_right s (by omega)
      omega
    rw [ha3 hne, Addr.add_lit]
    exact hcell1 _ u hj) (fun u hu => hone u (by rw [← flat_drop hszr] at hu; exact List.mem_of_mem_drop hu)) (by unfold maxLen; omega) (by
      have : (0 + k + (L.length - (k + 1))) * bytes ≤ 1000000 * 32 := Nat.mul_le_mul (by omega) hby
      omega) (by omega)
  have hvr : ∀ k, vr.ownBlock = some k → w.heap.size ≤ k := fun j hj => by
    rcases hat1 with e | e
    · rw [hj] at e; simp [Value.ownBlock] at e
    · rw [hj] at e; have : j = w.heap.size := by simpa using e
      omega
  have hf1 : Fr No w w1 := (Fr.refl No w).grown hg1' fun j hj => by simp [Value.ownBlock] at hj
  have hf2 : Fr No w w2 := hf1.grown hg2' fun j hj hlt => by have := hvr j hj; omega
  refine ⟨_, vr, w1, _, v', w2, hs1', fun ty => hr1, by rw [hs2]; show Result.ok _ _ = _; rw [ha2], fun ty => hr2, ?_, hf1, hf2, fun Z' hZ1 hZ2 hl => ?_⟩
  · rcases ho2.2 with ⟨e, h0⟩ | ⟨g, cap, cur, e, _⟩
    · exact ⟨_, _, _, e⟩
    · exact ⟨_, _, _, e⟩
  · refine h.turn hi hf2.any ?_ (fun k' hk' => .inr ?_) (fun j hj hne => hZ2 j hj hne) hl
    · rw [hs, hZ1, List.flatten_append, List.length_append, List.length_take, List.length_drop]
      have e : min k L.length + (L.length - (k + 1)) = 0 + k + (L.length - (k + 1)) := by omega
      rw [e]
      exact own_base ho2 (Nat.zero_le _)
    · exact (World.ownsRow.lt ho2 k' hk').1
end

end Go.Proofs.Ytnonidoeakhfdaa
