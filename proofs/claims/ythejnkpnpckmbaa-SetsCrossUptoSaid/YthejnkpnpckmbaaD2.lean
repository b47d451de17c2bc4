/- Rows whose elements lie in older rows; lists of lists, plain. -/
import Derived.Test.YthejnkpnpckmbaaD1
namespace Go.Proofs.Ythejnkpnpckmbaa
open Go.RowKit Go.Maps
set_option linter.unusedVariables false

/-- One more, of what lies in blocks that are named already. -/
theorem GrowK.add {α : Type} {K : Nat → Prop} {e bytes : Nat} {E : EG α} (hE : Elem E) {w : World} {v : Value} {l : List α} (h : GrowK K 0 e 1 E w v l)
    (t : TypeId) (ht : Try.prog.underlying t = some (.slice e)) (z : Value) (hinfo : (Try.prog.info? e).map (fun i => (i.zero, i.size, i.bytes)) = some (some z, 1, bytes)) (hzs : z.cells.size = 1)
    (x : α) (u : Value) (hone : u.oneCell' = true) (hx : E K w x [u]) (hlen : (l.length + 1) * bytes ≤ 140737488355328) (hmax : l.length + 1 ≤ maxLen) :
    ∃ A c w', (∀ ty, (Builtin.append_ #[t, t] ty #[v, .slice (some ⟨w.heap.size, 0, none⟩) 1 1]).run Try.prog (w.alloc (.cells #[u] e)) = .ok (.slice A (l.length + 1) c) w') ∧ GrowK K 0 e 1 E w' (.slice A (l.length + 1) c) (l ++ [x]) ∧
      Fr (fun k => v.ownBlock = some k) w w' ∧ (∀ k, (Value.slice A (l.length + 1) c).ownBlock = some k → k < w'.heap.size ∧ (v.ownBlock = some k ∨ w.heap.size ≤ k)) := by
  obtain ⟨xs, ho, hel, hK⟩ := h
  obtain ⟨i0, hi, hz0, hz1, hz2⟩ := info_parts hinfo
  have hfa : Fr No w (w.alloc (.cells #[u] e)) := (Fr.refl No w).alloc _
  have ho' : (w.alloc (.cells #[u] e)).ownsRow 0 e 1 v l.length xs := own_of ho fun k hk => hfa.block k (ho.lt k hk).2 id
  have hnews : ∀ j y, [u][j]? = some y → (w.alloc (.cells #[u] e)).cell? ((⟨w.heap.size, 0, none⟩ : Addr).add j) = some y := by
    intro j y hu
    rw [Addr.add_lit, Nat.zero_add]
    exact ((Blk.new w e #[u]).cell j).trans (by simpa using hu)
  obtain ⟨v', w', hr, how, hgr, hnil, hat⟩ := run_append_own_at (P := Try.prog) (w.alloc (.cells #[u] e)) 0 t 0 e i0 z 1 bytes ht hi hz0 hz1 hz2 hzs (by decide) v l.length xs ho' ⟨w.heap.size, 0, none⟩ 1 1 [u] (by simp) hnews (by simp [hone]) hmax hlen (by simp)
  have hv' : ∃ A c, v' = .slice A (l.length + 1) c := by
    rcases how.2 with ⟨e1, h0⟩ | ⟨g, cap, cur, e1, _⟩
    · omega
    · exact ⟨_, _, e1⟩
  obtain ⟨A, c, rfl⟩ := hv'
  have hsize : w.heap.size < (w.alloc (.cells #[u] e)).heap.size := by simp
  have hfr : Fr (fun k => v.ownBlock = some k) w w' := hfa.any.grown hgr fun k hk _ => hk
  have hatk : ∀ j, (Value.slice A (l.length + 1) c).ownBlock = some j → v.ownBlock = some j ∨ j = (w.alloc (.cells #[u] e)).heap.size := fun j hj => by
    rcases hat with e1 | e1
    · exact .inl (e1 ▸ hj)
    · rw [hj] at e1; exact .inr (Option.some.inj e1)
  have hKk : ∀ k, K k → k < w.heap.size → K k ∧ w'.heap[k]? = w.heap[k]? := fun k hk hlt => ⟨hk, hfr.block k hlt (hK k hk).2.2⟩
  refine ⟨A, c, w', fun ty => hr, ⟨xs ++ [u], by simpa using how, fun j hj => ?_, fun k hk => ?_⟩, hfr, fun k hk => ?_⟩
  · rw [List.length_append, List.length_singleton] at hj
    have hxl : xs.length = l.length := by rw [ho.1, Nat.mul_one]
    by_cases hjl : j < l.length
    · obtain ⟨cs', h1, h2, h3⟩ := hel j hjl
      refine ⟨cs', h1, fun i hi' => ?_, ?_⟩
      · rw [List.getElem?_append_left (by omega)]; exact h2 i hi'
      · rw [List.getElem_append_left hjl]
        exact hE.mono _ _ _ _ _ _ h3 hKk
    · obtain rfl : j = l.length := by omega
      refine ⟨[u], rfl, fun i hi' => ?_, ?_⟩
      · rw [List.getElem?_append_right (by omega)]; congr 1; omega
      · rw [List.getElem_append_right (by omega)]
        simp only [Nat.sub_self, List.getElem_cons_zero]
        exact hE.mono _ _ _ _ _ _ hx hKk
  · obtain ⟨h1, h2, h3⟩ := hK k hk
    refine ⟨h1, by have := hfr.size; omega, fun e1 => ?_⟩
    rcases hatk k e1 with e2 | e2
    · exact h3 e2
    · omega
  · refine ⟨(how.lt k hk).2, ?_⟩
    rcases hatk k hk with e1 | e1
    · exact .inl e1
    · exact .inr (by omega)

def rollT (l : List Tx) : List (List Tx) := (dl (l.length + 1)).map fun n => l.take n
def cubeT (l : List Tx) : List (List Tx) := (dl (2 ^ l.length)).map fun b => pick b l
theorem pick_map {α β : Type} (f : α → β) (b : Nat) : ∀ l : List α, pick b (l.map f) = (pick b l).map f
  | [] => rfl
  | x :: l => by
    rw [List.map_cons, pick, pick, List.length_map, pick_map f b l]
    split <;> rfl
theorem roll_short (dims l : List Tx) : (rollT l).map (fun s => uni (ownL dims s)) = rollL (ownL dims l) := by
  unfold rollT rollL
  rw [List.map_map, ownL_length]
  congr 1
  funext n
  show uni (ownL dims (l.take n)) = uni ((ownL dims l).take n)
  unfold ownL
  rw [List.map_take]
theorem cube_short (dims l : List Tx) : (cubeT l).map (fun s => uni (ownL dims s)) = cubeL (ownL dims l) := by
  unfold cubeT cubeL
  rw [List.map_map, ownL_length]
  congr 1
  funext b
  show uni (ownL dims (pick b l)) = uni (pick b (ownL dims l))
  unfold ownL
  rw [pick_map]
theorem any_unk_false {l : List Tx} (h : ∀ t ∈ l, t ∈ sixT) : l.any (unkB sixT) = false := by
  rw [List.any_eq_false]
  intro t ht
  unfold unkB
  have : sixT.any (· == t) = true := List.any_eq_true.2 ⟨t, h t ht, by simp⟩
  rw [this]; decide
theorem cross_one (dims : List Tx) (g : Gp) : crossL dims [g] = esets dims g := by
  rw [crossL_eq]
  show (esets dims g).flatMap (fun x => choose (0 ||| x) []) = esets dims g
  have : (fun x => choose (0 ||| x) []) = fun x : Nat => [x] := by funext x; show [0 ||| x] = [x]; rw [Nat.zero_or]
  rw [this]
  simp
/-- What one right element comes to, over the six. -/
theorem expand_one {g : Gp} (hw : wrongB g = false) (hs : strangeB sixT g = false) (h0 : 0 < (esets sixT g).length) (h1 : (esets sixT g).length ≤ 64) : expandL sixT [g] = (esets sixT g, 0) := by
  have hany : [g].any wrongB = false := by simp [hw]
  have hsz := size_prod (dims := sixT) hany
  have hp : prodL ([g].map (esets sixT)) = (esets sixT g).length := Nat.mul_one _
  rw [hp, Nat.min_eq_left (by omega)] at hsz
  unfold expandL
  rw [if_neg (by rw [hany]; simp [sixT]), if_neg (by simp [hs]), if_neg (by omega), if_neg (by omega), cross_one]
theorem rollL_len (l : List Nat) : (rollL l).length = l.length + 1 := by unfold rollL; rw [List.length_map, dl_length]
theorem cubeL_len (l : List Nat) : (cubeL l).length = 2 ^ l.length := by unfold cubeL; rw [List.length_map, dl_length]
theorem ex_roll {l : List Tx} (h : ∀ t ∈ l, t ∈ sixT) (h0 : 0 < l.length) (h6 : l.length ≤ 6) : expandL sixT [⟨2, l, []⟩] = (rollL (ownL sixT l), 0) := by
  have e : esets sixT ⟨2, l, []⟩ = rollL (ownL sixT l) := rfl
  have hl : (rollL (ownL sixT l)).length = l.length + 1 := by rw [rollL_len, ownL_length]
  rw [← e] at hl ⊢
  exact expand_one (by simp [wrongB]; exact fun h => by simp [h] at h0) (any_unk_false h) (by omega) (by omega)
theorem ex_cube {l : List Tx} (h : ∀ t ∈ l, t ∈ sixT) (h0 : 0 < l.length) (h6 : l.length ≤ 6) : expandL sixT [⟨3, l, []⟩] = (cubeL (ownL sixT l), 0) := by
  have e : esets sixT ⟨3, l, []⟩ = cubeL (ownL sixT l) := rfl
  have hl : (cubeL (ownL sixT l)).length = 2 ^ l.length := by rw [cubeL_len, ownL_length]
  have h64 : 2 ^ l.length ≤ 64 := Nat.pow_le_pow_right (n := 2) (by decide) h6
  rw [← e] at hl ⊢
  exact expand_one (by simp [wrongB]; exact fun h => by simp [h] at h0) (any_unk_false h) (by rw [hl]; exact Nat.pow_pos (by decide)) (by omega)
theorem ex_rollS {l : List Tx} (h : ∀ t ∈ l, t ∈ sixT) (h6 : l.length ≤ 6) : expandL sixT [⟨4, [], rollT l⟩] = (rollL (ownL sixT l), 0) := by
  have e : esets sixT ⟨4, [], rollT l⟩ = rollL (ownL sixT l) := roll_short sixT l
  have hl : (rollL (ownL sixT l)).length = l.length + 1 := by rw [rollL_len, ownL_length]
  rw [← e] at hl ⊢
  refine expand_one rfl ?_ (by omega) (by omega)
  unfold strangeB
  rw [if_pos rfl, List.any_eq_false]
  intro s hs
  obtain ⟨n, _, rfl⟩ := List.mem_map.1 hs
  rw [any_unk_false fun t ht => h t (List.mem_of_mem_take ht)]; decide
theorem ex_cubeS {l : List Tx} (h : ∀ t ∈ l, t ∈ sixT) (h6 : l.length ≤ 6) : expandL sixT [⟨4, [], cubeT l⟩] = (cubeL (ownL sixT l), 0) := by
  have e : esets sixT ⟨4, [], cubeT l⟩ = cubeL (ownL sixT l) := cube_short sixT l
  have hl : (cubeL (ownL sixT l)).length = 2 ^ l.length := by rw [cubeL_len, ownL_length]
  have h64 : 2 ^ l.length ≤ 64 := Nat.pow_le_pow_right (n := 2) (by decide) h6
  rw [← e] at hl ⊢
  refine expand_one rfl ?_ (by rw [hl]; exact Nat.pow_pos (by decide)) (by omega)
  unfold strangeB
  rw [if_pos rfl, List.any_eq_false]
  intro s hs
  obtain ⟨n, _, rfl⟩ := List.mem_map.1 hs
  rw [any_unk_false fun t ht => h t (pick_mem _ _ _ ht)]; decide
end Go.Proofs.Ythejnkpnpckmbaa
