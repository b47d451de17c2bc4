/- The closure that chooses. -/
import Derived.Test.YthejnkpnpckmbaaB5
namespace Go.Proofs.Ythejnkpnpckmbaa
open Go.RowKit Go.Maps
set_option linter.unusedVariables false

abbrev chv (cb lb fb : Nat) : Value := .func (.func 34) #[] #[.pointer (some ⟨cb, 0, none⟩), .pointer (some ⟨lb, 0, none⟩), .pointer (some ⟨fb, 0, none⟩)]
/-- What the closure sees: the choices, the list so far, itself. X: the blocks that stay. -/
structure CS (X : Nat → Prop) (cb lb fb b0 : Nat) (ls : List (List Nat)) (acc : List Nat) (w : World) : Prop where
  ch : ∃ A c, Blk w cb 57 #[.slice A ls.length c] ∧ RowE X w 1 (nlG X w) (.slice A ls.length c) ls
  fn : Blk w fb 59 #[chv cb lb fb]
  li : ∃ A c, Blk w lb 22 #[.slice A acc.length c] ∧ Grow b0 3 1 natG w (.slice A acc.length c) acc ∧ ∀ k, (Value.slice A acc.length c).ownBlock = some k → ¬ X k ∧ k ≠ lb
  xs : X cb ∧ X fb ∧ ¬ X lb
  xl : ∀ k, X k → k < w.heap.size
  bl : b0 ≤ w.heap.size
def NX (X : Nat → Prop) (k : Nat) : Prop := ¬ X k
theorem CS.keep {X : Nat → Prop} {cb lb fb b0 : Nat} {ls : List (List Nat)} {acc : List Nat} {w w' : World} (h : CS X cb lb fb b0 ls acc w) (f : Fr No w w') : CS X cb lb fb b0 ls acc w' := by
  obtain ⟨⟨A, c, h1, h2⟩, h3, ⟨A2, c2, h4, h5, h6⟩, h7, h8, h9⟩ := h
  exact ⟨⟨A, c, h1.of (f.block _ h1.lt id), h2.at_ nlG_elem f⟩, h3.of (f.block _ h3.lt id), ⟨A2, c2, h4.of (f.block _ h4.lt id), h5.keep natG_elem f fun _ h => h.elim, h6⟩, h7, fun k hk => Nat.lt_of_lt_of_le (h8 k hk) f.size, Nat.le_trans h9 f.size⟩
/-- One more in the list. -/
theorem CS.push {X : Nat → Prop} {cb lb fb b0 : Nat} {ls : List (List Nat)} {acc : List Nat} {w : World} {A : Option Addr} {c n : Nat} (h : CS X cb lb fb b0 ls acc w) (x : Nat) (hb : Blk w lb 22 #[.slice A n c]) (hn : n = acc.length) (hlen : acc.length ≤ 1000000) :
    ∃ A' c' w', (∀ ty, (Builtin.append_ #[22, 22] ty #[.slice A n c, .slice (some ⟨w.heap.size, 0, none⟩) 1 1]).run Try.prog (w.alloc (.cells #[.int .i64 (x : Int)] 3)) = .ok (.slice A' (n + 1) c') w') ∧
      w'.cell? ⟨lb, 0, none⟩ = some (.slice A n c) ∧ w'.frozen? ⟨lb, 0, none⟩ = false ∧ CS X cb lb fb b0 ls (acc ++ [x]) (w'.setCell ⟨lb, 0, none⟩ (.slice A' (n + 1) c')) ∧ Fr (NX X) w (w'.setCell ⟨lb, 0, none⟩ (.slice A' (n + 1) c')) := by
  subst hn
  obtain ⟨⟨A1, c1, h1, h2⟩, h3, ⟨A2, c2, h4, h5, h6⟩, h7, h8, h9⟩ := h
  have e : (Value.slice A2 acc.length c2) = .slice A acc.length c := by
    unfold Blk at hb h4
    rw [hb] at h4
    injection h4 with h4
    injection h4 with h4
    simpa using h4.symm
  rw [e] at h5 h6
  obtain ⟨A', c', w', hrun, hg', hf', hlt⟩ := Grow.more (bytes := 8) natG_elem (w0 := w) h5 h9 (Nat.le_refl _) (fun k hk => (h5.lt k hk).2) 22 Try.underlying22 (.int .i64 0) (by kernel_rfl) rfl (by decide) x [.int .i64 (x : Int)] rfl (by simp [Value.oneCell']) rfl (by omega) (by unfold maxLen; omega)
  have hlb : Blk w' lb 22 #[.slice A acc.length c] := hb.of (hf'.block _ hb.lt fun e1 => (h6 lb e1).2 rfl)
  obtain ⟨w2, hw2⟩ : ∃ w2, w'.setCell ⟨lb, 0, none⟩ (.slice A' (acc.length + 1) c') = w2 := ⟨_, rfl⟩
  have f2 : Fr (fun k => k = lb) w' w2 := by rw [← hw2]; exact (Fr.refl (fun k => k = lb) w').setCell (p := ⟨lb, 0, none⟩) (fun _ => rfl) _
  have fX : Fr (NX X) w w' := hf'.mono fun k _ hk => (h6 k hk).1
  have f2X : Fr (NX X) w' w2 := f2.mono fun k _ hk => by rw [show k = lb from hk]; exact h7.2.2
  have fa : Fr (NX X) w w2 := fX.trans f2X fun _ _ h => h
  have hkX : ∀ k, X k → k < w.heap.size → X k ∧ w2.heap[k]? = w.heap[k]? := fun k hk hl => ⟨hk, fa.block k hl fun hn => hn hk⟩
  refine ⟨A', c', w', hrun, hlb.cell 0, hlb.frozen 0, ?_, by rw [hw2]; exact fa⟩
  rw [hw2]
  have hown : ∀ k, (Value.slice A' (acc.length + 1) c').ownBlock = some k → ¬ X k ∧ k ≠ lb := fun k hk => by
    rcases (hlt k hk).2 with e1 | e1
    · exact h6 k e1
    · exact ⟨fun hx => by have := h8 k hx; omega, fun e2 => by have := hb.lt; omega⟩
  refine ⟨⟨A1, c1, h1.of (hkX cb h7.1 h1.lt).2, h2.mono hkX fun x cs hx => nlG_elem.mono _ _ _ _ _ _ hx hkX⟩, h3.of (hkX fb h7.2.1 h3.lt).2, ⟨A', c', ?_, ?_, ?_⟩, h7, fun k hk => Nat.lt_of_lt_of_le (h8 k hk) fa.size, Nat.le_trans h9 fa.size⟩
  · rw [List.length_append, ← hw2]
    exact hlb.set_ 0 _
  · rw [List.length_append]
    obtain ⟨K, xs, ho, hel, hK⟩ := hg'
    refine ⟨K, xs, own_of ho fun k hk => f2.block k (ho.lt k hk).2 fun e1 => (hown k hk).2 e1, fun j hj => ?_, fun k hk => ?_⟩
    · obtain ⟨cs, g1, g2, g3⟩ := hel j hj
      exact ⟨cs, g1, g2, g3⟩
    · obtain ⟨g1, g2, g3⟩ := hK k hk
      exact ⟨g1, Nat.lt_of_lt_of_le g2 f2.size, g3⟩
  · rw [List.length_append]; exact hown

theorem choose_lt : ∀ (cs : List (List Nat)) (s : Nat), s < 64 → (∀ c ∈ cs, ∀ x ∈ c, x < 64) → ∀ x ∈ choose s cs, x < 64
  | [], s, hs, _, x, hx => by simp [choose] at hx; omega
  | c :: cs, s, hs, h, x, hx => by
    unfold choose at hx
    obtain ⟨y, hy, hx⟩ := List.mem_flatMap.1 hx
    exact choose_lt cs (s ||| y) (or64 hs (h c (by simp) y hy)) (fun c' hc' => h c' (by simp [hc'])) x hx
def flatC (s : Nat) (c : List Nat) (cs : List (List Nat)) : List Nat := c.flatMap fun x => choose (s ||| x) cs
theorem flatC_take {s : Nat} {c : List Nat} {cs : List (List Nat)} {j : Nat} (h : j < c.length) : flatC s (c.take (j + 1)) cs = flatC s (c.take j) cs ++ choose (s ||| c[j]) cs := by
  rw [take_succ h]; unfold flatC; rw [List.flatMap_append]; simp
theorem flatC_le {s : Nat} {c : List Nat} {cs : List (List Nat)} (j : Nat) : (flatC s (c.take j) cs).length ≤ (flatC s c cs).length := by
  have e : flatC s c cs = flatC s (c.take j) cs ++ flatC s (c.drop j) cs := by unfold flatC; rw [← List.flatMap_append, List.take_append_drop]
  rw [e, List.length_append]; omega

/-- What a call of the closure leaves. -/
def ChP (X : Nat → Prop) (cb lb fb b0 : Nat) (ls : List (List Nat)) (acc : List Nat) (w : World) (e : Ending) (w' : World) : Prop := e = .returned (.tuple #[]) ∧ CS X cb lb fb b0 ls acc w' ∧ Fr (NX X) w w'
abbrev pt (b : Nat) : Value := .pointer (some ⟨b, 0, none⟩)
set_option maxRecDepth 100000 in
set_option maxHeartbeats 1000000 in
theorem choose_end {X : Nat → Prop} {cb lb fb b0 : Nat} {ls : List (List Nat)} {acc : List Nat} {w : World} (s n : Nat) (h : CS X cb lb fb b0 ls acc w) (hn : n = ls.length) (hlen : acc.length ≤ 1000000) :
    Calls Try.prog 34 #[.int .i64 (s : Int), .int .i64 (n : Int), pt cb, pt lb, pt fb] w (ChP X cb lb fb b0 ls (acc ++ [s]) w) := by
  obtain ⟨A1, c1, hc, _⟩ := h.ch
  obtain ⟨A2, c2, hl, _⟩ := h.li
  have d1 : w.cell? ⟨cb, 0, none⟩ = some (.slice A1 n c1) := by rw [hn]; exact hc.cell 0
  have d2 : w.cell? ⟨lb, 0, none⟩ = some (.slice A2 acc.length c2) := hl.cell 0
  obtain ⟨A', c', w', hrun, h1, h2, h3, h4⟩ := h.push s hl rfl hlen
  have HRUN := Lib.hid hrun
  have HQ : Hid (ChP X cb lb fb b0 ls (acc ++ [s]) w (.returned (.tuple #[])) (w'.setCell ⟨lb, 0, none⟩ (.slice A' (acc.length + 1) c'))) := Lib.hid ⟨rfl, h3, h4⟩
  generalize acc.length = m at *
  clear h hc hl hrun h3 h4 hn hlen
  go_enter Try.func34, Try.ntmps34
  go_wp2_with (at_builtin; refine wpList_add rfl _ _ _ _ rfl _ _ _ _ rfl rfl (HRUN.out _) ?_)
  refine bodyPost_ret (results_none rfl _ _ _) rfl ?_
  exact HQ.out
end Go.Proofs.Ythejnkpnpckmbaa
