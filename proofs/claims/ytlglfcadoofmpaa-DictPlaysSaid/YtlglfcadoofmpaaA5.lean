/- The comparisons, the sort, the search. -/
import Derived.Test.YtlglfcadoofmpaaL2
import Derived.Test.YtlglfcadoofmpaaA4
namespace Go.Proofs.Ytlglfcadoofmpaa
open Go.RowKit Go.Maps Go.Sort Go.Proofs
set_option linter.unusedVariables false

/-! ### the two comparisons, in whatever world -/
/-- What a comparison reads: the captured variable's box, the dictionary's first cell, the texts. -/
structure Reads (w : World) (bx d gt n c : Nat) (L : List Tx) : Prop where
  box : w.cell? ⟨bx, 0, none⟩ = some (.pointer (some ⟨d, 0, none⟩))
  tv : w.cell? ⟨d, 0, none⟩ = some (.slice (some ⟨gt, 0, none⟩) n c)
  tx : ∀ i, i < n → w.cell? ⟨gt, i, none⟩ = some (encT (txt L i))

set_option maxHeartbeats 800000 in
theorem clos38 (bx d gt n c : Nat) (L : List Tx) (w : World) (h : Reads w bx d gt n c L) (x y : Nat) (hx : x < n) (hy : y < n) :
    Calls Try.prog 38 #[encN x, encN y, .pointer (some ⟨bx, 0, none⟩)] w fun e w' => e = .returned (.int .i64 (Lib.compareBytes (txt L x) (txt L y))) ∧ ∃ q, w' = w.drewN q := by
  have c1 := h.box
  have c2 := h.tv
  have c3 := h.tx x hx
  have c4 := h.tx y hy
  have hc := fun W => compare_any (txt L x) (txt L y) W
  have HC := Lib.hid hc
  clear h hc
  unfold encN encT at *
  generalize Lib.compareBytes (txt L x) (txt L y) = v at *
  go_enter Try.func38, Try.ntmps38
  go_wp2
  go_quiet ((go_at_call 39; exact Calls.quiet_of_same (HC.out _)))
  go_wp2
  go_ret
  exact ⟨rfl, _, rfl⟩
set_option maxHeartbeats 800000 in
theorem clos42 (bx d gt n c : Nat) (L : List Tx) (t : Tx) (w : World) (h : Reads w bx d gt n c L) (x : Nat) (hx : x < n) :
    Calls Try.prog 42 #[encN x, encT t, .pointer (some ⟨bx, 0, none⟩)] w fun e w' => e = .returned (.int .i64 (Lib.compareBytes (txt L x) t)) ∧ w' = w := by
  have c1 := h.box
  have c2 := h.tv
  have c3 := h.tx x hx
  have HC := Lib.hid (compare_any (txt L x) t w)
  clear h
  unfold encN encT at *
  generalize Lib.compareBytes (txt L x) t = v at *
  go_enter Try.func42, Try.ntmps42
  go_wp2_with (go_at_call 39; refine HC.out.mono ?_; rintro e w' ⟨rfl, rfl⟩)
  go_ret
  exact ⟨rfl, rfl⟩

/-! ### the worlds that a sort passes through -/
section
variable {α : Type} [Inhabited α]
theorem sw_heap (enc : α → Value) (w : World) (blk off m : Nat) (dk : Array α) (os : Array Obj) (k : Nat) (hk : k < w.heap.size) (hne : k ≠ blk) : (sortWorld enc w blk off m dk os).heap[k]? = w.heap[k]? := by
  unfold sortWorld
  rw [heap_grow_old _ _ (by rw [size_putRow]; exact hk)]
  show (w.heap.modify blk _)[k]? = _
  rw [Array.getElem?_modify, if_neg (fun e => hne e.symm)]
theorem sw_fr (enc : α → Value) (w : World) (blk off m : Nat) (dk : Array α) (os : Array Obj) : Fr (One blk) w (sortWorld enc w blk off m dk os) :=
  ⟨rfl, rfl, rfl, by unfold sortWorld; rw [size_grow, size_putRow]; show w.heap.size ≤ w.heap.size + _; omega, fun k hk hn => sw_heap enc w blk off m dk os k hk hn⟩
theorem sw_row (enc : α → Value) {w : World} {blk n cap : Nat} {e : TypeId} {xs : List Value} (h : w.ownsRow 0 e 1 (.slice (some ⟨blk, 0, none⟩) n cap) n xs) (m : Nat) (l : List α) (hl : l.length = n) (os : Array Obj) :
    (sortWorld enc w blk 0 m l.toArray os).ownsRow 0 e 1 (.slice (some ⟨blk, 0, none⟩) n cap) n (l.map enc) := by
  have hlt := (h.lt blk rfl).2
  rcases h.2 with ⟨e1, _⟩ | ⟨g, cap', cur, e1, _, hh, hnc, hcm, hs, ht⟩
  · cases e1
  · injection e1 with e1 _ e2
    injection e1 with e1
    injection e1 with e1 _
    subst e1; subst e2
    refine ⟨by simp [hl], .inr ⟨blk, cap, putCells enc 0 l.toArray cur, rfl, Nat.zero_le _, ?_, hnc, hcm, by simp [putCells, hs], ?_⟩⟩
    · unfold sortWorld
      rw [heap_grow_old _ _ (by rw [size_putRow]; exact hlt)]
      show (w.heap.modify blk _)[blk]? = _
      rw [Array.getElem?_modify, if_pos rfl, hh]
      rfl
    · apply List.ext_getElem?
      intro i
      rw [List.getElem?_take]
      by_cases hi : i < n
      · rw [if_pos (by omega)]
        have hi2 : i < cur.size := by omega
        have hi3 : i < l.length := by omega
        simp [putCells, hi2, hi3]
      · rw [if_neg (by omega)]
        rw [List.getElem?_eq_none (by simp; omega)]
end
theorem Reads.sorted {α : Type} [Inhabited α] {enc : α → Value} {w : World} {bx d gt n c blk : Nat} {L : List Tx} (h : Reads w bx d gt n c L) (h1 : bx ≠ blk) (h2 : d ≠ blk) (h3 : gt ≠ blk) (m : Nat) (dk : Array α) (os : Array Obj) :
    Reads (sortWorld enc w blk 0 m dk os) bx d gt n c L := by
  have hc : ∀ {b o : Nat} {v : Value}, b ≠ blk → w.cell? ⟨b, o, none⟩ = some v → (sortWorld enc w blk 0 m dk os).cell? ⟨b, o, none⟩ = some v := by
    intro b o v hb hv
    have hlt := World.block_lt_of_cell? _ _ hv
    rw [← hv]
    simp only [World.cell?]
    rw [sw_heap enc w blk 0 m dk os b hlt hb]
  exact ⟨hc h1 h.box, hc h2 h.tv, fun i hi => hc h3 (h.tx i hi)⟩

/-! ### the sort -/
section
variable {n : Nat} (L : List Tx)
def cfF (x y : Fin n) : Int := Lib.compareBytes (txt L x) (txt L y)
theorem lt_cf (x y : Fin n) : ltOf (cfF L) x y = decide (txt L x < txt L y) := by
  unfold ltOf cfF; rw [cmp_neg, less_dec]
theorem swo_cf : SWO (ltOf (cfF (n := n) L)) where
  irrefl x := by rw [lt_cf]; simp [tx_irrefl]
  trans x y z h1 h2 := by rw [lt_cf] at *; simp only [decide_eq_true_eq] at *; exact tx_trans h1 h2
  ntrans x y z h1 h2 := by
    rw [lt_cf] at *; simp only [decide_eq_false_iff_not] at *
    intro h3
    by_cases h4 : txt L y < txt L x
    · exact h2 (tx_trans h4 h3)
    · rw [tx_tri h1 h4] at h3; exact h2 h3
theorem tot_cf (hn : L.Nodup) (hl : L.length = n) (x y : Fin n) (h1 : ltOf (cfF L) x y = false) (h2 : ltOf (cfF L) y x = false) : x = y := by
  rw [lt_cf] at *; simp only [decide_eq_false_iff_not] at *
  exact Fin.ext (txt_inj hn (by omega) (by omega) (tx_tri h1 h2))
end
theorem fins {n : Nat} : ∀ (S : List Nat), (∀ x ∈ S, x < n) → ∃ l : List (Fin n), l.map Fin.val = S
  | [], _ => ⟨[], rfl⟩
  | a :: S, h => by
    obtain ⟨l, hl⟩ := fins S fun x hx => h x (List.mem_cons_of_mem _ hx)
    exact ⟨⟨a, h a (by simp)⟩ :: l, by simp [hl]⟩
theorem sorted_fins {L : List Tx} (hn : L.Nodup) {S : List Nat} (hS : S.Perm (List.range L.length)) {l : List (Fin L.length)} (hl : l.map Fin.val = S) :
    Ord L ((l.mergeSort fun x y => !ltOf (cfF L) y x).map Fin.val) := by
  have hp := List.mergeSort_perm l (fun x y => !ltOf (cfF L) y x)
  refine ⟨(hp.map Fin.val).trans (hl ▸ hS), ?_⟩
  have hs := List.pairwise_mergeSort (le := fun x y : Fin L.length => !ltOf (cfF L) y x) (fun a b c h1 h2 => by
    simp only [lt_cf, Bool.not_eq_true', decide_eq_false_iff_not] at *
    intro h3
    by_cases h4 : txt L b < txt L c
    · exact h1 (tx_trans h4 h3) |>.elim
    · exact h1 (by rw [tx_tri h4 h2]; exact h3)) (fun a b => by
    simp only [lt_cf, Bool.or_eq_true, Bool.not_eq_true', decide_eq_false_iff_not]
    by_cases h : txt L b < txt L a
    · exact .inr (tx_asymm h)
    · exact .inl h) l
  have hnd : (l.mergeSort fun x y => !ltOf (cfF L) y x).Nodup := by
    rw [hp.nodup_iff]
    have : (l.map Fin.val).Nodup := by rw [hl]; exact hS.nodup_iff.2 List.nodup_range
    exact (List.pairwise_map.1 this).imp fun h e => h (congrArg _ e)
  rw [List.pairwise_map]
  refine (hs.and hnd).imp ?_
  intro a b ⟨h1, h2⟩
  simp only [lt_cf, Bool.not_eq_true', decide_eq_false_iff_not] at h1
  by_cases h3 : txt L a < txt L b
  · exact h3
  · exact absurd (Fin.ext (txt_inj hn a.2 b.2 (tx_tri h3 h1))) h2

def SortP (gs n cap : Nat) (L : List Tx) (w : World) (e : Ending) (w' : World) : Prop :=
  e = .returned (.tuple #[]) ∧ Fr (One gs) w w' ∧ ∃ S', Ord L S' ∧ w'.ownsRow 0 3 1 (.slice (some ⟨gs, 0, none⟩) n cap) n (S'.map encN)
theorem sort_any (bx d gt c gs cap : Nat) (L : List Tx) (S : List Nat) (w : World) (hR : Reads w bx d gt L.length c L) (h1 : bx ≠ gs) (h2 : d ≠ gs) (h3 : gt ≠ gs) (hn : L.Nodup) (h0 : 0 < L.length) (hm : L.length ≤ 4096)
    (hS : S.Perm (List.range L.length)) (hrow : w.ownsRow 0 3 1 (.slice (some ⟨gs, 0, none⟩) L.length cap) L.length (S.map encN)) :
    Calls Try.prog 37 #[.slice (some ⟨gs, 0, none⟩) L.length cap, .func (.func 38) #[] #[.pointer (some ⟨bx, 0, none⟩)]] w (SortP gs L.length cap L w) := by
  haveI : Inhabited (Fin L.length) := ⟨⟨0, h0⟩⟩
  obtain ⟨l, hl⟩ := fins S fun x hx => by simpa using hS.mem_iff.1 hx
  have hlen : l.length = L.length := by
    have : (l.map Fin.val).length = L.length := by rw [hl, hS.length_eq]; simp
    simpa using this
  have hcmp : CmpReads Try.prog 38 #[.pointer (some ⟨bx, 0, none⟩)] (fun x : Fin L.length => encN x) (cfF L) gs 0 l.toArray.size w := by
    intro m os dk hs x y
    exact clos38 bx d gt L.length c L _ (hR.sorted h1 h2 h3 m dk os) x y x.2 y.2
  have hH : Holds (fun x : Fin L.length => encN x) w gs 0 l.toArray := by
    intro j hj
    have hj' : j < L.length := by simpa [hlen] using hj
    rw [Nat.zero_add]
    refine ⟨(hrow.cellAt j (by omega)).trans ?_, hrow.frozenAt j⟩
    rw [← hl]
    simp only [List.map_map, List.getElem?_map]
    have hj2 : j < l.length := by omega
    simp [hj2]
  have h := Any.slices_SortFunc_total Lay.sort (fun x : Fin L.length => encN x) (fun _ => rfl) (cfF L) (swo_cf L) 38 #[.pointer (some ⟨bx, 0, none⟩)] gs 0 cap l.toArray w
    (enters_of Try.func38 (by kernel_rfl) rfl) hcmp.lays hH (hrow.lt gs rfl).2 (by simp only [List.size_toArray]; omega) (tot_cf L hn rfl)
  have hsz : l.toArray.size = L.length := by simpa using hlen
  rw [hsz] at h
  refine (show Calls Try.prog 37 _ _ _ from h).mono ?_
  rintro e w' ⟨rfl, q, os, rfl⟩
  refine ⟨rfl, sw_fr _ _ _ _ _ _ _, _, sorted_fins hn hS hl, ?_⟩
  have := sw_row (fun x : Fin L.length => encN x) hrow q (l.mergeSort fun x y => !ltOf (cfF L) y x) (by rw [(List.mergeSort_perm _ _).length_eq]; exact hlen) os
  rw [List.map_map]
  exact this
theorem sort_none (p : Option Addr) (cap : Nat) (fv : Value) (w : World) : Calls Try.prog 37 #[.slice p 0 cap, fv] w fun e w' => e = .returned (.tuple #[]) ∧ w' = w := by
  have h := AnyF.slices_SortFunc_none (P := Try.prog) (ρ := Lay.sort_ren) { Lay.sort with } p cap fv w
  exact h

/-! ### the search -/
theorem countP_map_val {n : Nat} (p : Nat → Bool) (l : List (Fin n)) : l.countP (fun x => p x.val) = (l.map Fin.val).countP p := by
  rw [List.countP_map]; rfl
def SrchP (L : List Tx) (S : List Nat) (t : Tx) (w : World) (e : Ending) (w' : World) : Prop := (∃ b, e = .returned (.tuple #[.int .i64 (below L S t : Nat), .bool b])) ∧ Fr No w w'
theorem search_any (bx d gt c gs cap : Nat) (L : List Tx) (S : List Nat) (t : Tx) (w : World) (hR : Reads w bx d gt L.length c L) (h1 : bx ≠ gs) (h2 : d ≠ gs) (h3 : gt ≠ gs) (h0 : 0 < L.length) (hm : L.length ≤ 4096)
    (hS : Ord L S) (hrow : w.ownsRow 0 3 1 (.slice (some ⟨gs, 0, none⟩) L.length cap) L.length (S.map encN)) :
    Calls Try.prog 41 #[.slice (some ⟨gs, 0, none⟩) L.length cap, encT t, .func (.func 42) #[] #[.pointer (some ⟨bx, 0, none⟩)]] w (SrchP L S t w) := by
  haveI : Inhabited (Fin L.length) := ⟨⟨0, h0⟩⟩
  obtain ⟨l, hl⟩ := fins S fun x hx => hS.lt hx
  have hlen : l.length = L.length := by
    have : (l.map Fin.val).length = L.length := by rw [hl, hS.len]
    simpa using this
  have hcmp : CmpLaysT Try.prog 42 #[.pointer (some ⟨bx, 0, none⟩)] (fun x : Fin L.length => encN x) (encT t) (fun x => Lib.compareBytes (txt L x) t) gs 0 l.toArray.size w := by
    intro m os dk hs x
    refine (clos42 bx d gt L.length c L t _ (hR.sorted h1 h2 h3 m dk os) x x.2).mono ?_
    rintro e w' ⟨rfl, rfl⟩
    exact ⟨rfl, 0, #[], by rw [grow_empty]; rfl⟩
  have hH : Holds (fun x : Fin L.length => encN x) w gs 0 l.toArray := by
    intro j hj
    have hj' : j < L.length := by simpa [hlen] using hj
    rw [Nat.zero_add]
    refine ⟨(hrow.cellAt j (by omega)).trans ?_, hrow.frozenAt j⟩
    rw [← hl]
    simp only [List.map_map, List.getElem?_map]
    have hj2 : j < l.length := by omega
    simp [hj2]
  have h := Any.slices_BinarySearchFunc Lay.search (fun x : Fin L.length => encN x) (fun _ => rfl) (encT t) (fun x => Lib.compareBytes (txt L x) t) 42 #[.pointer (some ⟨bx, 0, none⟩)] gs 0 cap l.toArray w
    (enters_of Try.func42 (by kernel_rfl) rfl) hcmp hH (hrow.lt gs rfl).2 (by simp only [List.size_toArray]; omega) (by
      intro a b hab hb hlt
      simp only [List.size_toArray] at hb
      rcases Nat.eq_or_lt_of_le hab with e | e
      · rw [e]; exact hlt
      · have ha : a < l.length := by omega
        simp only [List.getElem!_toArray] at hlt ⊢
        rw [getElem!_pos l b hb, cmp_lt] at hlt
        rw [getElem!_pos l a ha, cmp_lt]
        have hsa : a < S.length := by rw [hS.len]; omega
        have hsb : b < S.length := by rw [hS.len]; omega
        have k := (hS.at_ hsa hsb).2 e
        have ea : S[a] = (l[a] : Nat) := by simp [← hl]
        have eb : S[b] = (l[b] : Nat) := by simp [← hl]
        rw [ea, eb] at k
        exact tx_trans k hlt)
  have hsz : l.toArray.size = L.length := by simpa using hlen
  rw [hsz] at h
  refine (show Calls Try.prog 41 _ _ _ from h).mono ?_
  rintro e w' ⟨rfl, q, os, rfl⟩
  have hb : l.toArray.toList.countP (fun x : Fin L.length => decide (Lib.compareBytes (txt L x) t < 0)) = below L S t := by
    unfold below
    rw [← hl, ← countP_map_val]
    refine List.countP_congr fun x _ => ?_
    simp only [decide_eq_true_eq]
    exact cmp_lt _ _
  refine ⟨⟨_, by rw [hb]⟩, ?_⟩
  have hsw := sortWorld_start (fun x : Fin L.length => encN x) w gs 0 l.toArray hH
  have hf := sw_fr (fun x : Fin L.length => encN x) w gs 0 q l.toArray os
  refine ⟨hf.os, hf.tape, hf.output, hf.size, fun k hk _ => ?_⟩
  by_cases e : k = gs
  · subst e
    unfold sortWorld
    rw [heap_grow_old _ _ (by rw [size_putRow]; exact hk)]
    have : (putRow (fun x : Fin L.length => encN x) (Sort.ahead w q) k 0 l.toArray).heap = (putRow (fun x : Fin L.length => encN x) w k 0 l.toArray).heap := rfl
    rw [this, putRow_self _ w k 0 l.toArray hH]
  · exact hf.block k hk e
theorem search_none (p : Option Addr) (cap : Nat) (tv fv : Value) (w : World) : Calls Try.prog 41 #[.slice p 0 cap, tv, fv] w fun e w' => e = .returned (.tuple #[.int .i64 0, .bool false]) ∧ w' = w := by
  have h := Any.slices_BinarySearchFunc_none Lay.search p cap tv fv w
  exact h
theorem clone_owns (b n : Nat) (D : DU) (w : World) (hown : w.ownsMap Try.prog 9 (plainElem Try.prog 3) b n D) :
    Calls Try.prog 33 #[.map (some b)] w fun e w' => e = .returned (.map (some w.heap.size)) ∧ w'.ownsMap Try.prog 9 (plainElem Try.prog 3) w.heap.size n D ∧ w'.ownsMap Try.prog 9 (plainElem Try.prog 3) b n D ∧ Below w.heap.size w w' := by
  have h := AnyW.maps_Clone_owns Lay.cloneM 9 (plainElem Try.prog 3) b n D w hown
  exact h
theorem clone_nil (w : World) : Calls Try.prog 33 #[.map none] w fun e w' => e = .returned (.map none) ∧ w' = w := by
  have h := AnyW.maps_Clone_nil Lay.cloneM w
  exact h
end Go.Proofs.Ytlglfcadoofmpaa
