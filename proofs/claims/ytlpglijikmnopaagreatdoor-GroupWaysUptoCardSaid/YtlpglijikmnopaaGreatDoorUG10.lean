/- Rows of structs sorted by their keys, by the shelf's contract. -/
import Derived.Test.YtlpglijikmnopaaGreatDoorUM2
import Derived.Test.YtlpglijikmnopaaGreatDoorSH2
namespace Go.Proofs.YtlpglijikmnopaaGreatDoor
open Go.RowKit Go.Maps Go.Sort Go.Proofs
set_option linter.unusedVariables false

section
variable {α : Type} [Inhabited α]
theorem swk_heap (enc : α → List Value) (k : Nat) (w : World) (blk m : Nat) (dk : Array α) (os : Array Obj) (j : Nat) (hj : j < w.heap.size) (hne : j ≠ blk) : (sortWorldK enc k w blk 0 m dk os).heap[j]? = w.heap[j]? := by
  unfold sortWorldK putRowK
  have e : ∀ (x : World) (os : Array Obj), j < x.heap.size → (grow x os).heap[j]? = x.heap[j]? := fun x os h => by
    show (x.heap ++ os)[j]? = _
    rw [Array.getElem?_append_left h]
  rw [e _ _ (by simp; exact hj)]
  show ((Sort.ahead w m).heap.modify blk _)[j]? = _
  rw [Array.getElem?_modify, if_neg (fun e => hne e.symm)]
  rfl
theorem swk_size (enc : α → List Value) (k : Nat) (w : World) (blk m : Nat) (dk : Array α) (os : Array Obj) : w.heap.size ≤ (sortWorldK enc k w blk 0 m dk os).heap.size := by
  unfold sortWorldK putRowK
  show w.heap.size ≤ ((putRow id (Sort.ahead w m) blk 0 (flatK enc k dk)).heap ++ os).size
  rw [Array.size_append]
  simp
theorem swk_fr (enc : α → List Value) (k : Nat) (w : World) (blk m : Nat) (dk : Array α) (os : Array Obj) : Fr (fun j => j = blk) w (sortWorldK enc k w blk 0 m dk os) :=
  ⟨rfl, rfl, rfl, swk_size enc k w blk m dk os, fun j hj hn => swk_heap enc k w blk m dk os j hj hn⟩
theorem swk_row (enc : α → List Value) {k : Nat} {w : World} {b blk n cap : Nat} {e : TypeId} {xs : List Value} (h : w.ownsRow b e k (.slice (some ⟨blk, 0, none⟩) n cap) n xs) (m : Nat) (dk : Array α) (hd : dk.size = n) (os : Array Obj) :
    (sortWorldK enc k w blk 0 m dk os).ownsRow b e k (.slice (some ⟨blk, 0, none⟩) n cap) n (flatK enc k dk).toList := by
  have hlt := (h.lt blk rfl).2
  rcases h.2 with ⟨e1, _⟩ | ⟨g, cap', cur, e1, hb, hh, hnc, hcm, hs, ht⟩
  · cases e1
  · injection e1 with e1 _ e2
    injection e1 with e1
    injection e1 with e1 _
    subst e1; subst e2
    have hle : n * k ≤ cap * k := Nat.mul_le_mul_right k hnc
    refine ⟨by simp [hd], .inr ⟨blk, cap, putCells id 0 (flatK enc k dk) cur, rfl, hb, ?_, hnc, hcm, by simp [putCells, hs], ?_⟩⟩
    · unfold sortWorldK putRowK
      have e : ∀ (x : World) (os : Array Obj), blk < x.heap.size → (grow x os).heap[blk]? = x.heap[blk]? := fun x os h => by
        show (x.heap ++ os)[blk]? = _
        rw [Array.getElem?_append_left h]
      rw [e _ _ (by simp; exact hlt)]
      show ((Sort.ahead w m).heap.modify blk _)[blk]? = _
      rw [Array.getElem?_modify, if_pos rfl]
      show Option.map _ (w.heap[blk]?) = _
      rw [hh]
      rfl
    · apply List.ext_getElem?
      intro i
      rw [List.getElem?_take]
      by_cases hi : i < n * k
      · rw [if_pos (by omega)]
        have hi2 : i < cur.size := by omega
        have hi3 : i < (flatK enc k dk).size := by simp [hd]; omega
        have hi3' : i < dk.size * k := by simpa using hi3
        simp [putCells, hi2, hi3']
      · rw [if_neg (by omega)]
        rw [List.getElem?_eq_none (by simp [hd]; omega)]
end
section
variable {β : Type} {E : EG β} {e size : Nat}
/-- slices.SortFunc over a row of structs, by a closure that compares their keys. -/
theorem sort_rows {ρ : Go.Shelf.Ren} (L : SlLaysF0.n6 Tryz.prog ρ) (hE : Elem E) (aE : ∀ w, (isAgg (ρ.t 24)).run Tryz.prog w = .ok true w) (zE : ∀ w, (Go.sizeOf (ρ.t 24)).run Tryz.prog w = .ok size w) (hs : 0 < size) (key : β → Ky) {gcl : Nat}
    (eg : ∀ args w, (callFunc gcl args).run Tryz.prog w = .ok (.enter gcl args) w) (hone : ∀ K w x cs, E K w x cs → ∀ u ∈ cs, u.oneCell' = true)
    (hcl : ∀ K w' x y cs ds, E K w' x cs → E K w' y ds → Calls Tryz.prog gcl #[.agg cs.toArray, .agg ds.toArray] w' fun e w'' => e = .returned (.int .i64 (cmpK (key x) (key y))) ∧ ∃ os', w'' = grow w' os')
    {X : Nat → Prop} {b : Nat} {w : World} {v : Value} {l : List β} (h : GrX X b e size E w v l) (hlen : l.length < 4611686018427387904) :
    Calls Tryz.prog (ρ.f 6) #[v, .func (.func gcl) #[] #[]] w fun en w' => en = .returned (.tuple #[]) ∧ ∃ l', l'.Perm l ∧ (l'.Pairwise fun x y => ¬ key y < key x) ∧ GrX X b e size E w' v l' ∧ Fr (fun k => v.ownBlock = some k) w w' := by
  have h' := h
  obtain ⟨K, xs, ho, hel, hK⟩ := h
  by_cases h0 : 0 < l.length
  · obtain ⟨g, c, rfl⟩ : ∃ g c, v = .slice (some ⟨g, 0, none⟩) l.length c := by
      rcases ho.2 with ⟨_, e2⟩ | ⟨g, cap, cur, e1, _⟩
      · omega
      · exact ⟨g, cap, e1⟩
    haveI : Inhabited (Fin l.length) := ⟨⟨0, h0⟩⟩
    obtain ⟨n, hn⟩ : ∃ n, l.length = n := ⟨_, rfl⟩
    have hxl : xs.length = l.length * size := ho.1
    obtain ⟨enc, henc⟩ : ∃ enc : Fin l.length → List Value, enc = fun i => (xs.drop (i.1 * size)).take size := ⟨_, rfl⟩
    have hbd : ∀ i : Fin l.length, i.1 * size + size ≤ xs.length := fun i => by
      have := Nat.mul_le_mul_right size (show i.1 + 1 ≤ l.length from i.2)
      rw [Nat.add_mul, Nat.one_mul] at this
      omega
    have hencl : ∀ i, (enc i).length = size := fun i => by
      have := hbd i
      rw [henc]
      simp
      omega
    have hencE : ∀ i : Fin l.length, E K w l[i.1] (enc i) := fun i => by
      obtain ⟨cs, h1, h2, h3⟩ := hel i.1 i.2
      have : enc i = cs := by
        apply List.ext_getElem?
        intro q
        by_cases hq : q < size
        · rw [henc]
          simp only [List.getElem?_take, if_pos hq, List.getElem?_drop]
          exact h2 q hq
        · rw [List.getElem?_eq_none (by rw [hencl]; omega), List.getElem?_eq_none (by omega)]
      rw [this]; exact h3
    have hh1 : ∀ x, ∀ v ∈ enc x, v.oneCell' = true := fun x => hone K w _ _ (hencE x)
    have hKW : ∀ (W : World), Fr (fun j => j = g) w W → ∀ i : Fin l.length, E K W l[i.1] (enc i) := fun W f i => hE.mono _ _ _ _ _ _ (hencE i) fun k hk hlt => ⟨hk, f.block k hlt fun e => (hK k hk).2.2 (by rw [e]; rfl)⟩
    let cf : Fin l.length → Fin l.length → Int := fun x y => cmpK (key l[x.1]) (key l[y.1])
    have hO : SWO (ltOf cf) := ⟨fun x => by unfold ltOf; simp only [cf]; rw [decide_eq_false]; rw [cmpK_neg]; exact ky_irrefl _,
      fun x y z h1 h2 => by unfold ltOf at *; simp only [cf, decide_eq_true_eq, cmpK_neg] at *; exact ky_trans h1 h2,
      fun x y z h1 h2 => by
        unfold ltOf at *
        simp only [cf, decide_eq_false_iff_not, cmpK_neg] at *
        intro h3
        by_cases h4 : key l[y.1] < key l[x.1]
        · exact h2 (ky_trans h4 h3)
        · rw [ky_tri h1 h4] at h3; exact h2 h3⟩
    let d : Array (Fin l.length) := Array.ofFn fun i => i
    have hds : d.size = l.length := by simp [d]
    have hcmp : CmpLays Tryz.prog gcl #[] enc size cf g 0 d.size w := by
      intro m os dk hdk x y
      have f := swk_fr enc size w g m dk os
      have hc := hcl K _ _ _ _ _ (hKW _ f x) (hKW _ f y)
      refine (show Calls Tryz.prog gcl _ _ _ from hc).mono fun e w' hh => ?_
      obtain ⟨h1, os', h2⟩ := hh
      exact ⟨h1, 0, os', h2⟩
    have hH : HoldsK enc size w g 0 d := by
      intro j hj
      have hj' : j < l.length * size := by simpa [hds] using hj
      rw [Nat.zero_add]
      refine ⟨(ho.cellAt j hj').trans ?_, ho.frozenAt j⟩
      have hjd : j / size < l.length := Nat.div_lt_of_lt_mul (by rw [Nat.mul_comm]; exact hj')
      rw [get_flatK enc size d j (by rw [hds]; exact hj')]
      have e1 : d[j / size]! = ⟨j / size, hjd⟩ := by
        rw [getElem!_pos d (j / size) (by rw [hds]; exact hjd)]
        simp [d]
      rw [e1]
      have hq : j % size < size := Nat.mod_lt _ hs
      have e2 : (enc ⟨j / size, hjd⟩)[j % size]! = (enc ⟨j / size, hjd⟩)[j % size]'(by rw [hencl]; exact hq) := getElem!_pos _ _ (by rw [hencl]; exact hq)
      rw [e2]
      have e3 : (enc ⟨j / size, hjd⟩)[j % size]? = xs[j]? := by
        rw [henc]
        simp only [List.getElem?_take, if_pos hq, List.getElem?_drop]
        rw [Nat.mul_comm, Nat.div_add_mod]
      rw [List.getElem?_eq_getElem (by rw [hencl]; exact hq)] at e3
      rw [← e3]
      rfl
    have hS := AnyQ.slices_SortFunc L size aE zE enc hencl hh1 cf hO gcl #[] g 0 c d w eg hcmp hH (ho.lt g rfl).2 (by rw [hds]; exact hlen)
    rw [hds] at hS
    refine hS.mono fun en w' hh => ?_
    obtain ⟨he, d', m, os, hp, hsr, rfl⟩ := hh
    have hd's : d'.size = l.length := hp.1.trans hds
    have hpl : d'.toList.Perm d.toList := by
      have := hp.2.2
      rwa [show d'.extract 0 l.length = d' from Array.extract_eq_self_of_le (by omega), show d.extract 0 l.length = d from Array.extract_eq_self_of_le (by omega)] at this
    have hdl : d.toList.map (fun i : Fin l.length => l[i.1]) = l := by
      apply List.ext_getElem
      · simp [d]
      · intro i h1 h2
        simp [d]
    have f := swk_fr enc size w g m d' os
    have hlen' : (d'.toList.map fun i : Fin l.length => l[i.1]).length = l.length := by simp [hd's]
    refine ⟨he, d'.toList.map (fun i : Fin l.length => l[i.1]), ?_, ?_, ⟨K, (flatK enc size d').toList, ?_, fun j hj => ?_, fun k hk => ?_⟩, f.mono fun k _ hk => by rw [hk]; rfl⟩
    · have := hpl.map (fun i : Fin l.length => l[i.1])
      rwa [hdl] at this
    · rw [List.pairwise_iff_getElem]
      intro i j hi hj hij
      have hi' : i < d'.size := by simpa using hi
      have hj' : j < d'.size := by simpa using hj
      have := hsr i j (Nat.zero_le _) hij (by omega)
      rw [getElem!_pos d' i hi', getElem!_pos d' j hj'] at this
      unfold ltOf at this
      simp only [cf, decide_eq_false_iff_not, cmpK_neg] at this
      simpa using this
    · have := swk_row enc ho m d' hd's os
      rw [hlen']
      exact this
    · rw [hlen'] at hj
      have hj' : j < d'.size := by omega
      refine ⟨enc d'[j], hencl _, fun q hq => ?_, ?_⟩
      · have hjq : j * size + q < d'.size * size := by
          have := Nat.mul_le_mul_right size (show j + 1 ≤ d'.size by omega)
          rw [Nat.add_mul, Nat.one_mul] at this
          omega
        rw [Array.getElem?_toList, Array.getElem?_eq_getElem (by rw [size_flatK]; exact hjq)]
        have h1 := get_flatK enc size d' (j * size + q) hjq
        rw [getElem!_pos _ _ (by rw [size_flatK]; exact hjq)] at h1
        rw [h1]
        have e1 : (j * size + q) / size = j := by
          rw [Nat.mul_comm, Nat.mul_add_div hs, Nat.div_eq_of_lt hq, Nat.add_zero]
        have e2 : (j * size + q) % size = q := by
          rw [Nat.mul_comm, Nat.mul_add_mod, Nat.mod_eq_of_lt hq]
        rw [e1, e2, getElem!_pos d' j hj', getElem!_pos (enc d'[j]) q (by rw [hencl]; exact hq), List.getElem?_eq_getElem (by rw [hencl]; exact hq)]
      · have := hKW _ f d'[j]
        simpa using this
    · obtain ⟨h1, h2, h3⟩ := hK k hk
      exact ⟨h1, Nat.lt_of_lt_of_le h2 f.size, h3⟩
  · obtain rfl : l = [] := List.eq_nil_of_length_eq_zero (by omega)
    obtain ⟨A, c, rfl⟩ := h'.len
    have hS := AnyF.slices_SortFunc_none L A c (.func (.func gcl) #[] #[]) w
    refine (show Calls Tryz.prog (ρ.f 6) _ _ _ from hS).mono fun en w' hh => ?_
    obtain ⟨he, rfl⟩ := hh
    exact ⟨he, [], List.Perm.refl _, List.Pairwise.nil, h', Fr.refl _ _⟩
end
end Go.Proofs.YtlpglijikmnopaaGreatDoor
