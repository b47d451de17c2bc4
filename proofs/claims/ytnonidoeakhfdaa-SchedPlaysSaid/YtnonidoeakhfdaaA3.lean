/- A table by numbers whose elements lie in blocks of their own: what is kept while one turns, comes, or goes. -/
import Derived.Test.YtnonidoeakhfdaaA2
namespace Go.Proofs.Ytnonidoeakhfdaa
open Go.RowKit Go.Maps
set_option linter.unusedVariables false

def upd {α : Type} (f : Int → α) (n : Int) (x : α) (m : Int) : α := if m = n then x else f m
theorem upd_same {α : Type} (f : Int → α) (n : Int) (x : α) : upd f n x n = x := by simp [upd]
theorem upd_other {α : Type} (f : Int → α) {n m : Int} (x : α) (h : m ≠ n) : upd f n x m = f m := by simp [upd, h]
theorem upd_upd {α : Type} (f : Int → α) (n : Int) (x y : α) : upd (upd f n x) n y = upd f n y := by funext m; unfold upd; split <;> rfl

theorem isKeyI (n : Int) : WideAt.IsKeyLit (.int .i64 n) := by simp [WideAt.IsKeyLit]
theorem keyI_ne {s t : Int} (h : s ≠ t) : (Lit.int .i64 s) ≠ .int .i64 t := by simpa using h
theorem wf64 {n : Int} (h0 : -9223372036854775808 ≤ n) (h1 : n ≤ 9223372036854775807) : (Lit.int .i64 n).wf = true := WalkArith.wf_i64 ⟨h0, h1⟩
theorem key3 (n : Int) (hn : (Lit.int .i64 n).wf = true) : keyOf Try.prog 3 (.int .i64 n) = some (.int .i64 n) := keyOf_int_mk Try.underlying3 hn
theorem law3 : Keyed Try.prog 3 := int_keyed Try.underlying3

def One (d k : Nat) : Prop := k = d
theorem mapTurned_one {w w' : World} {b : Nat} (h : w.mapTurned w' b) : Fr (One b) w w' :=
  (Fr.refl _ w).grown h.grown fun k hk _ => by cases hk; rfl

/-- The blocks of an element. -/
def ef (p : Nat × Value) (k : Nat) : Prop := k = p.1 ∨ p.2.ownBlock = some k

/-- A kind of elements. -/
structure Knd (α : Type) where
  el : World → Nat × Value → α → Prop
  of : ∀ {w w' : World} {p : Nat × Value} {x : α}, el w p x → (∀ k, ef p k → w'.heap[k]? = w.heap[k]?) → el w' p x
  cells : ∀ {w : World} {p : Nat × Value} {x : α} {k : Nat}, el w p x → ef p k → ∃ cs t, w.heap[k]? = some (.cells cs t (0, 0))

/-- Where a table lies. -/
structure RT where
  m : Option Nat
  D : DU
  c : Int → Nat × Value

section
variable {α : Type} (K : Knd α)

def ElAt (w : World) (R : RT) (n : Int) : Option α → Prop
  | none => has R.D (.int .i64 n) = false
  | some x => (∀ z, R.D.atKey (.int .i64 n) z = .lit (.int .i64 (R.c n).1)) ∧ K.el w (R.c n) x

structure TabAt (w : World) (R : RT) (keys : List Int) (f : Int → Option α) : Prop where
  map : MapAt w Try.prog 3 ptrElem R.m R.D
  el : ∀ n, ElAt K w R n (f n)
  ap : ∀ n m x y, n ≠ m → f n = some x → f m = some y → ∀ k, ef (R.c n) k → ¬ ef (R.c m) k
  sz : Maps.size R.D = keys.length

def tf (R : RT) (f : Int → Option α) (k : Nat) : Prop := R.m = some k ∨ ∃ n x, f n = some x ∧ ef (R.c n) k

/-- The numbers are those that are there, each once. -/
def Rt (keys : List Int) (f : Int → Option α) : Prop := keys.Nodup ∧ ∀ n, n ∈ keys ↔ (f n).isSome = true

variable {K}
variable {w w' : World} {R R' : RT} {keys keys' : List Int} {f f' : Int → Option α}

theorem blk_lt {k : Nat} {o : Obj} (h : w.heap[k]? = some o) : k < w.heap.size := by
  rcases Nat.lt_or_ge k w.heap.size with hlt | hge
  · exact hlt
  · rw [Array.getElem?_eq_none hge] at h; cases h

theorem TabAt.get (h : TabAt K w R keys f) {n : Int} {x : α} (hx : f n = some x) : (∀ z, R.D.atKey (.int .i64 n) z = .lit (.int .i64 (R.c n).1)) ∧ K.el w (R.c n) x := by
  have := h.el n
  rw [hx] at this
  exact this
theorem TabAt.has (h : TabAt K w R keys f) {n : Int} {x : α} (hx : f n = some x) : Maps.has R.D (.int .i64 n) = true := has_true_of_atKey (h.get hx).1
theorem TabAt.not (h : TabAt K w R keys f) {n : Int} (hx : f n = none) : Maps.has R.D (.int .i64 n) = false := by
  have := h.el n
  rw [hx] at this
  exact this

theorem ElAt.of {n : Int} {o : Option α} (h : ElAt K w R n o) (hk : ∀ x, o = some x → ∀ k, ef (R.c n) k → w'.heap[k]? = w.heap[k]?) : ElAt K w' R n o := by
  cases o with
  | none => exact h
  | some x => exact ⟨h.1, K.of h.2 (hk x rfl)⟩

theorem TabAt.of (h : TabAt K w R keys f) (hk : ∀ k, tf R f k → w'.heap[k]? = w.heap[k]?) : TabAt K w' R keys f where
  map := h.map.of fun b hb => hk _ (.inl hb)
  el n := (h.el n).of fun x hx k hb => hk _ (.inr ⟨n, x, hx, hb⟩)
  ap := h.ap
  sz := h.sz

theorem TabAt.lt (h : TabAt K w R keys f) : ∀ k, tf R f k → k < w.heap.size := by
  rintro k (hk | ⟨n, x, hx, hk⟩)
  · exact h.map.lt k hk
  · obtain ⟨cs, t, hc⟩ := K.cells (h.get hx).2 hk
    exact blk_lt hc

theorem TabAt.fr (h : TabAt K w R keys f) {F : Nat → Prop} (hf : Fr F w w') (hd : ∀ k, tf R f k → ¬ F k) : TabAt K w' R keys f :=
  h.of fun k hk => hf.block k (h.lt k hk) (hd k hk)

theorem TabAt.not_map (h : TabAt K w R keys f) {k : Nat} {cs : Array Value} {t : TypeId} {fz : Nat × Nat} (hc : w.heap[k]? = some (.cells cs t fz)) : R.m ≠ some k := by
  intro e
  have hm := h.map
  rw [e] at hm
  obtain ⟨es, c, he⟩ := owns_map (b := k) hm
  exact map_ne_blk he hc rfl

/-- An element's blocks are neither the map's nor another's. -/
theorem TabAt.other (h : TabAt K w R keys f) {n : Int} {x : α} (hx : f n = some x) {k : Nat} (hk : ef (R.c n) k) :
    R.m ≠ some k ∧ ∀ m y, m ≠ n → f m = some y → ¬ ef (R.c m) k := by
  obtain ⟨cs, t, hc⟩ := K.cells (h.get hx).2 hk
  exact ⟨h.not_map hc, fun m y hne hy => h.ap n m x y (Ne.symm hne) hx hy k hk⟩

theorem TabAt.mapSome (h : TabAt K w R keys f) {n : Int} {x : α} (hx : f n = some x) : ∃ b, R.m = some b := by
  cases hm : R.m with
  | some b => exact ⟨b, rfl⟩
  | none =>
    have hf := h.map
    rw [hm] at hf
    have hD : R.D = .map [] := hf
    have := h.has hx
    rw [hD] at this
    cases this

/-- What a call leaves of a table. -/
structure PT (K : Knd α) (R : RT) (f : Int → Option α) (w : World) (R' : RT) (keys' : List Int) (f' : Int → Option α) (w' : World) : Prop where
  at_ : TabAt K w' R' keys' f'
  fr : Fr (tf R f) w w'
  foot : ∀ k, tf R' f' k → tf R f k ∨ w.heap.size ≤ k

/-- One element turns. -/
theorem PTset (h : TabAt K w R keys f) {n : Int} {x x' : α} {v' : Value} (hx : f n = some x) (hf : Fr (ef (R.c n)) w w')
    (hl : K.el w' ((R.c n).1, v') x') (hv : ∀ k, v'.ownBlock = some k → ef (R.c n) k ∨ w.heap.size ≤ k) :
    PT K R f w { R with c := upd R.c n ((R.c n).1, v') } keys (upd f n (some x')) w' := by
  have lt := h.lt
  have oth := fun k (hk : ef (R.c n) k) => h.other hx hk
  have same : ∀ k, tf R f k → ¬ ef (R.c n) k → w'.heap[k]? = w.heap[k]? := fun k hk hn => hf.block k (lt k hk) hn
  have nb : ∀ k, ef ((R.c n).1, v') k → ef (R.c n) k ∨ w.heap.size ≤ k := by
    rintro k (hk | hk)
    · exact .inl (.inl hk)
    · exact hv k hk
  have hA : TabAt K w' { R with c := upd R.c n ((R.c n).1, v') } keys (upd f n (some x')) := {
    map := h.map.of fun b hb => same _ (.inl hb) fun hk => (oth _ hk).1 hb
    el := fun m => by
      by_cases e : m = n
      · subst e
        rw [upd_same]
        refine ⟨fun z => ?_, ?_⟩
        · show R.D.atKey _ z = .lit (.int .i64 (upd R.c m _ m).1)
          rw [upd_same]; exact (h.get hx).1 z
        · show K.el w' (upd R.c m _ m) x'
          rw [upd_same]; exact hl
      · rw [upd_other _ _ e]
        have hm := h.el m
        cases hq : f m with
        | none => rw [hq] at hm; exact hm
        | some y =>
          rw [hq] at hm
          obtain ⟨h1, h2⟩ := hm
          refine ⟨fun z => ?_, ?_⟩
          · show R.D.atKey _ z = .lit (.int .i64 (upd R.c n _ m).1)
            rw [upd_other _ _ e]; exact h1 z
          · show K.el w' (upd R.c n _ m) y
            rw [upd_other _ _ e]
            exact K.of h2 fun k hk => same k (.inr ⟨m, y, hq, hk⟩) fun hn => (oth k hn).2 m y e hq hk
    ap := fun m1 m2 y1 y2 hne h1 h2 k hk1 hk2 => by
      by_cases e1 : m1 = n
      · subst e1
        have e2 : m2 ≠ m1 := Ne.symm hne
        rw [upd_other _ _ e2] at h2
        have hk2' : ef (R.c m2) k := by simpa only [upd_other _ _ e2] using hk2
        have hk1' : ef ((R.c m1).1, v') k := by simpa only [upd_same] using hk1
        rcases nb k hk1' with hk1 | hk1
        · exact h.ap m1 m2 x y2 hne hx h2 k hk1 hk2'
        · have := lt k (.inr ⟨m2, y2, h2, hk2'⟩); omega
      · rw [upd_other _ _ e1] at h1
        have hk1' : ef (R.c m1) k := by simpa only [upd_other _ _ e1] using hk1
        by_cases e2 : m2 = n
        · subst e2
          have hk2' : ef ((R.c m2).1, v') k := by simpa only [upd_same] using hk2
          rcases nb k hk2' with hk2 | hk2
          · exact h.ap m1 m2 y1 x hne h1 hx k hk1' hk2
          · have := lt k (.inr ⟨m1, y1, h1, hk1'⟩); omega
        · rw [upd_other _ _ e2] at h2
          have hk2' : ef (R.c m2) k := by simpa only [upd_other _ _ e2] using hk2
          exact h.ap m1 m2 y1 y2 hne h1 h2 k hk1' hk2'
    sz := h.sz }
  refine ⟨hA, hf.mono fun k _ hk => .inr ⟨n, x, hx, hk⟩, fun k hk => ?_⟩
  rcases hk with hk | ⟨m, y, hy, hk⟩
  · exact .inl (.inl hk)
  · by_cases e : m = n
    · subst e
      have hk' : ef ((R.c m).1, v') k := by simpa only [upd_same] using hk
      rcases nb k hk' with hk | hk
      · exact .inl (.inr ⟨m, x, hx, hk⟩)
      · exact .inr hk
    · rw [upd_other _ _ e] at hy
      have hk' : ef (R.c m) k := by simpa only [upd_other _ _ e] using hk
      exact .inl (.inr ⟨m, y, hy, hk'⟩)

theorem filter_ne_len : ∀ (l : List Int) (n : Int), l.Nodup → n ∈ l → (l.filter (fun k => decide (k ≠ n))).length + 1 = l.length
  | [], n, _, h => by cases h
  | x :: l, n, hp, h => by
    rw [List.nodup_cons] at hp
    by_cases e : x = n
    · subst e
      have : l.filter (fun k => decide (k ≠ x)) = l := by
        rw [List.filter_eq_self]
        intro a ha
        have : a ≠ x := fun e => hp.1 (e ▸ ha)
        simpa using this
      rw [List.filter_cons_of_neg (by simp), this]; rfl
    · have hm : n ∈ l := by
        rcases List.mem_cons.1 h with h | h
        · exact absurd h.symm e
        · exact h
      have := filter_ne_len l n hp.2 hm
      simp only [List.filter_cons, e, ne_eq, not_false_eq_true, decide_true, if_true, List.length_cons]
      simp only [ne_eq] at this
      omega

/-- One element goes. -/
theorem PTdel (h : TabAt K w R keys f) (hr : Rt keys f) {n : Int} {x : α} (hx : f n = some x) {b : Nat} (hb : R.m = some b)
    (hf : Fr (One b) w w') {j : Nat} (ho' : w'.ownsMap Try.prog 3 ptrElem b j (R.D.del (.int .i64 n))) :
    PT K R f w { R with D := R.D.del (.int .i64 n) } (keys.filter (fun k => decide (k ≠ n))) (upd f n none) w' := by
  have ho := owns_tight ho'
  have same : ∀ k, tf R f k → k ≠ b → w'.heap[k]? = w.heap[k]? := fun k hk hn => hf.block k (h.lt k hk) hn
  have hl : ∀ m y, f m = some y → ∀ k, ef (R.c m) k → k ≠ b := fun m y hy k hk e => (h.other hy hk).1 (e ▸ hb)
  have hA : TabAt K w' { R with D := R.D.del (.int .i64 n) } (keys.filter (fun k => decide (k ≠ n))) (upd f n none) := {
    map := by
      show MapAt w' Try.prog 3 ptrElem R.m _
      rw [hb]; exact ho
    el := fun m => by
      by_cases e : m = n
      · subst e
        rw [upd_same]
        exact has_del_same
      · rw [upd_other _ _ e]
        have hm := h.el m
        cases hq : f m with
        | none =>
          rw [hq] at hm
          show Maps.has (R.D.del _) _ = false
          rw [has_del_other (keyI_ne e)]; exact hm
        | some y =>
          rw [hq] at hm
          obtain ⟨h1, h2⟩ := hm
          refine ⟨fun z => ?_, K.of h2 fun k hk => same k (.inr ⟨m, y, hq, hk⟩) (hl m y hq k hk)⟩
          show (R.D.del _).atKey _ z = _
          rw [atKey_del_other (keyI_ne e)]; exact h1 z
    ap := fun m1 m2 y1 y2 hne h1 h2 k hk1 hk2 => by
      have e1 : m1 ≠ n := by rintro rfl; rw [upd_same] at h1; cases h1
      have e2 : m2 ≠ n := by rintro rfl; rw [upd_same] at h2; cases h2
      rw [upd_other _ _ e1] at h1
      rw [upd_other _ _ e2] at h2
      exact h.ap m1 m2 y1 y2 hne h1 h2 k hk1 hk2
    sz := by
      have h1 := size_del (k := .int .i64 n) (h.map.tidy law3)
      rw [if_pos (h.has hx)] at h1
      have h2 := filter_ne_len keys n hr.1 ((hr.2 n).2 (by rw [hx]; rfl))
      have h3 := h.sz
      show Maps.size (R.D.del _) = (keys.filter _).length
      omega }
  refine ⟨hA, hf.mono fun k _ hk => .inl (by cases hk; exact hb), fun k hk => ?_⟩
  rcases hk with hk | ⟨m, y, hy, hk⟩
  · exact .inl (.inl hk)
  · have e : m ≠ n := by rintro rfl; rw [upd_same] at hy; cases hy
    rw [upd_other _ _ e] at hy
    exact .inl (.inr ⟨m, y, hy, hk⟩)

/-- One element comes, in new blocks. -/
theorem PTadd (h : TabAt K w R keys f) {n : Int} {x : α} {p : Nat × Value} (hn : f n = none) {b : Nat} (hb : R.m = some b)
    (hf : Fr (One b) w w') (hp : ∀ k, ef p k → w.heap.size ≤ k) (hl : K.el w' p x) {j : Nat} (ho' : w'.ownsMap Try.prog 3 ptrElem b j (R.D.put (.int .i64 n) (.lit (.int .i64 (p.1 : Nat))))) :
    PT K R f w { R with D := R.D.put (.int .i64 n) (.lit (.int .i64 (p.1 : Nat))), c := upd R.c n p } (keys ++ [n]) (upd f n (some x)) w' := by
  have ho := owns_tight ho'
  have same : ∀ k, tf R f k → k ≠ b → w'.heap[k]? = w.heap[k]? := fun k hk hn => hf.block k (h.lt k hk) hn
  have hl' : ∀ m y, f m = some y → ∀ k, ef (R.c m) k → k ≠ b := fun m y hy k hk e => (h.other hy hk).1 (e ▸ hb)
  have lt := h.lt
  have hA : TabAt K w' { R with D := R.D.put (.int .i64 n) (.lit (.int .i64 (p.1 : Nat))), c := upd R.c n p } (keys ++ [n]) (upd f n (some x)) := {
    map := by
      show MapAt w' Try.prog 3 ptrElem R.m _
      rw [hb]; exact ho
    el := fun m => by
      by_cases e : m = n
      · subst e
        rw [upd_same]
        refine ⟨fun z => ?_, ?_⟩
        · show (R.D.put _ _).atKey _ z = .lit (.int .i64 (upd R.c m p m).1)
          rw [upd_same]; exact atKey_put_same h.map.isMap (isKeyI m) _ z
        · show K.el w' (upd R.c m p m) x
          rw [upd_same]; exact hl
      · rw [upd_other _ _ e]
        have hm := h.el m
        cases hq : f m with
        | none =>
          rw [hq] at hm
          show Maps.has (R.D.put _ _) _ = false
          rw [has_put_other (keyI_ne e)]; exact hm
        | some y =>
          rw [hq] at hm
          obtain ⟨h1, h2⟩ := hm
          refine ⟨fun z => ?_, ?_⟩
          · show (R.D.put _ _).atKey _ z = .lit (.int .i64 (upd R.c n p m).1)
            rw [upd_other _ _ e, atKey_put_other (keyI_ne e)]; exact h1 z
          · show K.el w' (upd R.c n p m) y
            rw [upd_other _ _ e]
            exact K.of h2 fun k hk => same k (.inr ⟨m, y, hq, hk⟩) (hl' m y hq k hk)
    ap := fun m1 m2 y1 y2 hne h1 h2 k hk1 hk2 => by
      by_cases e1 : m1 = n
      · subst e1
        have e2 : m2 ≠ m1 := Ne.symm hne
        rw [upd_other _ _ e2] at h2
        have hk2' : ef (R.c m2) k := by simpa only [upd_other _ _ e2] using hk2
        have hk1' : ef p k := by simpa only [upd_same] using hk1
        have := hp k hk1'
        have := lt k (.inr ⟨m2, y2, h2, hk2'⟩); omega
      · rw [upd_other _ _ e1] at h1
        have hk1' : ef (R.c m1) k := by simpa only [upd_other _ _ e1] using hk1
        by_cases e2 : m2 = n
        · subst e2
          have hk2' : ef p k := by simpa only [upd_same] using hk2
          have := hp k hk2'
          have := lt k (.inr ⟨m1, y1, h1, hk1'⟩); omega
        · rw [upd_other _ _ e2] at h2
          have hk2' : ef (R.c m2) k := by simpa only [upd_other _ _ e2] using hk2
          exact h.ap m1 m2 y1 y2 hne h1 h2 k hk1' hk2'
    sz := by
      show Maps.size (R.D.put _ _) = (keys ++ [n]).length
      rw [size_put (h.map.tidy law3), h.not hn, h.sz]
      simp }
  refine ⟨hA, hf.mono fun k _ hk => .inl (by cases hk; exact hb), fun k hk => ?_⟩
  rcases hk with hk | ⟨m, y, hy, hk⟩
  · exact .inl (.inl hk)
  · by_cases e : m = n
    · subst e
      have hk' : ef p k := by simpa only [upd_same] using hk
      exact .inr (hp k hk')
    · rw [upd_other _ _ e] at hy
      have hk' : ef (R.c m) k := by simpa only [upd_other _ _ e] using hk
      exact .inl (.inr ⟨m, y, hy, hk'⟩)

theorem Rt.set (h : Rt keys f) {n : Int} {x x' : α} (hx : f n = some x) : Rt keys (upd f n (some x')) := by
  refine ⟨h.1, fun m => ?_⟩
  by_cases e : m = n
  · subst e; rw [upd_same, h.2, hx]; simp
  · rw [upd_other _ _ e]; exact h.2 m
theorem Rt.del (h : Rt keys f) (n : Int) : Rt (keys.filter (fun k => decide (k ≠ n))) (upd f n none) := by
  refine ⟨h.1.filter _, fun m => ?_⟩
  by_cases e : m = n
  · subst e; rw [upd_same]; simp
  · rw [upd_other _ _ e, List.mem_filter, ← h.2 m]; simp [e]
theorem Rt.add (h : Rt keys f) {n : Int} (x : α) (hn : f n = none) : Rt (keys ++ [n]) (upd f n (some x)) := by
  refine ⟨List.nodup_append.2 ⟨h.1, by simp, fun a ha b hb => ?_⟩, fun m => ?_⟩
  · simp at hb; subst hb
    rintro rfl
    have := (h.2 _).1 ha
    rw [hn] at this; cases this
  · by_cases e : m = n
    · subst e; rw [upd_same]; simp
    · rw [upd_other _ _ e, List.mem_append, ← h.2 m]; simp [e]
end

end Go.Proofs.Ytnonidoeakhfdaa
