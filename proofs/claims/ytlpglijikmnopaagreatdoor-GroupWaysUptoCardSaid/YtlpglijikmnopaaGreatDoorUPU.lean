/- The document's put: plain, and pieces of rows. -/
import Derived.Test.YtlpglijikmnopaaGreatDoorUGR
namespace Go.Proofs.YtlpglijikmnopaaGreatDoor
open Go.RowKit Go.Maps Go.Sort Go.Proofs
set_option linter.unusedVariables false

section
variable {γ : Type} (step : Ac → γ → Ac) (z : Ac)
theorem insG_new : ∀ (l : List Rw) (k : Ky) (x : γ) (j : Nat), j ≤ l.length → (∀ i (h : i < l.length), i < j → l[i].key < k) → (∀ h : j < l.length, ¬ l[j].key < k ∧ l[j].key ≠ k) → insG step z l k x = l.take j ++ [⟨k, step z x⟩] ++ l.drop j
  | [], k, x, j, hj, _, _ => by
    obtain rfl : j = 0 := by simpa using hj
    rfl
  | r :: l, k, x, 0, _, _, h2 => by
    obtain ⟨h3, h4⟩ := h2 (by simp)
    have h3' : ¬ r.key < k := h3
    have h4' : ¬ r.key = k := h4
    unfold insG
    rw [if_neg h3', if_neg h4']
    rfl
  | r :: l, k, x, j + 1, hj, h1, h2 => by
    have h0 : r.key < k := h1 0 (by simp) (by omega)
    have ih := insG_new l k x j (by simpa using hj) (fun i h hi => h1 (i + 1) (by simpa using h) (by omega)) (fun h => h2 (by simpa using h))
    conv => lhs; unfold insG
    rw [if_pos h0, ih]
    rfl
theorem insG_old : ∀ (l : List Rw) (k : Ky) (x : γ) (j : Nat) (hj : j < l.length), (∀ i (h : i < l.length), i < j → l[i].key < k) → l[j].key = k → insG step z l k x = setA l j (step l[j].acc x)
  | r :: l, k, x, 0, _, _, h2 => by
    have h2' : r.key = k := h2
    unfold insG
    rw [if_neg (fun h => ky_irrefl _ (h2' ▸ h)), if_pos h2']
    rfl
  | r :: l, k, x, j + 1, hj, h1, h2 => by
    have h0 : r.key < k := h1 0 (by simp) (by omega)
    have hj' : j < l.length := by simpa using hj
    have ih := insG_old l k x j hj' (fun i h hi => h1 (i + 1) (by simpa using h) (by omega)) h2
    conv => lhs; unfold insG
    rw [if_pos h0, ih]
    have e1 : l[j]? = some l[j] := List.getElem?_eq_getElem hj'
    have e2 : (r :: l)[j + 1]? = some l[j] := by rw [List.getElem?_cons_succ]; exact e1
    have e3 : (r :: l)[j + 1] = l[j] := rfl
    unfold setA
    rw [e1, e2, e3]
    rfl
end
theorem mergeL_nil (l : List Pt) : mergeL l [] = l := by cases l <;> rfl
theorem Wf.ins {l : List Rw} (h : Wf l) (k : Ky) {a : Ac} (ha : Lok a.parts) : Wf (insG mergeA zA l k a) := by
  have key : ∀ l : List Rw, Wf l → ∀ r ∈ insG mergeA zA l k a, Lok r.acc.parts := by
    intro l
    induction l with
    | nil =>
      intro _ r hr
      have : r = ⟨k, mergeA zA a⟩ := by simpa [insG] using hr
      rw [this]
      exact mergeL_lok zA_lok ha
    | cons s l ih =>
      intro h r hr
      have hl : Wf l := fun x hx => h x (by simp [hx])
      unfold insG at hr
      split at hr
      · rcases List.mem_cons.1 hr with rfl | hr
        · exact h _ (by simp)
        · exact ih hl r hr
      · split at hr
        · rcases List.mem_cons.1 hr with rfl | hr
          · exact mergeL_lok (h s (by simp)) ha
          · exact h r (by simp [hr])
        · rcases List.mem_cons.1 hr with rfl | hr
          · exact mergeL_lok zA_lok ha
          · exact h r hr
  exact key l h
/-- The first rows of a row; the rest of it. -/
theorem slice_lo {w : World} {A : Option Addr} {n c : Nat} {j : Nat} (hj : j ≤ n) (hnc : n ≤ c) : (Instr.slice 28 (.slice A n c) none (some (.int .i64 (j : Int))) none).run Tryz.prog w = .ok (.slice A j c) w := by
  obtain ⟨i0, hi, hz0, hz1, hz2⟩ := info_parts info50
  have hel : Tryz.prog.underlying 28 = some (.slice (Tryz.prog.elem 28)) := by kernel_rfl
  have hsz : (sizeOf (Tryz.prog.elem 28)).run Tryz.prog w = .ok 3 w := by
    have e : Tryz.prog.elem 28 = 50 := by kernel_rfl
    rw [e]
    simp [sizeOf, typeInfo, hi, hz1]
  have hr := run_slice_h (P := Tryz.prog) w 28 A n c hel .i64 (j : Int) (by omega) (by omega)
  rw [hsz] at hr
  rw [hr]
  simp [sliced]
  intro h
  cases A with
  | none => rfl
  | some a => simp [Addr.add]
theorem slice_hi {w : World} {A : Option Addr} {n c : Nat} {j : Nat} (hj : j ≤ n) (hnc : n ≤ c) : (Instr.slice 28 (.slice A n c) (some (.int .i64 (j : Int))) none none).run Tryz.prog w = .ok (.slice (if c = j then A else A.map (·.add (j * 3))) (n - j) (c - j)) w := by
  obtain ⟨i0, hi, hz0, hz1, hz2⟩ := info_parts info50
  have hel : Tryz.prog.underlying 28 = some (.slice (Tryz.prog.elem 28)) := by kernel_rfl
  have hsz : (sizeOf (Tryz.prog.elem 28)).run Tryz.prog w = .ok 3 w := by
    have e : Tryz.prog.elem 28 = 50 := by kernel_rfl
    rw [e]
    simp [sizeOf, typeInfo, hi, hz1]
  have hr := run_slice_l (P := Tryz.prog) w 28 A n c hel .i64 (j : Int) (by omega) (by omega)
  rw [hsz] at hr
  rw [hr]
  simp [sliced]
theorem RR.take_ {K : Nat → Prop} {w : World} {A : Option Addr} {n c : Nat} {l : List Rw} (h : RR K w (.slice A n c) l) {j : Nat} (hj : j ≤ l.length) : RR K w (.slice A j c) (l.take j) := by
  obtain ⟨A', c', e, h1, h2, h3⟩ := h
  injection e with e1 e2 e3
  subst e1 e3
  have hlen : (l.take j).length = j := by rw [List.length_take]; omega
  refine ⟨_, _, by rw [hlen], by omega, h2, fun h0 => ?_⟩
  obtain ⟨g, off, rfl, hK, hg, hel⟩ := h3 (by omega)
  refine ⟨g, off, rfl, hK, hg, fun i hi => ?_⟩
  obtain ⟨cs, hcl, hcs, hE⟩ := hel i (by omega)
  exact ⟨cs, hcl, hcs, by rw [List.getElem_take]; exact hE⟩
theorem RR.drop_ {K : Nat → Prop} {w : World} {A : Option Addr} {n c : Nat} {l : List Rw} (h : RR K w (.slice A n c) l) {j : Nat} (hj : j ≤ l.length) : RR K w (.slice (if c = j then A else A.map (·.add (j * 3))) (n - j) (c - j)) (l.drop j) := by
  obtain ⟨A', c', e, h1, h2, h3⟩ := h
  injection e with e1 e2 e3
  subst e1 e2 e3
  refine ⟨_, _, by rw [List.length_drop], by rw [List.length_drop]; omega, by omega, fun h0 => ?_⟩
  rw [List.length_drop] at h0
  obtain ⟨g, off, rfl, hK, hg, hel⟩ := h3 (by omega)
  refine ⟨g, off + j * 3, by rw [if_neg (by omega)]; simp [Addr.add_lit], hK, hg, fun i hi => ?_⟩
  rw [List.length_drop] at hi
  obtain ⟨cs, hcl, hcs, hE⟩ := hel (j + i) (by omega)
  refine ⟨cs, hcl, fun q hq => ?_, by rw [List.getElem_drop]; exact hE⟩
  have := hcs q hq
  rw [Nat.add_mul, ← Nat.add_assoc] at this
  exact this
theorem GrX.rr {X : Nat → Prop} {b : Nat} {w : World} {v : Value} {l : List Rw} (h : GrX X b 50 3 rwG w v l) (hX : ∀ j, b ≤ j → X j) : RR (fun k => X k ∧ k < w.heap.size) w v l := by
  have h1 : RowE (fun k => X k ∨ b ≤ k) w 3 (rwG X w) v l := rr_of_own h
  exact RowE.mono h1 (fun k hk hl => ⟨⟨by rcases hk with h | h; exact h; exact hX k h, hl⟩, rfl⟩) fun x cs hx => rwG_elem.mono _ _ _ _ _ _ hx fun k hk hl => ⟨⟨hk, hl⟩, rfl⟩
def TellsPut (X : Nat → Prop) (b : Nat) (v : Value) (l : List Rw) (w : World) (e : Ending) (w' : World) : Prop := ∃ A n c, e = .returned (.slice A n c) ∧ n = l.length ∧ GrX X b 50 3 rwG w' (.slice A n c) l ∧ Fr (fun j => v.ownBlock = some j) w w' ∧ ∀ j, (Value.slice A n c).ownBlock = some j → v.ownBlock = some j ∨ w.heap.size ≤ j
/-- A row put where none is. -/
theorem put_new {X : Nat → Prop} {b : Nat} {w0 w : World} {v : Value} {l : List Rw} {k : Ky} {a : Ac} (hL : GrX X b 50 3 rwG w0 v l) (hX : ∀ j, b ≤ j → X j) (hb : b ≤ w0.heap.size) {A : Option Addr} {n c : Nat} (hv : v = .slice A n c) (f0 : Fr No w0 w) {K : Nat → Prop} {kv : Value} (hk : KR K w0 kv k) (hkl : k.length ≤ 4000000) (hl : l.length < 4000000) {j : Nat} (hj : j ≤ l.length)
    (h1 : ∀ i (h : i < l.length), i < j → l[i].key < k) (h2 : ∀ h : j < l.length, ¬ l[j].key < k ∧ l[j].key ≠ k) :
    ∃ kA kc w1, (∀ ty, (Builtin.append_ #[42, 42] ty #[.slice none 0 0, kv]).run Tryz.prog w = .ok (.slice kA k.length kc) w1) ∧ Fr No w0 w1 ∧
    ∃ A2 c2 w2, (∀ ty, (Builtin.append_ #[28, 28] ty #[.slice none 0 0, .slice A j c]).run Tryz.prog w1 = .ok (.slice A2 j c2) w2) ∧ Fr No w0 w2 ∧
    ∀ w3 pv, Fr No w2 w3 → PO w2.heap.size w3 pv (mergeA zA a).parts →
    ∃ A4 c4 w4, (∀ ty, (Builtin.append_ #[28, 28] ty #[.slice A2 j c2, .slice (some ⟨w3.heap.size, 0, none⟩) 1 1]).run Tryz.prog (w3.alloc (.cells #[.slice kA k.length kc, .int .i64 (mergeA zA a).count, pv] 50)) = .ok (.slice A4 (j + 1) c4) w4) ∧
    ∃ A5 n5 c5 w5, (∀ ty, (Builtin.append_ #[28, 28] ty #[.slice A4 (j + 1) c4, .slice (if c = j then A else A.map (·.add (j * 3))) (n - j) (c - j)]).run Tryz.prog w4 = .ok (.slice A5 n5 c5) w5) ∧ TellsPut X b v (insG mergeA zA l k a) w0 (.returned (.slice A5 n5 c5)) w5 := by
  subst hv
  have hrr := hL.rr hX
  have hn : n = l.length := by obtain ⟨A', c', e⟩ := hL.len; injection e
  subst hn
  have hl1 : ∀ x ∈ k, x.length ≤ maxLen := fun x hx => by
    obtain ⟨i, hi, rfl⟩ := List.getElem_of_mem hx
    obtain ⟨_, _, kk, _⟩ := hk.form
    subst kk
    obtain ⟨_, _, _, _, _, _, h5⟩ := KR.at_ hk hi
    exact h5
  obtain ⟨kv', w1, r1, o1, f1⟩ := app_text (v := .slice none 0 0) (l := []) (Fr.refl No w) rfl ⟨by simp, .inl ⟨rfl, rfl⟩⟩ (hk.no f0) (by simp) hkl
  rw [List.nil_append] at o1
  have hkr := o1.row hl1
  obtain ⟨kA, kc, rfl, -⟩ := KR.form hkr
  have g1 := f0.tr f1
  have s0 := f0.size
  have s1 := f1.size
  have hrr1 := hrr.no g1
  obtain ⟨v2, w2, r2, g2, f2, o2⟩ := app_rows (GrX.nil_ X b 50 3 rwG w1) (by omega) (hrr1.take_ hj) (fun q hq => ⟨hq.1, fun e => by cases e⟩) (by simp) (by rw [List.length_take]; omega)
  rw [List.nil_append] at g2
  obtain ⟨A2, c2, rfl⟩ := g2.len
  have hjl : (l.take j).length = j := by rw [List.length_take]; omega
  rw [hjl] at r2 g2 o2
  have f2' : Fr No w1 w2 := f2.mono fun q _ e => by cases e
  have s2 := f2'.size
  refine ⟨kA, kc, w1, r1, g1, A2, c2, w2, r2, g1.tr f2', fun w3 pv f3 hpo => ?_⟩
  have s3 := f3.size
  have g3 : GrX X b 50 3 rwG w3 (.slice A2 j c2) (l.take j) := g2.keep rwG_elem f3 fun q hq _ => hq.elim
  have ho2 : ∀ q, (Value.slice A2 j c2).ownBlock = some q → w1.heap.size ≤ q ∧ q < w2.heap.size := fun q e => by
    rcases o2 q e with h | h
    · cases h
    · exact ⟨h, (g2.lt q e).2⟩
  have hkr3 : KR (fun q => w.heap.size ≤ q ∧ q < w1.heap.size) w3 (.slice kA k.length kc) k := by
    have := (RowE.mono hkr (fun q hq hlt => ⟨⟨hq, hlt⟩, rfl⟩) fun _ _ h => h : KR (fun q => w.heap.size ≤ q ∧ q < w1.heap.size) w1 _ k)
    exact KR.no this (f2'.tr f3)
  have hx : rwG (fun q => (w.heap.size ≤ q ∧ q < w1.heap.size) ∨ w2.heap.size ≤ q) w3 ⟨k, mergeA zA a⟩ [.slice kA k.length kc, .int .i64 (mergeA zA a).count, pv] :=
    ⟨_, _, rfl, RowE.mono hkr3 (fun q hq _ => ⟨.inl hq, rfl⟩) (fun _ _ h => h), hpo.pr.mono' fun q hq _ => ⟨.inr hq, rfl⟩⟩
  obtain ⟨A4, c4, w4, r4, g4, f4, o4⟩ := g3.add (bytes := 56) rwG_elem (by omega) 28 Tryz.underlying28 _ info50 rfl (by decide) ⟨k, mergeA zA a⟩ _ rfl (rwG_one _ _ _ _ hx) hx (fun q hq _ => ⟨hX q (by omega), fun e => by have := ho2 q e; omega⟩) (by rw [hjl]; omega) (by rw [hjl]; unfold maxLen; omega)
  rw [hjl] at r4 g4 o4
  have s4 := f4.size
  have f4' : Fr No w0 w4 := ((g1.tr f2').tr f3).trans f4 fun q hq e => by have := ho2 q e; omega
  have hrr4 := hrr.no f4'
  have ho4 : ∀ q, (Value.slice A4 (j + 1) c4).ownBlock = some q → w1.heap.size ≤ q := fun q e => by
    rcases (o4 q e).2 with h | h
    · exact (ho2 q h).1
    · omega
  obtain ⟨v5, w5, r5, g5, f5, o5⟩ := app_rows g4 (by omega) (hrr4.drop_ hj) (fun q hq => ⟨hq.1, fun e => by have := ho4 q e; omega⟩) (by rw [List.length_append, hjl]; simp; omega) (by rw [List.length_drop]; omega)
  obtain ⟨A5, c5, rfl⟩ := g5.len
  refine ⟨A4, c4, w4, r4, A5, _, c5, w5, r5, A5, _, c5, rfl, ?_, ?_, ?_, ?_⟩
  · rw [insG_new mergeA zA l k a j hj h1 h2]
  · rw [insG_new mergeA zA l k a j hj h1 h2]; exact g5
  · exact (f4'.trans f5 fun q hq e => by have := ho4 q e; omega).any
  · intro q e
    right
    rcases o5 q e with h | h
    · have := ho4 q h; omega
    · omega
end Go.Proofs.YtlpglijikmnopaaGreatDoor
