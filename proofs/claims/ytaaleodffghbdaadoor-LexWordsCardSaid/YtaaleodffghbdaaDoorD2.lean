/- A word as it stands; LexPlaces, walked. -/
import Derived.Test.YtaaleodffghbdaaDoorD1
namespace Go.Proofs.YtaaleodffghbdaaDoor
open Go.RowKit Go.Maps
set_option linter.unusedVariables false

def wrB (k : Nat) (t : Tx) : Tx := if k = 4 then quoteB t else t
theorem Stands.len {k : Nat} {t x : Tx} (h : Stands k t x) : x.length = (wrB k t).length := by
  by_cases h2 : k = 2
  · have := congrArg List.length (h.2 h2)
    rw [List.length_map] at this
    unfold wrB
    rw [if_neg (by omega)]
    exact this
  · rw [h.1 h2]; rfl
set_option maxRecDepth 100000 in
theorem written_any (k : Nat) (t : ByteArray) (p : Int) (w : World) (hL : Lr w) (ht : t.size ≤ 4000000) (hk : k ≤ 1000) :
    Calls Tryd.prog 19 #[.agg #[.int .i64 (k : Nat), .string t, .int .i64 p]] w fun e w' => e = .returned (.string ⟨(wrB k t.data.toList).toArray⟩) ∧ Fr No w w' := by
  obtain ⟨wa, hwa⟩ : ∃ wa, w.alloc (.cells #[.int .i64 (k : Nat), .string t, .int .i64 p] 31) = wa := ⟨_, rfl⟩
  obtain ⟨y, hy⟩ : ∃ y, w.heap.size = y := ⟨_, rfl⟩
  have fa : Fr No w wa := by rw [← hwa]; exact (Fr.refl No w).alloc _
  have hb : Blk wa y 31 #[.int .i64 (k : Nat), .string t, .int .i64 p] := by rw [← hwa, ← hy]; exact Blk.new w 31 _
  have c0 : wa.cell? ⟨y, 0, none⟩ = some (.int .i64 (k : Nat)) := hb.cell 0
  have c1 : wa.cell? ⟨y, 1, none⟩ = some (.string t) := hb.cell 1
  have FA := Lib.hid fa
  have HWA := Lib.hid hwa
  have HY := Lib.hid hy
  have HQ := Lib.hid (quote_any t wa (hL.keep hL.lt fa.below) (by omega))
  clear fa hwa hy hb hL
  unfold wrB
  by_cases h4 : k = 4
  · rw [if_pos h4]
    have h4' : ((k : Int) == 4) = true := by rw [h4]; rfl
    generalize ((k : Nat) : Int) = ki at *
    clear h4
    go_enter Tryd.func19, Tryd.ntmps19
    go_upto_region 1 with fail
    rw [HWA.out, HY.out]
    go_wp2_with fail
    refine HQ.out.mono ?_
    rintro e w' ⟨rfl, f⟩
    have F := Lib.hid (FA.out.trans f fun _ _ h => h)
    clear f
    go_wp2
    go_ret
    exact ⟨rfl, F.out⟩
  · rw [if_neg h4]
    have h4' : ((k : Int) == 4) = false := by simp; omega
    clear h4
    go_enter Tryd.func19, Tryd.ntmps19
    go_upto_region 1 with fail
    rw [HWA.out, HY.out]
    go_wp2
    go_ret
    exact ⟨by rw [mk_toList]; rfl, FA.out⟩

/-- Words one behind the other over a text, from a place on. -/
def Chain (r : Tx) : Nat → List Wd → Prop
  | p, [] => p = r.length
  | p, x :: l => p ≤ x.pos ∧ (∀ j, p ≤ j → j < x.pos → ∃ b, r[j]? = some b ∧ isBla b = true) ∧ x.pos + (wrB x.kind x.text).length ≤ r.length ∧ Chain r (x.pos + (wrB x.kind x.text).length) l
theorem blank_at {pre g rest : Tx} (hg : Blank g) {j : Nat} (h1 : pre.length ≤ j) (h2 : j < pre.length + g.length) : ∃ b, (pre ++ (g ++ rest))[j]? = some b ∧ isBla b = true := by
  rw [List.getElem?_append_right h1, List.getElem?_append_left (by omega)]
  have : j - pre.length < g.length := by omega
  exact ⟨g[j - pre.length], List.getElem?_eq_getElem this, hg _ (List.getElem_mem this)⟩
theorem chain_made : ∀ (l : List Pc) (z pre : Tx), Made z l → Chain (pre ++ txt z l) pre.length (mkW pre.length l ++ [⟨6, [], pre.length + (txt z l).length⟩])
  | [], z, pre, h => by
    show Chain (pre ++ z) pre.length [⟨6, [], pre.length + z.length⟩]
    refine ⟨by show pre.length ≤ pre.length + z.length; omega, fun j h1 h2 => ?_, ?_, ?_⟩
    · have := blank_at (rest := []) (show Blank z from h) h1 h2
      rwa [List.append_nil] at this
    · show pre.length + z.length + 0 ≤ _; simp
    · show pre.length + z.length + 0 = _; simp
  | c :: l, z, pre, ⟨h1, h2, h3, h4, h5, h6⟩ => by
    have ih := chain_made l z (pre ++ c.gap ++ c.x) h6
    have hl := h3.len
    have e1 : (pre ++ c.gap ++ c.x).length = pre.length + c.gap.length + c.x.length := by simp; omega
    have e2 : pre ++ txt z (c :: l) = pre ++ c.gap ++ c.x ++ txt z l := by simp [txt]
    have e3 : pre.length + (txt z (c :: l)).length = pre.length + c.gap.length + c.x.length + (txt z l).length := by simp [txt]; omega
    rw [e1] at ih
    show Chain (pre ++ txt z (c :: l)) pre.length (c.wd pre.length :: (mkW (pre.length + c.gap.length + c.x.length) l ++ [⟨6, [], pre.length + (txt z (c :: l)).length⟩]))
    refine ⟨by show pre.length ≤ pre.length + c.gap.length; omega, fun j g1 g2 => ?_, ?_, ?_⟩
    · exact blank_at (rest := c.x ++ txt z l) h1 g1 g2
    · show pre.length + c.gap.length + (wrB c.kind c.text).length ≤ _
      rw [← hl, e2, List.length_append, e1]; omega
    · show Chain _ (pre.length + c.gap.length + (wrB c.kind c.text).length) _
      rw [← hl, e2, e3]
      exact ih
theorem chain_words {r : Tx} {ws : List Wd} {f : Nat} (h : wordsB r = (ws, 0, f)) : r.length ≤ 4096 ∧ 0 < ws.length ∧ Chain r 0 ws := by
  obtain ⟨h1, h2, l, z, h3, h4, h5⟩ := made_words h
  have := chain_made l z [] h4
  refine ⟨h1, by rw [h5]; simp, ?_⟩
  rw [h5, h3]
  simpa using this
/-- A fault of all of it. -/
theorem words_fault {r : Tx} (h : (wordsB r).2.1 ≠ 0) : ((wordsB r).2.1 = 40 ∨ (wordsB r).2.1 = 45) ∧ (wordsB r).2.2 ≤ r.length ∧ (wordsB r).1 = [] := by
  by_cases hl : 4096 < r.length
  · have e : wordsB r = ([], 45, 0) := by unfold wordsB; rw [if_pos hl]
    rw [e]
    exact ⟨.inr rfl, Nat.zero_le _, rfl⟩
  · rw [wordsB_scan r (by omega)] at h ⊢
    have := scan_fault r.length r 0 (Nat.le_refl _) h
    simpa using this
theorem words_text : ∀ (f : Nat) (r : Tx) (p : Nat) (x : Wd), x ∈ (goW f r p).1 → x.text.length ≤ 4096 + r.length ∧ x.kind ≤ 6 ∧ x.pos ≤ p + r.length := by
  intro f
  induction f with
  | zero => intro r p x h; simp [goW] at h
  | succ f ih =>
    intro r p x h
    have hle := runB_le isBla r
    unfold goW at h
    split at h
    · simp at h; subst h; exact ⟨by simp, Nat.le_refl _, by show p + _ ≤ _; omega⟩
    · cases hw : wordT (r.drop (runB isBla r)) with
      | bad c on => rw [hw] at h; simp at h
      | good k t s =>
        rw [hw] at h
        simp only [cons1] at h
        split at h
        · obtain ⟨x', y, g1, g2, g3, g4, g5, g6⟩ := word_inv hw
          have hlen := congrArg List.length g1
          rw [List.length_drop, List.length_append] at hlen
          rcases List.mem_cons.1 h with rfl | h
          · have hst := g5.len
            have hk : k ≤ 6 := by rcases g4 with h | h | h | h | h <;> omega
            refine ⟨?_, hk, by show p + _ ≤ _; omega⟩
            show t.length ≤ _
            by_cases h4 : k = 4
            · have hq : x'.length = (quoteB t).length := by rw [hst]; unfold wrB; rw [if_pos h4]
              have := (quoteB_len t).1
              omega
            · have hq : x'.length = t.length := by rw [hst]; unfold wrB; rw [if_neg h4]
              omega
          · obtain ⟨i1, i2, i3⟩ := ih _ _ x h
            rw [List.length_drop, List.length_drop] at i1 i3
            refine ⟨by omega, i2, ?_⟩
            have : s ≤ (r.drop (runB isBla r)).length := by rw [g1, ← g2, List.length_append]; omega
            rw [List.length_drop] at this
            omega
        · simp at h
theorem wordsB_text {r : Tx} {x : Wd} (h : x ∈ (wordsB r).1) : x.text.length ≤ 8192 ∧ x.kind ≤ 6 ∧ x.pos ≤ 4096 := by
  unfold wordsB at h
  split at h
  · simp at h
  · obtain ⟨h1, h2, h3⟩ := words_text _ _ _ _ h
    exact ⟨by omega, h2, by omega⟩
end Go.Proofs.YtaaleodffghbdaaDoor
