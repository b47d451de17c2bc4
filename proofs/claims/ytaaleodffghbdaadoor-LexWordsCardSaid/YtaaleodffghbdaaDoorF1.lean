/- A text whose keywords stand in other letters, plain. -/
import Derived.Test.YtaaleodffghbdaaDoorE1
namespace Go.Proofs.YtaaleodffghbdaaDoor
set_option linter.unusedVariables false

/-- Of the first n bytes each second one is 32 more. -/
def rcN (n : Nat) (t : Tx) : Tx := t.mapIdx fun k b => if k < n ∧ k % 2 = 1 then b + 32 else b
theorem rcN_len (n : Nat) (t : Tx) : (rcN n t).length = t.length := by simp [rcN]
theorem rcN_at (n : Nat) (t : Tx) (j : Nat) (h : j < t.length) : (rcN n t)[j]? = some (if j < n ∧ j % 2 = 1 then t[j] + 32 else t[j]) := by
  unfold rcN
  rw [List.getElem?_mapIdx, List.getElem?_eq_getElem h]; rfl
theorem rcN_zero (t : Tx) : rcN 0 t = t := by
  apply List.ext_getElem?
  intro j
  rcases Nat.lt_or_ge j t.length with h | h
  · rw [rcN_at 0 t j h, if_neg (by omega), List.getElem?_eq_getElem h]
  · rw [List.getElem?_eq_none (by rw [rcN_len]; exact h), List.getElem?_eq_none h]
def xR (k : Nat) (t : Tx) : Tx := if k = 2 then rcN t.length t else wrB k t
theorem xR_len (k : Nat) (t : Tx) : (xR k t).length = (wrB k t).length := by
  unfold xR
  by_cases h : k = 2
  · rw [if_pos h, rcN_len]; unfold wrB; rw [if_neg (by omega)]
  · rw [if_neg h]
theorem kws_rc : ∀ t ∈ kws, (rcN t.length t).map capB = t := by decide +kernel
theorem kws_top : ∀ t ∈ kws, ∀ b ∈ t, b.toNat ≤ 90 := by decide +kernel
theorem xR_stands {k : Nat} {t : Tx} (h : Valid k t) : Stands k t (xR k t) := by
  unfold xR
  by_cases h2 : k = 2
  · subst h2
    rw [if_pos rfl]
    have ht : t ∈ kws := by
      rcases h with ⟨h, _⟩ | ⟨_, h1⟩ | ⟨h, _⟩ | ⟨h, _⟩ | ⟨h, _⟩
      · cases h
      · exact h1
      · cases h
      · cases h
      · cases h
    exact ⟨fun h => absurd rfl h, fun _ => kws_rc t ht⟩
  · rw [if_neg h2]; exact valid_stands h
theorem xR_ne {k : Nat} {t : Tx} (h : Valid k t) : xR k t ≠ [] := by
  intro e
  have h1 := xR_len k t
  rw [e] at h1
  exact valid_ne h (List.length_eq_zero_iff.1 h1.symm)
def Pc.rc (c : Pc) : Pc := { c with x := xR c.kind c.text }
/-- Their heads are the same byte, or two letters. -/
def Sim (y y' : Tx) : Prop := (y.head? = none → y'.head? = none) ∧ ∀ b', y'.head? = some b' → ∃ b, y.head? = some b ∧ (b = b' ∨ (isLet b = true ∧ isLet b' = true))
theorem Sim.refl (y : Tx) : Sim y y := ⟨id, fun b h => ⟨b, h, .inl rfl⟩⟩
theorem let_stops {b : UInt8} (h : isLet b = true) : goB b = true ∧ b ≠ 39 ∧ b ≠ 62 ∧ b ≠ 61 :=
  all_bytes (p := fun b => isLet b = true → goB b = true ∧ b ≠ 39 ∧ b ≠ 62 ∧ b ≠ 61) (by decide +kernel) b h
theorem Stops.sim {k : Nat} {t y y' : Tx} (h : Stops k t y) (hs : Sim y y') : Stops k t y' := by
  intro b' hb'
  obtain ⟨b, hb, rfl | ⟨h1, h2⟩⟩ := hs.2 b' hb'
  · exact h b hb
  · obtain ⟨g1, _⟩ := let_stops h1
    obtain ⟨_, g2, g3, g4⟩ := let_stops h2
    refine ⟨fun hk => ?_, fun _ => g2, fun _ _ => ⟨g3, g4⟩, fun _ _ => g4⟩
    have := (h b hb).1 hk
    rw [g1] at this; cases this
theorem sim_app (g : Tx) {y y' : Tx} (h : Sim y y') : Sim (g ++ y) (g ++ y') := by
  cases g with
  | nil => exact h
  | cons b g => exact ⟨fun e => (nomatch e), fun b' hb' => ⟨b', hb', .inl rfl⟩⟩
theorem sim_x {c : Pc} (hv : Valid c.kind c.text) (hx : Stands c.kind c.text c.x) (hne : c.x ≠ []) (y y' : Tx) : Sim (c.x ++ y) (xR c.kind c.text ++ y') := by
  by_cases h2 : c.kind = 2
  · have ht : c.text ∈ kws := by
      rcases hv with ⟨h, _⟩ | ⟨_, h1⟩ | ⟨h, _⟩ | ⟨h, _⟩ | ⟨h, _⟩
      · omega
      · exact h1
      · omega
      · omega
      · omega
    have h3 := kw_letters ht (hx.2 h2)
    have h4 := kw_letters ht ((xR_stands hv).2 h2)
    have h5 := xR_ne hv
    cases hx0 : c.x with
    | nil => exact absurd hx0 hne
    | cons a m =>
      cases hr0 : xR c.kind c.text with
      | nil => exact absurd hr0 h5
      | cons a' m' =>
        refine ⟨fun e => (nomatch e), fun b' hb' => ⟨a, rfl, .inr ⟨(h3 a (by rw [hx0]; simp)).1, ?_⟩⟩⟩
        have e : a' = b' := Option.some.inj hb'
        rw [← e]
        exact (h4 a' (by rw [hr0]; simp)).1
  · have e : xR c.kind c.text = c.x := by
      rw [hx.1 h2]; unfold xR; rw [if_neg h2]; rfl
    rw [e]
    cases hx0 : c.x with
    | nil => exact absurd hx0 hne
    | cons a m => exact ⟨fun e => (nomatch e), fun b' hb' => ⟨b', hb', .inl rfl⟩⟩
theorem sim_txt : ∀ (l : List Pc) (z : Tx), Made z l → Sim (txt z l) (txt z (l.map Pc.rc))
  | [], z, _ => Sim.refl z
  | c :: l, z, ⟨_, h2, h3, h4, _, _⟩ => sim_app c.gap (sim_x h2 h3 h4 _ _)
theorem made_rc : ∀ (l : List Pc) (z : Tx), Made z l → Made z (l.map Pc.rc)
  | [], z, h => h
  | c :: l, z, ⟨h1, h2, h3, h4, h5, h6⟩ => ⟨h1, h2, xR_stands h2, xR_ne h2, h5.sim (sim_txt l z h6), made_rc l z h6⟩
theorem rc_xlen {c : Pc} (h3 : Stands c.kind c.text c.x) : (xR c.kind c.text).length = c.x.length := by rw [xR_len, ← h3.len]
theorem mkW_rc : ∀ (l : List Pc) (z : Tx) (p : Nat), Made z l → mkW p (l.map Pc.rc) = mkW p l ∧ (txt z (l.map Pc.rc)).length = (txt z l).length
  | [], z, p, _ => ⟨rfl, rfl⟩
  | c :: l, z, p, ⟨h1, h2, h3, h4, h5, h6⟩ => by
    have hl := rc_xlen h3
    obtain ⟨i1, i2⟩ := mkW_rc l z (p + c.gap.length + c.x.length) h6
    constructor
    · show c.rc.wd p :: mkW (p + c.gap.length + (xR c.kind c.text).length) (l.map Pc.rc) = _
      rw [hl, i1]; rfl
    · show (c.gap ++ (xR c.kind c.text ++ txt z (l.map Pc.rc))).length = (c.gap ++ (c.x ++ txt z l)).length
      rw [List.length_append, List.length_append, List.length_append, List.length_append, hl, i2]
/-- What a round of the law does: the text and the place behind word i. -/
structure CaseI (r : Tx) (ws : List Wd) (X : Nat → Tx) (Y : Nat → Nat) : Prop where
  x0 : X 0 = []
  y0 : Y 0 = 0
  step : ∀ i x, ws[i]? = some x → Y i ≤ x.pos ∧ x.pos ≤ r.length ∧ X (i + 1) = X i ++ (r.take x.pos).drop (Y i) ++ xR x.kind x.text ∧ Y (i + 1) = x.pos + (xR x.kind x.text).length ∧ (x.kind = 2 → x.text ∈ kws) ∧ (X i).length ≤ 4096 ∧ Y (i + 1) ≤ r.length
  fin : wordsB (X ws.length) = wordsB r ∧ (X ws.length).length ≤ 4096
theorem case_steps : ∀ (l : List Pc) (z pre : Tx), Made z l → pre.length + (txt z l).length ≤ 4096 → ∀ pre' : Tx, pre'.length = pre.length → ∃ (X : Nat → Tx) (Y : Nat → Nat), X 0 = pre' ∧ Y 0 = pre.length ∧
    (∀ i x, (mkW pre.length l ++ [⟨6, [], pre.length + (txt z l).length⟩])[i]? = some x → Y i ≤ x.pos ∧ x.pos ≤ (pre ++ txt z l).length ∧ X (i + 1) = X i ++ ((pre ++ txt z l).take x.pos).drop (Y i) ++ xR x.kind x.text ∧ Y (i + 1) = x.pos + (xR x.kind x.text).length ∧ (x.kind = 2 → x.text ∈ kws) ∧ (X i).length ≤ 4096 ∧ Y (i + 1) ≤ (pre ++ txt z l).length) ∧
    X (l.length + 1) = pre' ++ txt z (l.map Pc.rc)
  | [], z, pre, h, hb, pre', hp => by
    refine ⟨fun i => if i = 0 then pre' else pre' ++ z, fun i => if i = 0 then pre.length else pre.length + z.length, rfl, rfl, fun i x hx => ?_, rfl⟩
    have hi : i = 0 := by
      have := (List.getElem?_eq_some_iff.1 hx).1
      simp [mkW] at this; omega
    subst hi
    have e : (⟨6, [], pre.length + z.length⟩ : Wd) = x := Option.some.inj hx
    subst e
    have hz : pre.length + z.length ≤ 4096 := hb
    refine ⟨by simp, by simp [txt], ?_, ?_, fun e => (nomatch e), by simp; omega, by simp [txt]⟩
    · show pre' ++ z = pre' ++ ((pre ++ z).take (pre.length + z.length)).drop pre.length ++ []
      rw [List.take_of_length_le (by simp), drop_app, List.append_nil]
    · rfl
  | c :: l, z, pre, ⟨h1, h2, h3, h4, h5, h6⟩, hb, pre', hp => by
    have e1 : (pre ++ c.gap ++ c.x).length = pre.length + c.gap.length + c.x.length := by simp; omega
    have e2 : pre ++ txt z (c :: l) = pre ++ c.gap ++ c.x ++ txt z l := by simp [txt]
    have e3 : pre.length + (txt z (c :: l)).length = pre.length + c.gap.length + c.x.length + (txt z l).length := by simp [txt]; omega
    have hxl := rc_xlen h3
    obtain ⟨X, Y, i1, i2, i3, i4⟩ := case_steps l z (pre ++ c.gap ++ c.x) h6 (by rw [e1]; omega) (pre' ++ c.gap ++ xR c.kind c.text) (by simp; omega)
    rw [e1] at i2 i3
    refine ⟨fun i => if i = 0 then pre' else X (i - 1), fun i => if i = 0 then pre.length else Y (i - 1), rfl, rfl, fun i x hx => ?_, ?_⟩
    · rw [e2]
      cases i with
      | zero =>
        have e : c.wd pre.length = x := Option.some.inj hx
        subst e
        have hk : c.kind = 2 → c.text ∈ kws := fun hk => by
          rcases h2 with ⟨h, _⟩ | ⟨_, h1⟩ | ⟨h, _⟩ | ⟨h, _⟩ | ⟨h, _⟩
          · omega
          · exact h1
          · omega
          · omega
          · omega
        refine ⟨by show pre.length ≤ pre.length + c.gap.length; omega, by show pre.length + c.gap.length ≤ _; rw [List.length_append, e1]; omega, ?_, ?_, hk, by show pre'.length ≤ 4096; omega, ?_⟩
        · show X 0 = pre' ++ ((pre ++ c.gap ++ c.x ++ txt z l).take (pre.length + c.gap.length)).drop pre.length ++ xR c.kind c.text
          have : (pre ++ c.gap ++ c.x ++ txt z l).take (pre.length + c.gap.length) = pre ++ c.gap := by
            rw [← List.length_append, List.append_assoc, take_app]
          rw [this, drop_app, i1]
        · show Y 0 = pre.length + c.gap.length + (xR c.kind c.text).length
          rw [i2, hxl]
        · show Y 0 ≤ _
          rw [i2, List.length_append, e1]; omega
      | succ i =>
        have hx' : (mkW (pre.length + c.gap.length + c.x.length) l ++ [⟨6, [], pre.length + c.gap.length + c.x.length + (txt z l).length⟩])[i]? = some x := by
          rw [← e3]; exact hx
        exact i3 i x hx'
    · show X (l.length + 1) = _
      rw [i4]
      show pre' ++ c.gap ++ xR c.kind c.text ++ txt z (l.map Pc.rc) = pre' ++ (c.gap ++ (xR c.kind c.text ++ txt z (l.map Pc.rc)))
      simp
theorem case_words {r : Tx} {ws : List Wd} {f : Nat} (h : wordsB r = (ws, 0, f)) : ∃ X Y, CaseI r ws X Y := by
  obtain ⟨h1, h2, l, z, h3, h4, h5⟩ := made_words h
  obtain ⟨X, Y, g1, g2, g3, g4⟩ := case_steps l z [] h4 (by simp; rw [← h3]; exact h1) [] rfl
  have h6 := scan_made l z 0 h4
  have h7 := scan_made (l.map Pc.rc) z 0 (made_rc l z h4)
  obtain ⟨m1, m2⟩ := mkW_rc l z 0 h4
  have hlen : ws.length = l.length + 1 := by rw [h5, List.length_append, mkW_len]; rfl
  refine ⟨X, Y, g1, g2, fun i x hx => ?_, ?_⟩
  · have := g3 i x (by
      rw [h5] at hx
      rw [List.length_nil, Nat.zero_add, ← h3]
      exact hx)
    rw [List.nil_append, ← h3] at this
    exact this
  · rw [hlen, g4, List.nil_append]
    have hl : (txt z (l.map Pc.rc)).length ≤ 4096 := by rw [m2, ← h3]; exact h1
    refine ⟨?_, hl⟩
    rw [wordsB_scan _ hl, h7, wordsB_scan r h1, h3, h6, m1, m2]
end Go.Proofs.YtaaleodffghbdaaDoor
