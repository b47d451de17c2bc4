/- Words and texts: what a text whose words are told is made of, and that what is made so is told so. -/
import Derived.Test.YtkcnbmgaeompjaaGreatDoorP1
namespace Go.Proofs.YtkcnbmgaeompjaaGreatDoor
set_option linter.unusedVariables false

theorem firstB_ne {r : Tx} {n : Nat} (h : firstB r = n) (hn : n < 6) : ∃ b l, r = b :: l ∧ kindB b = n := by
  cases r with
  | nil => exact absurd (show 6 = n from h) (by omega)
  | cons b l => exact ⟨b, l, rfl, h⟩
theorem take_drop_len (r : Tx) (n : Nat) (h : n ≤ r.length) : r = r.take n ++ r.drop n ∧ (r.take n).length = n := ⟨(List.take_append_drop n r).symm, by simp; omega⟩
theorem sig_one : ∀ b : UInt8, isSig b = true → [b] ∈ signs := all_bytes (p := fun b => isSig b = true → [b] ∈ signs) (by decide +kernel)

/-- Backward: what is taken as a word stands for it, and what is behind stops it. -/
theorem word_inv {r t : Tx} {k n : Nat} (h : wordT r = .good k t n) : ∃ x y, r = x ++ y ∧ x.length = n ∧ x ≠ [] ∧ Valid k t ∧ Stands k t x ∧ Stops k t y := by
  unfold wordT at h
  split at h
  · rename_i hf
    obtain ⟨b, l, rfl, hk⟩ := firstB_ne hf (by omega)
    have hb : goB b = true := (kind_go b).1 (.inl hk)
    have hr1 : 1 ≤ runB goB (b :: l) := by rw [runB_cons, if_pos hb]; omega
    obtain ⟨e1, e2⟩ := take_drop_len (b :: l) (runB goB (b :: l)) (runB_le _ _)
    have hall := runB_take goB (b :: l)
    have hst := runB_head goB (b :: l)
    unfold lettersT at h
    generalize runB goB (b :: l) = m at *
    have hne : (b :: l).take m ≠ [] := fun e => by rw [e] at e2; simp at e2; omega
    split at h
    · rename_i hkw
      cases h
      have hm : ((b :: l).take n).map capB ∈ kws := by
        rcases Classical.em (((b :: l).take n).map capB ∈ kws) with h1 | h1
        · exact h1
        · exact absurd ((kwOf_nil_iff _).2 h1) hkw
      have hkk : kwOf ((b :: l).take n) = ((b :: l).take n).map capB := by unfold kwOf; rw [if_pos hm]
      refine ⟨_, _, e1, e2, hne, .inr (.inl ⟨rfl, hkk ▸ hm⟩), ⟨fun e => absurd rfl e, fun _ => hkk.symm⟩, fun c hc => ⟨fun _ => hst c hc, (fun e => absurd e (by decide)), (fun e => absurd e (by decide)), (fun e => absurd e (by decide))⟩⟩
    · rename_i hkw
      split at h
      · cases h
      · rename_i hl
        cases h
        have hf2 : firstB ((b :: l).take n) = 2 := by
          cases n with
          | zero => omega
          | succ n => exact hk
        refine ⟨_, _, e1, e2, hne, .inl ⟨rfl, hf2, hall, by simpa using hkw, by omega⟩, ⟨fun _ => rfl, (fun e => absurd e (by decide))⟩, fun c hc => ⟨fun _ => hst c hc, (fun e => absurd e (by decide)), (fun e => absurd e (by decide)), (fun e => absurd e (by decide))⟩⟩
  · split at h
    · rename_i hf
      obtain ⟨b, l, rfl, hk⟩ := firstB_ne hf (by omega)
      have hb : isDig b = true := (kind_dig b).1 hk
      have hr1 : 1 ≤ runB isDig (b :: l) := by rw [runB_cons, if_pos hb]; omega
      obtain ⟨e1, e2⟩ := take_drop_len (b :: l) (runB isDig (b :: l)) (runB_le _ _)
      have hall := runB_take isDig (b :: l)
      have hst := runB_head isDig (b :: l)
      unfold digitsT at h
      generalize runB isDig (b :: l) = m at *
      have hne : (b :: l).take m ≠ [] := fun e => by rw [e] at e2; simp at e2; omega
      have hh : ((b :: l).take m).head? = (b :: l).head? := by
        cases m with
        | zero => omega
        | succ m => rfl
      split at h
      · cases h
      · rename_i h1
        split at h
        · cases h
        · rename_i h2
          split at h
          · cases h
          · rename_i h3
            cases h
            refine ⟨_, _, e1, e2, hne, .inr (.inr (.inl ⟨rfl, hne, hall, by rw [hh, e2]; exact h1, by omega⟩)), ⟨fun _ => rfl, (fun e => absurd e (by decide))⟩, fun c hc => ⟨fun _ => ?_, (fun e => absurd e (by decide)), (fun e => absurd e (by decide)), (fun e => absurd e (by decide))⟩⟩
            have hd := hst c hc
            unfold goB
            rw [hd, Bool.or_false]
            cases hlc : isLet c with
            | false => rfl
            | true =>
              exfalso; apply h3
              cases hdr : (b :: l).drop n with
              | nil => rw [hdr] at hc; cases hc
              | cons c' l' =>
                rw [hdr] at hc
                cases hc
                exact (kind_let c).2 hlc
    · split at h
      · rename_i hf
        obtain ⟨b, l, rfl, hk⟩ := firstB_ne hf (by omega)
        obtain rfl := (kind_quo b).1 hk
        unfold quotedT at h
        rw [List.drop_succ_cons, List.drop_zero] at h
        split at h
        · cases h
        · rename_i x hx
          split at h
          · cases h
          · rename_i hl
            cases h
            obtain ⟨r, h1, h2, h3⟩ := unq_inv l x.1 x.2 hx
            refine ⟨quoteB x.1, r, by rw [h1]; simp [quoteB], by simp [quoteB]; omega, by simp [quoteB], .inr (.inr (.inr (.inl ⟨rfl, by omega⟩))), ⟨fun _ => rfl, (fun e => absurd e (by decide))⟩, fun c hc => ⟨(fun e => by omega), fun _ e => ?_, (fun e => absurd e (by decide)), (fun e => absurd e (by decide))⟩⟩
            subst e
            exact h2 hc
      · split at h
        · rename_i hf
          obtain ⟨b, l, rfl, hk⟩ := firstB_ne hf (by omega)
          have hb : isSig b = true := (kind_sig b).1 hk
          unfold signT at h
          split at h
          · rename_i h2
            cases h
            have hm : (b :: l).take 2 = [60, 62] ∨ (b :: l).take 2 = [60, 61] ∨ (b :: l).take 2 = [62, 61] := by
              unfold twoB at h2; simpa [or_assoc] using h2
            have hlen : ((b :: l).take 2).length = 2 := by rcases hm with e | e | e <;> rw [e] <;> rfl
            refine ⟨_, _, (List.take_append_drop 2 _).symm, hlen, fun e => by rw [e] at hlen; simp at hlen, .inr (.inr (.inr (.inr ⟨rfl, ?_⟩))), ⟨fun _ => rfl, (fun e => absurd e (by decide))⟩, fun c hc => ⟨(fun e => by omega), (fun e => absurd e (by decide)), fun _ e => ?_, fun _ e => ?_⟩⟩
            · rcases hm with e | e | e <;> rw [e] <;> decide
            · rw [e] at hlen; cases hlen
            · rw [e] at hlen; cases hlen
          · rename_i h2
            cases h
            refine ⟨[b], l, rfl, rfl, by simp, .inr (.inr (.inr (.inr ⟨rfl, sig_one b hb⟩))), ⟨fun _ => rfl, (fun e => absurd e (by decide))⟩, fun c hc => ⟨(fun e => by omega), (fun e => absurd e (by decide)), fun _ e => ?_, fun _ e => ?_⟩⟩
            · cases l with
              | nil => cases hc
              | cons c' l =>
                cases hc
                injection e with e _
                subst e
                refine ⟨fun e => h2 ?_, fun e => h2 ?_⟩ <;> subst e <;> rfl
            · cases l with
              | nil => cases hc
              | cons c' l =>
                cases hc
                injection e with e _
                subst e
                exact fun e => h2 (by subst e; rfl)
        · cases h

theorem word_bad {r : Tx} {c on : Nat} (h : wordT r = .bad c on) : (c = 40 ∨ c = 45) ∧ on ≤ r.length := by
  unfold wordT lettersT digitsT quotedT signT at h
  have := runB_le isDig r
  repeat' (split at h)
  all_goals (first | (cases h; exact ⟨.inl rfl, by omega⟩) | (cases h; exact ⟨.inr rfl, by omega⟩) | cases h)

/-! ### fuel -/
theorem goW_fuel : ∀ (f f' : Nat) (r : Tx) (p : Nat), r.length < f → r.length < f' → goW f r p = goW f' r p
  | 0, _, _, _, h, _ => absurd h (Nat.not_lt_zero _)
  | _ + 1, 0, _, _, _, h => absurd h (Nat.not_lt_zero _)
  | f + 1, f' + 1, r, p, h, h' => by
    unfold goW
    split
    · rfl
    · cases hw : wordT (r.drop (runB isBla r)) with
      | bad c on => rfl
      | good k t s =>
        obtain ⟨x, y, h1, h2, h3, _⟩ := word_inv hw
        have hl : ((r.drop (runB isBla r)).drop s).length < r.length := by
          rw [h1, ← h2, drop_app]
          have e := congrArg List.length h1
          simp only [List.length_drop, List.length_append] at e
          have : 0 < x.length := List.length_pos_iff.2 h3
          omega
        simp only
        rw [goW_fuel f f' _ _ (by omega) (by omega)]
/-- All of it, whatever is left and wherever. -/
def scanB (r : Tx) (p : Nat) : Res := goW (r.length + 1) r p
theorem scanB_blank (b : UInt8) (r : Tx) (p : Nat) (h : isBla b = true) : scanB (b :: r) p = scanB r (p + 1) := by
  unfold scanB
  rw [goW_fuel (r.length + 1) ((b :: r).length + 1) r (p + 1) (by omega) (by rw [List.length_cons]; omega)]
  have e : runB isBla (b :: r) = runB isBla r + 1 := by rw [runB_cons, if_pos h]
  conv => lhs; unfold goW
  conv => rhs; unfold goW
  rw [e, List.drop_succ_cons]
  rw [show p + (runB isBla r + 1) = p + 1 + runB isBla r by omega]
theorem scanB_blanks (r : Tx) (p : Nat) : scanB r p = scanB (r.drop (runB isBla r)) (p + runB isBla r) := by
  induction r generalizing p with
  | nil => rfl
  | cons b r ih =>
    by_cases h : isBla b = true
    · have e : runB isBla (b :: r) = runB isBla r + 1 := by rw [runB_cons, if_pos h]
      rw [scanB_blank b r p h, ih, e, List.drop_succ_cons]
      rw [show p + 1 + runB isBla r = p + (runB isBla r + 1) by omega]
    · have e : runB isBla (b :: r) = 0 := by rw [runB_cons, if_neg h]
      rw [e]; rfl
theorem runB_zero {r : Tx} (h : firstB r ≠ 1) : runB isBla r = 0 := by
  cases r with
  | nil => rfl
  | cons b r =>
    unfold runB
    rw [if_neg]
    intro e
    exact h ((kind_bla b).2 e)
theorem scanB_end (p : Nat) : scanB [] p = ([⟨6, [], p⟩], 0, 0) := rfl
theorem scanB_bad {r : Tx} {c on : Nat} (p : Nat) (hb : firstB r ≠ 1) (hne : r ≠ []) (h : wordT r = .bad c on) : scanB r p = ([], c, p + on) := by
  unfold scanB goW
  rw [runB_zero hb, List.drop_zero, if_neg hne, h]; rfl
theorem scanB_good {r t : Tx} {k s : Nat} (p : Nat) (hb : firstB r ≠ 1) (hne : r ≠ []) (h : wordT r = .good k t s) : scanB r p = cons1 ⟨k, t, p⟩ (scanB (r.drop s) (p + s)) := by
  obtain ⟨x, y, h1, h2, h3, _⟩ := word_inv h
  have hl : (r.drop s).length < r.length := by
    rw [h1, ← h2, drop_app, List.length_append]
    have : 0 < x.length := List.length_pos_iff.2 h3
    omega
  unfold scanB
  rw [goW_fuel ((r.drop s).length + 1) r.length _ _ (by omega) hl]
  conv => lhs; unfold goW
  rw [runB_zero hb, List.drop_zero, if_neg hne, h]; rfl
theorem wordsB_scan (l : Tx) (h : l.length ≤ 4096) : wordsB l = scanB l 0 := by
  unfold wordsB scanB
  rw [if_neg (by omega)]

/-! ### what a text is made of -/
/-- A word with the blanks ahead of it and what stands for it. -/
structure Pc where
  gap : Tx
  kind : Nat
  text : Tx
  x : Tx
def Pc.wd (c : Pc) (p : Nat) : Wd := ⟨c.kind, c.text, p + c.gap.length⟩
def txt (z : Tx) : List Pc → Tx
  | [] => z
  | c :: l => c.gap ++ (c.x ++ txt z l)
def mkW : Nat → List Pc → List Wd
  | _, [] => []
  | p, c :: l => c.wd p :: mkW (p + c.gap.length + c.x.length) l
def Blank (g : Tx) : Prop := ∀ b ∈ g, isBla b = true
def Made (z : Tx) : List Pc → Prop
  | [] => Blank z
  | c :: l => Blank c.gap ∧ Valid c.kind c.text ∧ Stands c.kind c.text c.x ∧ c.x ≠ [] ∧ Stops c.kind c.text (txt z l) ∧ Made z l
theorem first_ne {c : Pc} {y : Tx} (hv : Valid c.kind c.text) (hx : Stands c.kind c.text c.x) (hne : c.x ≠ []) (hy : Stops c.kind c.text y) : firstB (c.x ++ y) ≠ 1 := by
  intro e
  have hw := word_of hv hx hy
  unfold wordT at hw
  rw [if_neg (by omega), if_neg (by omega), if_neg (by omega), if_neg (by omega)] at hw
  cases hw
theorem scan_gap (g r : Tx) (p : Nat) (hg : Blank g) : scanB (g ++ r) p = scanB r (p + g.length) := by
  induction g generalizing p with
  | nil => rfl
  | cons b g ih =>
    show scanB (b :: (g ++ r)) p = _
    rw [scanB_blank b _ p (hg b (by simp)), ih _ fun c hc => hg c (by simp [hc])]
    simp only [List.length_cons]
    rw [show p + 1 + g.length = p + (g.length + 1) by omega]
theorem scan_made : ∀ (l : List Pc) (z : Tx) (p : Nat), Made z l → scanB (txt z l) p = (mkW p l ++ [⟨6, [], p + (txt z l).length⟩], 0, 0)
  | [], z, p, h => by
    show scanB z p = _
    have := scan_gap z [] p h
    rw [List.append_nil] at this
    rw [this, scanB_end]; rfl
  | c :: l, z, p, ⟨h1, h2, h3, h4, h5, h6⟩ => by
    show scanB (c.gap ++ (c.x ++ txt z l)) p = _
    have hne : c.x ++ txt z l ≠ [] := fun e => h4 (List.append_eq_nil_iff.1 e).1
    rw [scan_gap _ _ _ h1, scanB_good _ (first_ne h2 h3 h4 h5) hne (word_of h2 h3 h5), drop_app, scan_made l z _ h6]
    unfold cons1
    rw [if_pos rfl]
    simp only [mkW, Pc.wd, txt, List.length_append, List.cons_append, Prod.mk.injEq, List.cons.injEq, true_and, and_true, List.append_cancel_left_eq, Wd.mk.injEq]
    omega
theorem made_scan : ∀ (n : Nat) (r : Tx) (p : Nat) (ws : List Wd), r.length ≤ n → (scanB r p).2.1 = 0 → (scanB r p).1 = ws → ∃ l z, r = txt z l ∧ Made z l ∧ ws = mkW p l ++ [⟨6, [], p + r.length⟩] := by
  intro n
  induction n with
  | zero =>
    intro r p ws hn h0 h1
    obtain rfl : r = [] := List.length_eq_zero_iff.1 (by omega)
    exact ⟨[], [], rfl, (fun b hb => by cases hb), by rw [← h1]; rfl⟩
  | succ n ih =>
    intro r p ws hn h0 h1
    have hg : Blank (r.take (runB isBla r)) := runB_take _ _
    obtain ⟨e1, e2⟩ := take_drop_len r _ (runB_le isBla r)
    rw [scanB_blanks] at h0 h1
    have hst := runB_head isBla r
    have hle := runB_le isBla r
    generalize runB isBla r = m at *
    obtain ⟨q, hq⟩ : ∃ q, r.drop m = q := ⟨_, rfl⟩
    rw [hq] at h0 h1 e1 hst
    have hlen : r.length = m + q.length := by rw [← hq, List.length_drop]; omega
    by_cases hne : q = []
    · subst hne
      rw [scanB_end] at h1
      have e : r = r.take m := by rw [List.append_nil] at e1; exact e1
      refine ⟨[], r, rfl, ?_, ?_⟩
      · show Blank r
        rw [e]; exact hg
      · rw [← h1, hlen]; simp [mkW]
    · have hb : firstB q ≠ 1 := by
        cases q with
        | nil => exact absurd rfl hne
        | cons b q =>
          intro e
          have := hst b rfl
          rw [(kind_bla b).1 e] at this; cases this
      cases hw : wordT q with
      | bad c on =>
        rw [scanB_bad _ hb hne hw] at h0
        rcases (word_bad hw).1 with e | e <;> (rw [e] at h0; cases h0)
      | good k t s =>
        rw [scanB_good _ hb hne hw] at h0 h1
        obtain ⟨x, y, g1, g2, g3, g4, g5, g6⟩ := word_inv hw
        have hy : q.drop s = y := by rw [g1, ← g2, drop_app]
        rw [hy] at h0 h1
        unfold cons1 at h0 h1
        split at h0
        · rename_i h00
          rw [if_pos h00] at h1
          have hxl : 0 < x.length := List.length_pos_iff.2 g3
          have hql : q.length = x.length + y.length := by rw [g1, List.length_append]
          obtain ⟨l, z, i1, i2, i3⟩ := ih y _ _ (by omega) h00 rfl
          refine ⟨⟨r.take m, k, t, x⟩ :: l, z, ?_, ⟨hg, g4, g5, g3, i1 ▸ g6, i2⟩, ?_⟩
          · show r = r.take m ++ (x ++ txt z l)
            rw [← i1, ← g1]; exact e1
          · rw [← h1]
            simp only [mkW, Pc.wd, e2, List.cons_append, List.cons.injEq, true_and]
            rw [i3, hlen, hql, g2]
            rw [show p + m + s + y.length = p + (m + (s + y.length)) by omega]
        · rename_i h00
          exact absurd h0 h00
theorem made_words {r : Tx} {ws : List Wd} {at_ : Nat} (h : wordsB r = (ws, 0, at_)) : r.length ≤ 4096 ∧ at_ = 0 ∧ ∃ l z, r = txt z l ∧ Made z l ∧ ws = mkW 0 l ++ [⟨6, [], r.length⟩] := by
  have hl : r.length ≤ 4096 := by
    rcases Nat.lt_or_ge 4096 r.length with h1 | h1
    · unfold wordsB at h; rw [if_pos h1] at h; cases h
    · exact h1
  rw [wordsB_scan r hl] at h
  obtain ⟨l, z, h1, h2, h3⟩ := made_scan r.length r 0 ws (Nat.le_refl _) (by rw [h]) (by rw [h])
  have h4 := scan_made l z 0 h2
  rw [← h1, h] at h4
  refine ⟨hl, ?_, l, z, h1, h2, by simpa using h3⟩
  injection h4 with _ h4
  injection h4
/-- A fault is one of the two, and stands within the text. -/
theorem scan_fault : ∀ (n : Nat) (r : Tx) (p : Nat), r.length ≤ n → (scanB r p).2.1 ≠ 0 → ((scanB r p).2.1 = 40 ∨ (scanB r p).2.1 = 45) ∧ (scanB r p).2.2 ≤ p + r.length ∧ (scanB r p).1 = [] := by
  intro n
  induction n with
  | zero =>
    intro r p hn h
    obtain rfl : r = [] := List.length_eq_zero_iff.1 (by omega)
    exact absurd rfl h
  | succ n ih =>
    intro r p hn h
    rw [scanB_blanks] at h ⊢
    have hst := runB_head isBla r
    have hle := runB_le isBla r
    generalize runB isBla r = m at *
    obtain ⟨q, hq⟩ : ∃ q, r.drop m = q := ⟨_, rfl⟩
    rw [hq] at h hst ⊢
    have hlen : r.length = m + q.length := by rw [← hq, List.length_drop]; omega
    by_cases hne : q = []
    · subst hne; exact absurd rfl h
    · have hb : firstB q ≠ 1 := by
        cases q with
        | nil => exact absurd rfl hne
        | cons b q =>
          intro e
          have := hst b rfl
          rw [(kind_bla b).1 e] at this; cases this
      cases hw : wordT q with
      | bad c on =>
        rw [scanB_bad _ hb hne hw]
        obtain ⟨h1, h2⟩ := word_bad hw
        exact ⟨h1, by show p + m + on ≤ _; omega, rfl⟩
      | good k t s =>
        rw [scanB_good _ hb hne hw] at h ⊢
        obtain ⟨x, y, g1, g2, g3, g4, g5, g6⟩ := word_inv hw
        have hy : q.drop s = y := by rw [g1, ← g2, drop_app]
        rw [hy] at h ⊢
        unfold cons1 at h ⊢
        split at h
        · exact absurd rfl h
        · rename_i h00
          rw [if_neg h00]
          have hxl : 0 < x.length := List.length_pos_iff.2 g3
          have hql : q.length = x.length + y.length := by rw [g1, List.length_append]
          obtain ⟨j1, j2, j3⟩ := ih y (p + m + s) (by omega) h00
          exact ⟨j1, by show (scanB y (p + m + s)).2.2 ≤ _; omega, rfl⟩
end Go.Proofs.YtkcnbmgaeompjaaGreatDoor
