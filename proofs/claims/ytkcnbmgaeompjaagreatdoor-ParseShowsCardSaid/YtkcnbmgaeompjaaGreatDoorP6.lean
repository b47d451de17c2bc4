/- A query's text is read as the query, plain. -/
import Derived.Test.YtkcnbmgaeompjaaGreatDoorP5
namespace Go.Proofs.YtkcnbmgaeompjaaGreatDoor
set_option linter.unusedVariables false

/-! ### what is shown, as words that stand apart -/
theorem seg_val {g : Tx} (hg : Blank g) {v : Vl} (hv : rightV v = true) (hf : v.Fits) : Seg g (valP g v) := by
  obtain ⟨it, t, n⟩ := v
  obtain ⟨f1, f2⟩ := hf
  simp only at f1 f2
  unfold rightV at hv
  unfold valP
  cases it with
  | true =>
    simp only [if_true, Bool.and_eq_true, decide_eq_true_eq] at hv ⊢
    exact Seg.one hg (.inr (.inr (.inr (.inl ⟨rfl, hv.1⟩)))) (fun e => by omega)
  | false =>
    simp only [Bool.false_eq_true, if_false]
    have hd := digs_valid n.natAbs (by omega)
    split
    · exact (Seg.sig hg 45 (by decide) (by decide) (by decide)).behind (Seg.one blank0 hd (fun e => by omega)) rfl
    · exact Seg.one hg hd (fun e => by omega)
theorem seg_name {g : Tx} (hg : Blank g) {t : Tx} (h : isNameB t = true) : Seg g (nameP g t) := Seg.name hg h
theorem calls_kws : ∀ k : Int, 2 ≤ k → k ≤ 6 → callsT.getD k.toNat [] ∈ kws := by
  intro k h1 h2
  have hk : k = 2 ∨ k = 3 ∨ k = 4 ∨ k = 5 ∨ k = 6 := by omega
  rcases hk with rfl | rfl | rfl | rfl | rfl <;> decide +kernel
theorem seg_brk1 {g : Tx} {a : Tx} (hg : Seg g [sw g 2 a]) {l : List Pc} (h : Seg [] l) : Seg g (sw g 2 a :: brk [] l) :=
  hg.appSig (Seg.brk blank0 h) fun d hd => by cases hd; rfl
theorem seg_item {g : Tx} (hg : Blank g) {i : It} (hi : rightI i = true) : Seg g (itemP g i) := by
  obtain ⟨k, t⟩ := i
  unfold rightI at hi
  unfold itemP
  simp only at hi ⊢
  by_cases h1 : k = 1
  · subst h1
    simp at hi
    rw [if_pos rfl]
    exact Seg.name hg hi
  · rw [if_neg h1]
    by_cases h2 : k = 2
    · rw [if_pos h2]
      exact seg_brk1 (Seg.kw hg _ (by decide +kernel)) (l := [sig [] 42]) (Seg.sig blank0 42 (by decide) (by decide) (by decide))
    · rw [if_neg h2] at hi ⊢
      simp only [Bool.and_eq_true, decide_eq_true_eq] at hi
      exact seg_brk1 (Seg.kw hg _ (calls_kws k (by omega) (by omega))) (l := [sw [] 1 t]) (Seg.name blank0 hi.2)
theorem seg_names {g : Tx} (hg : Blank g) {l : List Tx} (h : ∀ t ∈ l, isNameB t = true) : Seg g (lstP g l) := by
  unfold lstP
  cases l with
  | nil => exact Seg.brk0 hg
  | cons t l => exact Seg.brk hg (Seg.sep (by simp) (fun a ha => seg_name blank0 (h a ha)) fun a ha => seg_name blank32 (h a ha))
theorem seg_grp {g : Tx} (hg : Blank g) {e : Gp} (he : rightG e = true) : Seg g (grpP g e) := by
  obtain ⟨k, cols, sets⟩ := e
  unfold rightG at he
  unfold grpP
  simp only at he ⊢
  by_cases h1 : k = 1
  · rw [if_pos h1] at he ⊢
    simp only [Bool.and_eq_true, List.isEmpty_iff, rightL_iff] at he
    obtain ⟨rfl, h2, h3, h4⟩ := he
    obtain ⟨c, rfl⟩ := List.length_eq_one_iff.1 (show cols.length = 1 by omega)
    exact Seg.name hg (h4 c (by simp))
  · rw [if_neg h1] at he ⊢
    by_cases h2 : k = 2
    · rw [if_pos h2]
      rw [if_pos (.inl h2)] at he
      simp only [Bool.and_eq_true, List.isEmpty_iff, rightL_iff] at he
      exact (Seg.kw hg _ (by decide +kernel)).appSig (seg_names blank0 he.2.2.2) fun d hd => by cases hd; rfl
    · rw [if_neg h2]
      by_cases h3 : k = 3
      · rw [if_pos h3]
        rw [if_pos (.inr h3)] at he
        simp only [Bool.and_eq_true, List.isEmpty_iff, rightL_iff] at he
        exact (Seg.kw hg _ (by decide +kernel)).appSig (seg_names blank0 he.2.2.2) fun d hd => by cases hd; rfl
      · rw [if_neg h3]
        rw [if_neg (by omega)] at he
        split at he
        · simp only [Bool.and_eq_true, List.isEmpty_iff, rightL_iff] at he
          obtain ⟨rfl, h3, h4, h5⟩ := he
          have h6 : Seg [32] (sw [32] 2 [83, 69, 84, 83] :: brk [] (sepP lstP [] sets)) := seg_brk1 (Seg.kw blank32 _ (by decide +kernel)) (Seg.sep (ne_of_len h3) (fun a ha => seg_names blank0 (h5 a ha).2.2) fun a ha => seg_names blank32 (h5 a ha).2.2)
          exact (Seg.kw hg [71, 82, 79, 85, 80, 73, 78, 71] (by decide +kernel)).app32 h6
        · cases he
theorem seg_test {k : Int} {col : Tx} {op : Int} {vals : List Vl} {g : Tx} (hg : Blank g) (ht : testR k col op vals = true) (hf : ∀ v ∈ vals, v.Fits) : Seg g (testP k col op vals g) := by
  unfold testR at ht
  unfold testP
  by_cases h4 : k = 4
  · rw [if_pos h4] at ht
    rw [if_neg (by omega)]
    simp only [Bool.and_eq_true, decide_eq_true_eq, rightL_iff] at ht
    obtain ⟨⟨⟨h1, h2⟩, h3⟩, h4, h5, h6⟩ := ht
    obtain ⟨v, rfl⟩ := List.length_eq_one_iff.1 (show vals.length = 1 by omega)
    have hop : op = 1 ∨ op = 2 ∨ op = 3 ∨ op = 4 ∨ op = 5 ∨ op = 6 := by omega
    have hv := seg_val blank32 (h6 v (by simp)) (hf v (by simp))
    have hn := Seg.name hg h1
    have hs : ∀ s : Tx, s ∈ signs → Run [sw [32] 5 s] := fun s h => ⟨⟨blank32, .inr (.inr (.inr (.inr ⟨rfl, h⟩))), ⟨fun _ => rfl, fun e => absurd e (show (5 : Nat) ≠ 2 by decide)⟩, fun e => by
      have e : s = [] := e
      rw [e] at h; revert h; decide⟩, (fun d hd => by cases hd), trivial⟩
    have key : ∀ s : Tx, s ∈ signs → Seg g (sw g 1 col :: sw [32] 5 s :: valP [32] v) := by
      intro s hs'
      obtain ⟨d, r, e, hd⟩ := hv.head
      obtain ⟨r', c, e', hc⟩ := hv.last
      have h2 : Run ([sw [32] 5 s] ++ valP [32] v) := (hs s hs').app hv.run fun c' d' h1 h2 => by
        rw [e] at h2
        cases h2
        exact .inl hd
      have h3 : Run ([sw g 1 col] ++ ([sw [32] 5 s] ++ valP [32] v)) := hn.run.app h2 fun c' d' h1 h2 => by
        cases h2
        exact .inl rfl
      exact ⟨h3, ⟨_, _, rfl, rfl⟩, ⟨sw g 1 col :: sw [32] 5 s :: r', c, by rw [e']; rfl, hc⟩⟩
    apply key
    rcases hop with rfl | rfl | rfl | rfl | rfl | rfl <;> decide
  · rw [if_neg h4] at ht
    split at ht
    · rename_i h5
      rw [if_pos h5]
      simp only [Bool.and_eq_true, beq_iff_eq, rightL_iff] at ht
      obtain ⟨⟨h1, _⟩, h3, h4, h6⟩ := ht
      have hb : Seg [32] (brk [32] (sepP valP [] vals)) := Seg.brk blank32 (Seg.sep (ne_of_len h3) (fun a ha => seg_val blank0 (h6 a ha) (hf a ha)) fun a ha => seg_val blank32 (h6 a ha) (hf a ha))
      have hi : Seg [32] (sw [32] 2 [73, 78] :: brk [32] (sepP valP [] vals)) := (Seg.kw blank32 [73, 78] (by decide +kernel)).app32 hb
      exact (Seg.name hg h1).app32 hi
    · cases ht
theorem seg_br {c : Cd} {g : Tx} (hg : Blank g) (h : ∀ g, Blank g → Seg g (nodeP c g)) (k : Int) (least : Nat) : Seg g (brP k least (nodeP c) g) := by
  unfold brP
  split
  · exact h g hg
  · exact Seg.brk hg (h [] blank0)
theorem seg_node : ∀ (c : Cd), c.Right → c.Fits → ∀ g, Blank g → Seg g (nodeP c g)
  | .none, h, _ => h.elim
  | .node k l r col op vals, h, hf => by
    intro g hg
    obtain ⟨f1, f2, f3⟩ := hf
    rcases h with ⟨hk, rfl, rfl, rfl, hl, hr⟩ | ⟨rfl, rfl, rfl, rfl, hl, rfl⟩ | ⟨rfl, rfl, ht⟩
    · have sl := seg_node l hl f1
      have sr := seg_node r hr f2
      rcases hk with rfl | rfl
      · show Seg g (brP l.kind 1 (nodeP l) g ++ sw [32] 2 [65, 78, 68] :: brP r.kind 2 (nodeP r) [32])
        exact (seg_br hg sl _ _).app32 ((Seg.kw blank32 [65, 78, 68] (by decide +kernel)).app32 (seg_br blank32 sr _ _))
      · show Seg g (brP l.kind 0 (nodeP l) g ++ sw [32] 2 [79, 82] :: brP r.kind 1 (nodeP r) [32])
        exact (seg_br hg sl _ _).app32 ((Seg.kw blank32 [79, 82] (by decide +kernel)).app32 (seg_br blank32 sr _ _))
    · have sl := seg_node l hl f1
      show Seg g (sw g 2 [78, 79, 84] :: brP l.kind 2 (nodeP l) [32])
      exact (Seg.kw hg [78, 79, 84] (by decide +kernel)).app32 (seg_br blank32 sl _ _)
    · have e : nodeP (.node k .none .none col op vals) g = testP k col op vals g := by
        unfold nodeP
        rcases testR_kind ht with rfl | rfl <;> rfl
      rw [e]
      exact seg_test hg ht f3

/-- What a query that may be has, in parts. -/
structure RQ (q : Qy) : Prop where
  i1 : 1 ≤ q.items.length
  i2 : q.items.length ≤ 16
  i3 : ∀ i ∈ q.items, rightI i = true
  table : isNameB q.table = true
  cond : q.cond = .none ∨ (q.cond.Right ∧ depthW q.cond ≤ 32)
  g0 : q.grouped = false → q.groups = []
  g1 : q.grouped = true → 1 ≤ q.groups.length ∧ q.groups.length ≤ 16 ∧ ∀ g ∈ q.groups, rightG g = true
theorem rq_of {q : Qy} (h : rightQ q = true) : RQ q := by
  unfold rightQ at h
  simp only [Bool.and_eq_true, Bool.or_eq_true, decide_eq_true_eq, rightL_iff] at h
  obtain ⟨⟨⟨⟨h1, h2, h3⟩, h4⟩, h5⟩, h6⟩ := h
  unfold rightGs at h6
  refine ⟨h1, h2, h3, h4, ?_, fun e => ?_, fun e => ?_⟩
  · rcases h5 with h5 | h5
    · exact .inl h5
    · obtain ⟨m, hm⟩ := Option.isSome_iff_exists.1 h5
      obtain ⟨a, b, _⟩ := rightC_right _ _ _ _ hm
      exact .inr ⟨a, b⟩
  · rw [e] at h6; simpa using h6
  · rw [e] at h6; exact rightL_iff.1 h6
theorem where_none (c : Cd) (h : c = .none) : whereP c = [] := by unfold whereP; rw [if_pos h]
theorem where_some (c : Cd) (h : c ≠ .none) : whereP c = sw [32] 2 [87, 72, 69, 82, 69] :: brP c.kind 0 (nodeP c) [32] := by unfold whereP; rw [if_neg h]
theorem run_query {q : Qy} (h : RQ q) (hf : q.cond.Fits) : Run (queryP q) := by
  have s1 : Seg [] [sw [] 2 [83, 69, 76, 69, 67, 84]] := Seg.kw blank0 _ (by decide +kernel)
  have s2 : Seg [32] (sepP itemP [32] q.items) := Seg.sep (ne_of_len h.i1) (fun a ha => seg_item blank32 (h.i3 a ha)) fun a ha => seg_item blank32 (h.i3 a ha)
  have s3 : Seg [32] [sw [32] 2 [70, 82, 79, 77]] := Seg.kw blank32 _ (by decide +kernel)
  have s4 : Seg [32] [sw [32] 1 q.table] := Seg.name blank32 h.table
  have s34 : Seg [32] (sw [32] 2 [70, 82, 79, 77] :: [sw [32] 1 q.table]) := s3.app32 s4
  have s5 : Seg [32] (sw [32] 2 [70, 82, 79, 77] :: sw [32] 1 q.table :: whereP q.cond) := by
    rcases h.cond with e | ⟨e, _⟩
    · rw [where_none _ e]; exact s34
    · rw [where_some _ (by intro e2; rw [e2] at e; exact e)]
      exact s34.app32 ((Seg.kw blank32 _ (by decide +kernel)).app32 (seg_br blank32 (seg_node _ e hf) _ _))
  have s6 : Seg [32] (sw [32] 2 [70, 82, 79, 77] :: sw [32] 1 q.table :: (whereP q.cond ++ groupP q)) := by
    unfold groupP
    cases hg : q.grouped with
    | false => rw [if_neg (by decide), List.append_nil]; exact s5
    | true =>
      rw [if_pos rfl]
      obtain ⟨g1, g2, g3⟩ := h.g1 hg
      have s7 : Seg [32] (sepP grpP [32] q.groups) := Seg.sep (ne_of_len g1) (fun a ha => seg_grp blank32 (g3 a ha)) fun a ha => seg_grp blank32 (g3 a ha)
      have s8 : Seg [32] (sw [32] 2 [66, 89] :: sepP grpP [32] q.groups) := (Seg.kw blank32 [66, 89] (by decide +kernel)).app32 s7
      have s9 : Seg [32] (sw [32] 2 [71, 82, 79, 85, 80] :: sw [32] 2 [66, 89] :: sepP grpP [32] q.groups) := (Seg.kw blank32 [71, 82, 79, 85, 80] (by decide +kernel)).app32 s8
      exact s5.app32 s9
  exact (s1.app32 (s2.app32 s6)).run
theorem query_is {q : Qy} (h : RQ q) (hf : q.cond.Fits) {f : Nat} {r : List Wd} {e : Wd} (he : e.kind = 6) (hr : Is r (queryP q)) (hl : r.length ≤ f) : queryW f (r ++ [e]) false = .ok q [] false := by
  obtain ⟨p1, r1, rfl, y1⟩ := Is.cons hr
  obtain ⟨r2, r3, rfl, hi, y2⟩ := y1.app
  obtain ⟨p3, r4, rfl, y3⟩ := y2.cons
  obtain ⟨p4, r5, rfl, y4⟩ := y3.cons
  obtain ⟨rww, rg, rfl, hw, hg⟩ := y4.app
  obtain ⟨ek, et, ep⟩ := e
  obtain rfl : ek = 6 := he
  have s1 := list_is (one := itemW) (oneP := itemP) (z := ⟨2, [70, 82, 79, 77], p3⟩ :: ⟨1, q.table, p4⟩ :: (rww ++ (rg ++ [(⟨6, et, ep⟩ : Wd)]))) (b := false) (ne_of_len h.i1) h.i2 (fun a ha g r z b hh => item_is (h.i3 a ha) hh) hi rfl
  -- the groups
  have sg : (if seesW (saysW [71, 82, 79, 85, 80]) (rg ++ [(⟨6, et, ep⟩ : Wd)]) then (allW [[66, 89]] (rg ++ [(⟨6, et, ep⟩ : Wd)]).tail false).then fun _ r6 b6 => (listW 16 eltW r6 b6).map fun g => (true, g) else .ok (false, []) (rg ++ [(⟨6, et, ep⟩ : Wd)]) false) = .ok (q.grouped, q.groups) [(⟨6, et, ep⟩ : Wd)] false := by
    unfold groupP at hg
    cases hgr : q.grouped with
    | false =>
      rw [hgr, if_neg (by decide)] at hg
      obtain rfl := hg.nil
      rw [h.g0 hgr]; rfl
    | true =>
      rw [hgr, if_pos rfl] at hg
      obtain ⟨g1, g2, g3⟩ := h.g1 hgr
      obtain ⟨p5, r6, rfl, hg1⟩ := hg.cons
      obtain ⟨p6, r7, rfl, hg2⟩ := hg1.cons
      have s2 := list_is (one := eltW) (oneP := grpP) (z := [(⟨6, et, ep⟩ : Wd)]) (b := false) (ne_of_len g1) g2 (fun a ha g r z b hh => grp_is (g3 a ha) hh) hg2 rfl
      show ((listW 16 eltW (r7 ++ [(⟨6, et, ep⟩ : Wd)]) false).map fun g => (true, g)) = _
      rw [s2]; rfl
  have hq : Quiet (rg ++ [(⟨6, et, ep⟩ : Wd)]) ∧ seesW (saysW [87, 72, 69, 82, 69]) (rg ++ [(⟨6, et, ep⟩ : Wd)]) = false := by
    unfold groupP at hg
    split at hg
    · obtain ⟨p5, r6, rfl, hg⟩ := hg.cons
      exact ⟨⟨rfl, rfl, rfl⟩, rfl⟩
    · obtain rfl := hg.nil
      exact ⟨⟨rfl, rfl, rfl⟩, rfl⟩
  have sw' : (if seesW (saysW [87, 72, 69, 82, 69]) (rww ++ (rg ++ [(⟨6, et, ep⟩ : Wd)])) then orW (notW f) (rww ++ (rg ++ [(⟨6, et, ep⟩ : Wd)])).tail false else .ok .none (rww ++ (rg ++ [(⟨6, et, ep⟩ : Wd)])) false) = .ok q.cond (rg ++ [(⟨6, et, ep⟩ : Wd)]) false := by
    rcases h.cond with e | ⟨e, _⟩
    · rw [where_none _ e] at hw
      obtain rfl := hw.nil
      rw [List.nil_append, if_neg (by rw [hq.2]; decide), e]
    · rw [where_some _ (by intro e2; rw [e2] at e; exact e)] at hw
      obtain ⟨p5, r6, rfl, hw1⟩ := hw.cons
      have := (cond_is q.cond e hf).2.2.done (f := f) (b := false) (z := rg ++ [(⟨6, et, ep⟩ : Wd)]) (by simp at hl; omega) hw1 hq.1
      show orW (notW f) (r6 ++ (rg ++ [(⟨6, et, ep⟩ : Wd)])) false = _
      rw [this]
  have e0 : Wd.mk (sw [] 2 [83, 69, 76, 69, 67, 84]).kind (sw [] 2 [83, 69, 76, 69, 67, 84]).text p1 :: (r2 ++ Wd.mk (sw [32] 2 [70, 82, 79, 77]).kind (sw [32] 2 [70, 82, 79, 77]).text p3 :: Wd.mk (sw [32] 1 q.table).kind (sw [32] 1 q.table).text p4 :: (rww ++ rg)) ++ [(⟨6, et, ep⟩ : Wd)] = ⟨2, [83, 69, 76, 69, 67, 84], p1⟩ :: (r2 ++ ⟨2, [70, 82, 79, 77], p3⟩ :: ⟨1, q.table, p4⟩ :: (rww ++ (rg ++ [(⟨6, et, ep⟩ : Wd)]))) := by simp [sw]
  rw [e0]
  show ((listW 16 itemW (r2 ++ _) false).then _) = _
  rw [s1]
  show (PR.then (if seesW (saysW [87, 72, 69, 82, 69]) (rww ++ (rg ++ [(⟨6, et, ep⟩ : Wd)])) then orW (notW f) (rww ++ (rg ++ [(⟨6, et, ep⟩ : Wd)])).tail false else .ok .none (rww ++ (rg ++ [(⟨6, et, ep⟩ : Wd)])) false) _) = _
  rw [sw']
  show (PR.then (if seesW (saysW [71, 82, 79, 85, 80]) (rg ++ [(⟨6, et, ep⟩ : Wd)]) then (allW [[66, 89]] (rg ++ [(⟨6, et, ep⟩ : Wd)]).tail false).then fun _ r6 b6 => (listW 16 eltW r6 b6).map fun g => (true, g) else .ok (false, []) (rg ++ [(⟨6, et, ep⟩ : Wd)]) false) _) = _
  rw [sg]; rfl
theorem words_show {q : Qy} (h : RQ q) (hf : q.cond.Fits) (hl : (showT q).length ≤ 4096) : wordsB (showT q) = (mkW 0 (queryP q) ++ [⟨6, [], (showT q).length⟩], 0, 0) := by
  rw [wordsB_scan _ hl]
  have := scan_made (queryP q) [] 0 (run_query h hf).made
  rw [Nat.zero_add] at this
  exact this
/-- PARSE OF SHOW IS THE QUERY. -/
theorem parse_show {q : Qy} (h : RQ q) (hf : q.cond.Fits) (hl : (showT q).length ≤ 4096) : parseW (showT q) = (q, 0, 0) := by
  have hw := words_show h hf hl
  unfold parseW
  rw [hw]
  simp only [ne_eq, not_true_eq_false, if_false]
  rw [query_is h hf rfl (is_mkW 0 (queryP q)) (by simp)]
  unfold endW
  have hd : ¬ 32 < depthW q.cond := by
    rcases h.cond with e | ⟨_, e⟩
    · rw [e]; decide
    · omega
  simp only [Bool.false_eq_true, if_false, if_neg hd]
end Go.Proofs.YtkcnbmgaeompjaaGreatDoor
