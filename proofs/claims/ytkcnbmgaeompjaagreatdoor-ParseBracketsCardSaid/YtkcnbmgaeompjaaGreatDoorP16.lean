/- Brackets around a condition, plain. -/
import Derived.Test.YtkcnbmgaeompjaaGreatDoorP15
import Derived.Test.YtkcnbmgaeompjaaGreatDoorGU
namespace Go.Proofs.YtkcnbmgaeompjaaGreatDoor
set_option linter.unusedVariables false

def lbs (n : Nat) : List Pc := List.replicate n (sig [32] 40)
def rbs (n : Nat) : List Pc := List.replicate n (sig [32] 41)
theorem bks_succ (n : Nat) (l : List Pc) : lbs (n + 1) ++ (l ++ rbs (n + 1)) = sig [32] 40 :: ((lbs n ++ (l ++ rbs n)) ++ [sig [32] 41]) := by
  unfold lbs rbs
  rw [List.replicate_succ, List.replicate_succ' (a := sig [32] 41)]
  simp
theorem brks_is {c : Cd} (h : OrIs c) : ∀ (n f : Nat) (r z : List Wd) (b : Bool), r.length ≤ f → Quiet z → Is r (lbs n ++ (brP c.kind 0 (nodeP c) [32] ++ rbs n)) → orW (notW f) (r ++ z) b = .ok c z b
  | 0, f, r, z, b, hf, hz, hr => h.done hf (g := [32]) (by simpa [lbs, rbs] using hr) hz
  | n + 1, f, r, z, b, hf, hz, hr => by
    rw [bks_succ] at hr
    obtain ⟨p, r', rfl, q1⟩ := Is.cons hr
    obtain ⟨r1, r2, rfl, h2, h3⟩ := Is.app q1
    obtain ⟨p', r3, rfl, q2⟩ := h3.cons
    obtain rfl := q2.nil
    cases f with
    | zero => simp at hf
    | succ f =>
      have e := brks_is h n f r1 (⟨5, [41], p'⟩ :: z) b (by simp at hf; omega) ⟨rfl, rfl, rfl⟩ h2
      have e1 : (⟨5, [40], p⟩ :: (r1 ++ [⟨5, [41], p'⟩])) ++ z = (⟨5, [40], p⟩ : Wd) :: (r1 ++ ⟨5, [41], p'⟩ :: z) := by simp
      have e2 : notW (f + 1) ((⟨5, [40], p⟩ :: (r1 ++ [⟨5, [41], p'⟩])) ++ z) b = .ok c z b := by
        rw [e1]
        show (orW (notW f) (r1 ++ ⟨5, [41], p'⟩ :: z) b).then _ = _
        rw [e]; rfl
      have e3 : andW (notW (f + 1)) ((⟨5, [40], p⟩ :: (r1 ++ [⟨5, [41], p'⟩])) ++ z) b = .ok c z b := by
        unfold andW
        rw [chain_one e2, linkW_end (by omega) hz.1]
      show orW (notW (f + 1)) ((⟨5, [40], p⟩ :: (r1 ++ [⟨5, [41], p'⟩])) ++ z) b = .ok c z b
      unfold orW
      rw [chain_one e3, linkW_end (by omega) hz.2.1]

def repT (x : Tx) : Nat → Tx
  | 0 => []
  | n + 1 => repT x n ++ x
theorem repT_comm (x : Tx) : ∀ n, repT x n ++ x = x ++ repT x n
  | 0 => by simp [repT]
  | n + 1 => by
    show (repT x n ++ x) ++ x = x ++ (repT x n ++ x)
    rw [repT_comm x n, List.append_assoc, repT_comm x n]
theorem repT_len (x : Tx) : ∀ n, (repT x n).length = n * x.length
  | 0 => by simp [repT]
  | n + 1 => by
    show (repT x n ++ x).length = _
    rw [List.length_append, repT_len x n, Nat.succ_mul]
theorem repT_turn (a b : UInt8) : ∀ n, [a] ++ repT [b, a] n = repT [a, b] n ++ [a]
  | 0 => rfl
  | n + 1 => by
    show [a] ++ (repT [b, a] n ++ [b, a]) = (repT [a, b] n ++ [a, b]) ++ [a]
    rw [← List.append_assoc, repT_turn a b n]
    simp
theorem txt_end (z : Tx) : ∀ l : List Pc, txt z l = txt [] l ++ z
  | [] => rfl
  | c :: l => by
    show c.gap ++ (c.x ++ txt z l) = (c.gap ++ (c.x ++ txt [] l)) ++ z
    rw [txt_end z l]; simp
theorem txt_rep (z : Tx) (b : UInt8) : ∀ n, txt z (List.replicate n (sig [32] b)) = repT [32, b] n ++ z
  | 0 => rfl
  | n + 1 => by
    rw [List.replicate_succ]
    show [32] ++ ([b] ++ txt z (List.replicate n (sig [32] b))) = (repT [32, b] n ++ [32, b]) ++ z
    rw [txt_rep z b n, repT_comm]; simp

def selQ (q : Qy) : Qy := ⟨q.items, q.table, .none, false, []⟩
def fullQ (q : Qy) : Qy := ⟨q.items, q.table, q.cond, false, []⟩
def bkP (q : Qy) (n : Nat) : List Pc := queryP (selQ q) ++ sw [32] 2 [87, 72, 69, 82, 69] :: (lbs n ++ (brP q.cond.kind 0 (nodeP q.cond) [32] ++ rbs n))
def bkT (q : Qy) (n : Nat) : Tx := showT (selQ q) ++ [32, 87, 72, 69, 82, 69, 32] ++ repT [40, 32] n ++ condT q.cond 0 ++ repT [32, 41] n
theorem sel_right {q : Qy} (h : rightQ (fullQ q) = true) : rightQ (selQ q) = true := by
  unfold rightQ fullQ selQ at *
  simp only [Bool.and_eq_true, Bool.or_eq_true, decide_eq_true_eq] at h ⊢
  exact ⟨⟨⟨h.1.1.1, h.1.1.2⟩, .inl trivial⟩, h.2⟩
theorem full_cond {q : Qy} (h : rightQ (fullQ q) = true) (hc : q.cond ≠ .none) : ∃ m, rightC q.cond 32 2048 = some m := by
  unfold rightQ fullQ at h
  simp only [Bool.and_eq_true, Bool.or_eq_true, decide_eq_true_eq, Option.isSome_iff_exists] at h
  exact h.1.2.resolve_left hc
theorem full_text {q : Qy} (h : rightQ (fullQ q) = true) (hc : q.cond ≠ .none) : showT (fullQ q) = showT (selQ q) ++ [32, 87, 72, 69, 82, 69, 32] ++ condT q.cond 0 := by
  rw [showT_eq h, showT_eq (sel_right h)]
  have e1 : whereT (fullQ q).cond = [32, 87, 72, 69, 82, 69, 32] ++ condT q.cond 0 := by
    show whereT q.cond = _
    unfold whereT; rw [if_neg hc]
  have e2 : whereT (selQ q).cond = [] := rfl
  rw [e1, e2]
  show selT (fullQ q) ++ _ ++ [] = selT (selQ q) ++ [] ++ [] ++ _ ++ _
  have e3 : selT (fullQ q) = selT (selQ q) := rfl
  rw [e3]; simp
theorem bk_txt {q : Qy} (h : rightQ (fullQ q) = true) (hc : q.cond ≠ .none) (n : Nat) : txt [] (bkP q n) = bkT q n := by
  obtain ⟨m, hm⟩ := full_cond h hc
  unfold bkP bkT
  rw [txt_app, txt_end]
  show showT (selQ q) ++ ([32] ++ ([87, 72, 69, 82, 69] ++ txt [] (lbs n ++ (brP q.cond.kind 0 (nodeP q.cond) [32] ++ rbs n)))) = _
  rw [txt_app, txt_app]
  have e1 : txt [] (rbs n) = repT [32, 41] n := by unfold rbs; rw [txt_rep]; simp
  rw [e1, br_txt (node_txt q.cond hc _ _ _ hm)]
  have e2 : ∀ z, txt z (lbs n) = repT [32, 40] n ++ z := fun z => by unfold lbs; rw [txt_rep]
  rw [e2]
  have e3 : repT [32, 40] n ++ ([32] ++ condT q.cond 0 ++ repT [32, 41] n) = [32] ++ repT [40, 32] n ++ (condT q.cond 0 ++ repT [32, 41] n) := by
    rw [repT_turn]; simp
  show showT (selQ q) ++ ([32] ++ ([87, 72, 69, 82, 69] ++ (repT [32, 40] n ++ ([32] ++ condT q.cond 0 ++ repT [32, 41] n)))) = _
  rw [e3]; simp
theorem seg_sig32 (b : UInt8) (hb : [b] ∈ signs) (hf : [b] ≠ [60] ∧ [b] ≠ [62]) : Seg [32] [sig [32] b] := Seg.one blank32 (.inr (.inr (.inr (.inr ⟨rfl, hb⟩)))) fun _ => hf
theorem seg_bks {l : List Pc} (h : Seg [32] l) : ∀ n, Seg [32] (lbs n ++ (l ++ rbs n))
  | 0 => by simpa [lbs, rbs] using h
  | n + 1 => by
    rw [bks_succ]
    exact (seg_sig32 40 (by decide) (by decide)).app32 ((seg_bks h n).app32 (seg_sig32 41 (by decide) (by decide)))
theorem bk_run {q : Qy} (h : rightQ (fullQ q) = true) (hc : q.cond ≠ .none) (hf : q.cond.Fits) (n : Nat) : Run (bkP q n) := by
  obtain ⟨m, hm⟩ := full_cond h hc
  have hs : Seg [32] (sw [32] 2 [87, 72, 69, 82, 69] :: (lbs n ++ (brP q.cond.kind 0 (nodeP q.cond) [32] ++ rbs n))) :=
    (Seg.kw blank32 [87, 72, 69, 82, 69] (by decide +kernel)).app32 (seg_bks (seg_br blank32 (seg_node _ (rightC_right _ _ _ _ hm).1 hf) _ _) n)
  refine Run.app (run_query (rq_of (sel_right h)) trivial) hs.run fun c d _ hd => ?_
  simp only [List.head?_cons, Option.some.injEq] at hd
  subst hd
  exact .inl rfl
theorem sel_is {q : Qy} (h : RQ q) (hcn : q.cond = .none) (hgn : q.grouped = false) (c : Cd) {f : Nat} {r rw_ : List Wd} {e : Wd} {p : Nat} (he : e.kind = 6) (hr : Is r (queryP q)) (hw : orW (notW f) (rw_ ++ [e]) false = .ok c [e] false) : queryW f (r ++ ⟨2, [87, 72, 69, 82, 69], p⟩ :: (rw_ ++ [e])) false = .ok ⟨q.items, q.table, c, false, []⟩ [] false := by
  obtain ⟨p1, r1, rfl, y1⟩ := Is.cons hr
  obtain ⟨r2, r3, rfl, hi, y2⟩ := y1.app
  obtain ⟨p3, r4, rfl, y3⟩ := y2.cons
  obtain ⟨p4, r5, rfl, y4⟩ := y3.cons
  have h5 : r5 = [] := by
    rw [hcn] at y4
    unfold groupP at y4
    rw [hgn, if_neg (by decide), where_none _ rfl] at y4
    exact y4.nil
  subst h5
  obtain ⟨ek, et, ep⟩ := e
  obtain rfl : ek = 6 := he
  have s1 := list_is (one := itemW) (oneP := itemP) (z := ⟨2, [70, 82, 79, 77], p3⟩ :: ⟨1, q.table, p4⟩ :: ⟨2, [87, 72, 69, 82, 69], p⟩ :: (rw_ ++ [(⟨6, et, ep⟩ : Wd)])) (b := false) (ne_of_len h.i1) h.i2 (fun a ha g r z b hh => item_is (h.i3 a ha) hh) hi rfl
  have e0 : Wd.mk (sw [] 2 [83, 69, 76, 69, 67, 84]).kind (sw [] 2 [83, 69, 76, 69, 67, 84]).text p1 :: (r2 ++ Wd.mk (sw [32] 2 [70, 82, 79, 77]).kind (sw [32] 2 [70, 82, 79, 77]).text p3 :: Wd.mk (sw [32] 1 q.table).kind (sw [32] 1 q.table).text p4 :: []) ++ ⟨2, [87, 72, 69, 82, 69], p⟩ :: (rw_ ++ [(⟨6, et, ep⟩ : Wd)]) = ⟨2, [83, 69, 76, 69, 67, 84], p1⟩ :: (r2 ++ ⟨2, [70, 82, 79, 77], p3⟩ :: ⟨1, q.table, p4⟩ :: ⟨2, [87, 72, 69, 82, 69], p⟩ :: (rw_ ++ [(⟨6, et, ep⟩ : Wd)])) := by simp [sw]
  rw [e0]
  show ((listW 16 itemW (r2 ++ _) false).then _) = _
  rw [s1]
  show (PR.then (orW (notW f) (rw_ ++ [(⟨6, et, ep⟩ : Wd)]) false) _) = _
  rw [hw]
  rfl
theorem mkW_app : ∀ (a b : List Pc) (p : Nat), ∃ p', mkW p (a ++ b) = mkW p a ++ mkW p' b
  | [], b, p => ⟨p, rfl⟩
  | c :: a, b, p => by
    obtain ⟨p', h⟩ := mkW_app a b (p + c.gap.length + c.x.length)
    exact ⟨p', by show _ :: mkW _ (a ++ b) = _; rw [h]; rfl⟩
theorem bk_parse {q : Qy} (h : rightQ (fullQ q) = true) (hc : q.cond ≠ .none) (hf : q.cond.Fits) (n : Nat) (hl : (bkT q n).length ≤ 4096) : parseW (bkT q n) = (fullQ q, 0, 0) := by
  obtain ⟨m, hm⟩ := full_cond h hc
  obtain ⟨hR, hD, -⟩ := rightC_right _ _ _ _ hm
  have hw : wordsB (bkT q n) = (mkW 0 (bkP q n) ++ [⟨6, [], (bkT q n).length⟩], 0, 0) := by
    rw [wordsB_scan _ hl]
    have := scan_made (bkP q n) [] 0 (bk_run h hc hf n).made
    rw [bk_txt h hc, Nat.zero_add] at this
    exact this
  unfold parseW
  rw [hw]
  simp only [ne_eq, not_true_eq_false, if_false]
  obtain ⟨p', e⟩ := mkW_app (queryP (selQ q)) (sw [32] 2 [87, 72, 69, 82, 69] :: (lbs n ++ (brP q.cond.kind 0 (nodeP q.cond) [32] ++ rbs n))) 0
  have e' : mkW 0 (bkP q n) = mkW 0 (queryP (selQ q)) ++ ⟨2, [87, 72, 69, 82, 69], p' + 1⟩ :: mkW (p' + 1 + 5) (lbs n ++ (brP q.cond.kind 0 (nodeP q.cond) [32] ++ rbs n)) := e
  have hlen : (mkW 0 (bkP q n) ++ [(⟨6, [], (bkT q n).length⟩ : Wd)]).length = (mkW 0 (queryP (selQ q))).length + (mkW (p' + 1 + 5) (lbs n ++ (brP q.cond.kind 0 (nodeP q.cond) [32] ++ rbs n))).length + 2 := by
    rw [e']; simp; omega
  have ho := brks_is (cond_is q.cond hR hf).2.2 n (mkW 0 (bkP q n) ++ [(⟨6, [], (bkT q n).length⟩ : Wd)]).length (mkW (p' + 1 + 5) (lbs n ++ (brP q.cond.kind 0 (nodeP q.cond) [32] ++ rbs n))) [(⟨6, [], (bkT q n).length⟩ : Wd)] false (by rw [hlen]; omega) ⟨rfl, rfl, rfl⟩ (is_mkW _ _)
  have hq := sel_is (rq_of (sel_right h)) rfl rfl q.cond (p := p' + 1) (r := mkW 0 (queryP (selQ q))) rfl (is_mkW _ _) ho
  obtain ⟨N, hN⟩ : ∃ N, (mkW 0 (bkP q n) ++ [(⟨6, [], (bkT q n).length⟩ : Wd)]).length = N := ⟨_, rfl⟩
  rw [hN] at hq ⊢
  rw [e', List.append_assoc, List.cons_append, hq]
  unfold endW
  have hd : ¬ 32 < depthW (fullQ q).cond := by show ¬ 32 < depthW q.cond; omega
  simp only [Bool.false_eq_true, if_false]
  exact if_neg hd
theorem bk_long {q : Qy} (n : Nat) (hl : 4096 < (bkT q n).length) : parseW (bkT q n) = (Qy0, 45, 0) := by
  have hw : wordsB (bkT q n) = ([], 45, 0) := by unfold wordsB; rw [if_pos hl]
  unfold parseW
  rw [hw]; rfl
end Go.Proofs.YtkcnbmgaeompjaaGreatDoor
