/- The parts of one whole: plain. -/
import Derived.Test.YtgjpdagbbljmpaaC6
namespace Go.Proofs.Ytgjpdagbbljmpaa
open Go.RowKit Go.Maps Go.Sort
set_option linter.unusedVariables false

theorem plus_zero {s : Sm} (h : s.ok) : plusS s ⟨0, 0⟩ = s := by
  unfold Sm.ok at h
  unfold plusS w64
  ext <;> simp only <;> omega
theorem zero_plus {s : Sm} (h : s.ok) : plusS ⟨0, 0⟩ s = s := by rw [plusS_comm, plus_zero h]
theorem withP_bothP {p q : Pt} (hp : p.ok) (hp0 : p.any = false → p = Pt.zero) (hq0 : q.any = false → q = Pt.zero) {x : Int} (hx : i64 x) : withP (bothP p q) x = bothP p (withP q x) := by
  cases h1 : p.any with
  | false =>
    rw [hp0 h1]
    cases h2 : q.any with
    | false => rw [hq0 h2]; rfl
    | true =>
      have e1 : bothP Pt.zero q = q := by unfold bothP; rw [if_neg (by decide), if_pos h2]
      have e2 : bothP Pt.zero (withP q x) = withP q x := by unfold bothP; rw [if_neg (by decide)]; rfl
      rw [e1, e2]
  | true =>
    cases h2 : q.any with
    | false =>
      rw [hq0 h2]
      unfold bothP withP addS
      simp only [h1, Pt.zero, if_true, if_false, Bool.false_eq_true]
      rw [zero_plus (ofS_ok hx)]
    | true =>
      unfold bothP withP addS
      simp only [h1, h2, if_true, plusS_assoc]
      simp only [Int.min_assoc, Int.max_assoc]
theorem foldP_any : ∀ (l : List Int) (p : Pt), (p.any = false → p = Pt.zero) → ((l.foldl withP p).any = false → l.foldl withP p = Pt.zero)
  | [], p, h, e => h e
  | x :: l, p, h, e => foldP_any l (withP p x) (fun e => by cases e) e
theorem foldP_zero (l : List Int) : (foldP l).any = false → foldP l = Pt.zero := foldP_any l _ fun _ => rfl
theorem fold_both {p : Pt} (hp : p.ok) (hp0 : p.any = false → p = Pt.zero) : ∀ (m : List Int) (q : Pt), (q.any = false → q = Pt.zero) → (∀ x ∈ m, i64 x) → m.foldl withP (bothP p q) = bothP p (m.foldl withP q)
  | [], q, _, _ => rfl
  | x :: m, q, hq, h => by
    rw [List.foldl_cons, List.foldl_cons, withP_bothP hp hp0 hq (h x (by simp))]
    exact fold_both hp hp0 m _ (fun e => by cases e) fun y hy => h y (by simp [hy])
theorem both_zero {p : Pt} (hp0 : p.any = false → p = Pt.zero) : bothP p Pt.zero = p := by
  unfold bothP
  cases h : p.any with
  | true => simp [Pt.zero]
  | false => rw [hp0 h]; rfl
theorem foldP_app {l : List Int} (hl : ∀ x ∈ l, i64 x) (m : List Int) (hm : ∀ x ∈ m, i64 x) : foldP (l ++ m) = bothP (foldP l) (foldP m) := by
  have h := fold_both (foldP_ok hl) (foldP_zero l) m Pt.zero (fun _ => rfl) hm
  rw [both_zero (foldP_zero l)] at h
  unfold foldP
  rw [List.foldl_append]
  exact h
/-- Two columns. -/
def chunk (l : List (Int × Int)) : List Pt := [foldP (l.map (·.1)), foldP (l.map (·.2))]
def Pok (l : List (Int × Int)) : Prop := ∀ x ∈ l, i64 x.1 ∧ i64 x.2
theorem Pok.fst {l : List (Int × Int)} (h : Pok l) : ∀ x ∈ l.map (·.1), i64 x := by
  intro x hx
  obtain ⟨y, hy, rfl⟩ := List.mem_map.1 hx
  exact (h y hy).1
theorem Pok.snd {l : List (Int × Int)} (h : Pok l) : ∀ x ∈ l.map (·.2), i64 x := by
  intro x hx
  obtain ⟨y, hy, rfl⟩ := List.mem_map.1 hx
  exact (h y hy).2
theorem chunk_len (l : List (Int × Int)) : (chunk l).length = 2 := rfl
theorem chunk_ok {l : List (Int × Int)} (h : Pok l) : Lok (chunk l) := ⟨by
  intro p hp
  simp only [chunk, List.mem_cons, List.not_mem_nil, or_false] at hp
  rcases hp with rfl | rfl
  · exact foldP_ok h.fst
  · exact foldP_ok h.snd, by rw [chunk_len]; decide⟩
theorem chunk_take (l : List (Int × Int)) (x y : Int) : takeL (chunk l) [x, y] = chunk (l ++ [(x, y)]) := by
  unfold chunk
  simp only [takeL, List.map_append, List.map_cons, List.map_nil, foldP_append]
theorem chunk_merge {l m : List (Int × Int)} (hl : Pok l) (hm : Pok m) : mergeL (chunk l) (chunk m) = chunk (l ++ m) := by
  unfold chunk
  simp only [mergeL, List.map_append, foldP_app hl.fst _ hm.fst, foldP_app hl.snd _ hm.snd]
theorem chunk_perm {l m : List (Int × Int)} (h : l.Perm m) : chunk l = chunk m := by
  unfold chunk
  rw [show foldP (l.map (·.1)) = foldP (m.map (·.1)) from foldP_perm (h.map _) _, show foldP (l.map (·.2)) = foldP (m.map (·.2)) from foldP_perm (h.map _) _]
theorem may_fold (l : List Int) (n : Nat) (hn : n = l.length) : mayP (foldP l) (n : Int) = true := by
  unfold mayP
  cases l with
  | nil => rfl
  | cons x t =>
    have h1 := foldP_first x t
    have h2 : (foldP (x :: t)).any = true := (fold_bound t (withP Pt.zero x) rfl).1
    rw [if_pos h2, Bool.and_eq_true]
    exact ⟨decide_eq_true (by rw [List.length_cons] at hn; omega), decide_eq_true (by omega)⟩
theorem chunk_valid (l : List (Int × Int)) : validA ⟨(l.length : Int), chunk l⟩ 2 = true := by
  rw [show (2 : Int) = ((chunk l).length : Int) from rfl, validA_all (by omega) rfl]
  refine List.all_eq_true.2 fun p hp => ?_
  simp only [chunk, List.mem_cons, List.not_mem_nil, or_false] at hp
  rcases hp with rfl | rfl
  · exact may_fold _ _ (by simp)
  · exact may_fold _ _ (by simp)
theorem merge_count {a b : Nat} (h : a + b ≤ 1000) : w64 ((a : Int) + (b : Int)) = ((a + b : Nat) : Int) := by unfold w64; omega
theorem chunk_sum {l m : List (Int × Int)} (hl : Pok l) (hm : Pok m) (h : l.length + m.length ≤ 1000) : (⟨w64 ((l.length : Int) + (m.length : Int)), mergeL (chunk l) (chunk m)⟩ : Ac) = ⟨((l ++ m).length : Int), chunk (l ++ m)⟩ := by
  rw [chunk_merge hl hm, merge_count h, List.length_append]
end Go.Proofs.Ytgjpdagbbljmpaa
