/- Grouping sets, plain: choices, products. -/
import Derived.Test.YthejnkpnpckmbaaP2
namespace Go.Proofs.Ythejnkpnpckmbaa
set_option linter.unusedVariables false

theorem or_swap (a b c : Nat) : (a ||| b) ||| c = (a ||| c) ||| b := by rw [Nat.or_assoc, Nat.or_comm b c, ← Nat.or_assoc]
theorem choose_or : ∀ (ls : List (List Nat)) (s t : Nat), choose (s ||| t) ls = (choose s ls).map (· ||| t)
  | [], s, t => rfl
  | l :: ls, s, t => by
    unfold choose
    rw [List.map_flatMap]
    congr 1
    funext x
    rw [or_swap, choose_or ls]
theorem always_or : ∀ (ls : List (List Nat)) (a x : Nat), alwaysL ls (a ||| x) = alwaysL ls a ||| x
  | [], a, x => rfl
  | l :: ls, a, x => by
    unfold alwaysL
    rw [List.foldl_cons, List.foldl_cons]
    by_cases h : l.length = 1
    · rw [if_pos h, if_pos h, or_swap]
      exact always_or ls _ x
    · rw [if_neg h, if_neg h]
      exact always_or ls a x
theorem cross_choose : ∀ (ls : List (List Nat)) (a : Nat), choose (alwaysL ls a) (choicesL ls) = choose a ls
  | [], a => rfl
  | l :: ls, a => by
    by_cases h : l.length = 1
    · obtain ⟨u, rfl⟩ : ∃ u, l = [u] := by
        cases l with
        | nil => simp at h
        | cons u l => cases l with
          | nil => exact ⟨u, rfl⟩
          | cons u2 l => simp at h
      have e1 : alwaysL ([u] :: ls) a = alwaysL ls (a ||| u) := rfl
      have e2 : choicesL ([u] :: ls) = choicesL ls := rfl
      have e3 : choose a ([u] :: ls) = choose (a ||| u) ls := by simp [choose]
      rw [e1, e2, e3]
      exact cross_choose ls (a ||| u)
    · have e1 : alwaysL (l :: ls) a = alwaysL ls a := by unfold alwaysL; rw [List.foldl_cons, if_neg h]
      have e2 : choicesL (l :: ls) = l :: choicesL ls := by unfold choicesL; rw [List.filter_cons_of_pos (by simpa using h)]
      rw [e1, e2]
      show (l.flatMap fun x => choose (alwaysL ls a ||| x) (choicesL ls)) = l.flatMap fun x => choose (a ||| x) ls
      congr 1
      funext x
      rw [← always_or, cross_choose ls (a ||| x)]
theorem crossL_eq (dims : List Tx) (gs : List Gp) : crossL dims gs = choose 0 (gs.map (esets dims)) := cross_choose _ 0
theorem choose_append : ∀ (l m : List (List Nat)) (s : Nat), choose s (l ++ m) = (choose s l).flatMap fun x => (choose 0 m).map (x ||| ·)
  | [], m, s => by
    show choose s m = [s].flatMap _
    rw [List.flatMap_cons, List.flatMap_nil, List.append_nil]
    have := choose_or m 0 s
    rw [Nat.zero_or] at this
    rw [this]
    congr 1
    funext x
    exact Nat.or_comm x s
  | c :: l, m, s => by
    show (c.flatMap fun x => choose (s ||| x) (l ++ m)) = (c.flatMap fun x => choose (s ||| x) l).flatMap _
    rw [List.flatMap_assoc]
    congr 1
    funext x
    exact choose_append l m (s ||| x)
def prodL : List (List Nat) → Nat
  | [] => 1
  | l :: ls => l.length * prodL ls
theorem flatMap_len {α β : Type} (f : α → List β) (n : Nat) : ∀ l : List α, (∀ x ∈ l, (f x).length = n) → (l.flatMap f).length = l.length * n
  | [], _ => by simp
  | x :: l, h => by
    rw [List.flatMap_cons, List.length_append, h x (by simp), flatMap_len f n l fun y hy => h y (by simp [hy]), List.length_cons, Nat.succ_mul, Nat.add_comm]
theorem choose_len : ∀ (ls : List (List Nat)) (s : Nat), (choose s ls).length = prodL ls
  | [], s => rfl
  | l :: ls, s => by
    unfold choose prodL
    exact flatMap_len _ _ l fun x _ => choose_len ls _
theorem prod_append : ∀ l m : List (List Nat), prodL (l ++ m) = prodL l * prodL m
  | [], m => by simp [prodL]
  | c :: l, m => by
    show c.length * prodL (l ++ m) = c.length * prodL l * prodL m
    rw [prod_append l m, Nat.mul_assoc]
theorem flatMap_get {α β : Type} (f : α → List β) (n : Nat) : ∀ (l : List α), (∀ x ∈ l, (f x).length = n) → ∀ i k, k < n → (h : i < l.length) → (l.flatMap f)[i * n + k]? = (f l[i])[k]?
  | [], _, i, k, _, h => absurd h (by simp)
  | x :: l, hn, i, k, hk, h => by
    rw [List.flatMap_cons]
    have hx := hn x (by simp)
    cases i with
    | zero =>
      rw [Nat.zero_mul, Nat.zero_add, List.getElem?_append_left (by omega)]
      rfl
    | succ i =>
      have e : (i + 1) * n + k = (f x).length + (i * n + k) := by rw [hx, Nat.succ_mul]; omega
      rw [e, List.getElem?_append_right (by omega), Nat.add_sub_cancel_left]
      exact flatMap_get f n l (fun y hy => hn y (by simp [hy])) i k hk (by simpa using h)
theorem dl_length : ∀ n, (dl n).length = n
  | 0 => rfl
  | n + 1 => by simp [dl, dl_length n]
theorem ownL_length (dims l : List Tx) : (ownL dims l).length = l.length := List.length_map ..
/-- How many sets an element has that may be. -/
theorem esets_len {dims : List Tx} {g : Gp} (h : wrongB g = false) : esize g = min (esets dims g).length 65 := by
  unfold wrongB at h
  unfold esize esets
  by_cases h2 : g.kind = 2
  · rw [if_pos h2, if_pos h2, rollL, List.length_map, dl_length, ownL_length]
  · rw [if_neg h2, if_neg h2]
    by_cases h3 : g.kind = 3
    · rw [if_pos h3, if_pos h3, cubeL, List.length_map, dl_length, ownL_length]
      omega
    · rw [if_neg h3, if_neg h3]
      by_cases h4 : g.kind = 4
      · rw [if_pos h4, if_pos h4, List.length_map]
      · rw [if_neg h4, if_neg h4, ownL_length]
        by_cases h1 : g.kind = 1
        · rw [if_pos h1] at h
          have : g.cols.length = 1 := by simpa using h
          rw [this]
        · rw [if_neg h1, if_neg (by omega)] at h
          simp [h4] at h
theorem size_fold {dims : List Tx} : ∀ (gs : List Gp) (n : Nat), (∀ g ∈ gs, wrongB g = false) → gs.foldl (fun n g => min (n * esize g) 65) (min n 65) = min (n * prodL (gs.map (esets dims))) 65
  | [], n, _ => by simp [prodL]
  | g :: gs, n, h => by
    rw [List.foldl_cons, esets_len (dims := dims) (h g (by simp))]
    have e : min (min n 65 * min (esets dims g).length 65) 65 = min (n * (esets dims g).length) 65 := by
      generalize (esets dims g).length = m
      rcases Nat.eq_zero_or_pos m with rfl | hm
      · simp
      rcases Nat.eq_zero_or_pos n with rfl | hn
      · simp
      rcases Nat.le_total n 65 with h1 | h1
      · rcases Nat.le_total m 65 with h2 | h2
        · rw [Nat.min_eq_left h1, Nat.min_eq_left h2]
        · rw [Nat.min_eq_left h1, Nat.min_eq_right h2]
          have : 65 ≤ n * 65 := Nat.le_mul_of_pos_left 65 hn
          have : m ≤ n * m := Nat.le_mul_of_pos_left m hn
          omega
      · rw [Nat.min_eq_right h1]
        have h3 : 65 ≤ 65 * min m 65 := Nat.le_mul_of_pos_right 65 (by omega)
        have h4 : n ≤ n * m := Nat.le_mul_of_pos_right n hm
        omega
    rw [e, size_fold gs _ fun g' h' => h g' (by simp [h'])]
    show _ = min (n * ((esets dims g).length * prodL (gs.map (esets dims)))) 65
    rw [Nat.mul_assoc]
theorem size_prod {dims : List Tx} {gs : List Gp} (h : gs.any wrongB = false) : sizeL gs = min (prodL (gs.map (esets dims))) 65 := by
  have := size_fold (dims := dims) gs 1 fun g hg => by
    have := List.any_eq_false.1 h g hg
    simpa using this
  rw [Nat.one_mul] at this
  exact this
theorem cross_len {dims : List Tx} {gs : List Gp} : (crossL dims gs).length = prodL (gs.map (esets dims)) := by rw [crossL_eq, choose_len]
theorem esize_small : ∀ (gs : List Gp) (n : Nat), 0 < gs.foldl (fun n g => min (n * esize g) 65) n → gs.foldl (fun n g => min (n * esize g) 65) n ≤ 64 → (0 < n ∧ n ≤ 64) ∧ ∀ g ∈ gs, esize g ≤ 64
  | [], n, h1, h2 => ⟨⟨h1, h2⟩, fun g hg => by cases hg⟩
  | g :: gs, n, h1, h2 => by
    rw [List.foldl_cons] at h1 h2
    obtain ⟨⟨a, b⟩, c⟩ := esize_small gs _ h1 h2
    have hn : 0 < n := by
      rcases Nat.eq_zero_or_pos n with rfl | h
      · simp at a
      · exact h
    have he : 0 < esize g := by
      rcases Nat.eq_zero_or_pos (esize g) with h | h
      · rw [h] at a; simp at a
      · exact h
    have h3 : esize g ≤ n * esize g := Nat.le_mul_of_pos_left _ hn
    have h4 : n ≤ n * esize g := Nat.le_mul_of_pos_right _ he
    refine ⟨⟨hn, by omega⟩, fun g' h' => ?_⟩
    rcases List.mem_cons.1 h' with rfl | h'
    · omega
    · exact c g' h'
end Go.Proofs.Ythejnkpnpckmbaa
