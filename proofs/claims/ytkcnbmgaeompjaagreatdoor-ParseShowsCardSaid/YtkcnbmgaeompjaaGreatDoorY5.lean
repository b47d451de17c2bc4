/- The document's lists of texts. -/
import Derived.Test.YtkcnbmgaeompjaaGreatDoorY2
namespace Go.Proofs.YtkcnbmgaeompjaaGreatDoor
open Go.RowKit Go.Maps
set_option linter.unusedVariables false

theorem jn_nil : jn [] = [] := rfl
theorem jn_one (x : Tx) : jn [x] = x := Lib.join_one x _
theorem jtail_snoc (sep : Tx) (l : List Tx) (x : Tx) : Lib.joinTail sep (l ++ [x]) = Lib.joinTail sep l ++ (sep ++ x) := by
  unfold Lib.joinTail; simp
theorem jn_snoc {l : List Tx} (h : l ≠ []) (x : Tx) : jn (l ++ [x]) = jn l ++ [44, 32] ++ x := by
  cases l with
  | nil => exact absurd rfl h
  | cons a l =>
    unfold jn
    rw [List.cons_append, Lib.join_cons, Lib.join_cons, jtail_snoc]
    simp
theorem jn_take {l : List Tx} {j : Nat} (h : j < l.length) : jn (l.take (j + 1)) = (if j = 0 then l[j] else jn (l.take j) ++ [44, 32] ++ l[j]) := by
  have e : l.take (j + 1) = l.take j ++ [l[j]] := (List.take_append_getElem h).symm
  rw [e]
  split
  · rename_i h0
    subst h0
    rw [List.take_zero, List.nil_append, jn_one]
  · rename_i h0
    exact jn_snoc (by intro e; have := congrArg List.length e; rw [List.length_take, List.length_nil] at this; omega) _
theorem jn_take_le {l : List Tx} : ∀ (j : Nat), j ≤ l.length → (jn (l.take j)).length ≤ (jn l).length := by
  have key : ∀ (m : Nat) (j : Nat), j + m = l.length → (jn (l.take j)).length ≤ (jn l).length := by
    intro m
    induction m with
    | zero => intro j h; rw [List.take_of_length_le (by omega)]; exact Nat.le_refl _
    | succ m ih =>
      intro j h
      refine Nat.le_trans ?_ (ih (j + 1) (by omega))
      rw [jn_take (by omega)]
      split
      · rename_i h0
        subst h0
        simp [jn_nil]
      · simp <;> omega
  intro j h
  exact key (l.length - j) j (by omega)
set_option maxRecDepth 100000 in
theorem dlist_any {K : Nat → Prop} {l : List Tx} {v : Value} (w : World) (h : RowE K w 1 (strG K w) v l) (hlen : (jn l).length ≤ 100000000) : Calls Tryz.prog 36 #[v] w (TellsT (jn l) w) := by
  obtain ⟨A, c, rfl, hlc, hcm, hrow⟩ := h
  obtain ⟨n, hn⟩ : ∃ n, l.length = n := ⟨_, rfl⟩
  rw [hn] at hlc ⊢
  have HROW := Lib.hid hrow
  have HN := Lib.hid hn
  have HLEN := Lib.hid hlen
  unfold maxLen at hcm
  clear hrow hn hlen
  go_enter Tryz.func36, Tryz.ntmps36
  go_wp2_with fail
  go_loopg [3, 4] n (fun k r3 r4 wr => Hid (∃ j : Nat, r4 = .int .i64 (j : Nat) ∧ j + k = n ∧ Fr No w wr ∧ r3 = sv (jn (l.take j))))
  case atStart => exact Lib.hid ⟨0, rfl, by omega, Fr.refl _ _, rfl⟩
  case round =>
    obtain ⟨j, rfl, hjn, hf, rfl⟩ := hrel.out
    clear hrel
    by_cases hj : j < n
    · have hji : (j : Int) < (n : Int) := by omega
      have hjl : j < l.length := by rw [HN.out]; exact hj
      obtain ⟨g, off, rfl, hK, hg, hel⟩ := HROW.out (by omega)
      obtain ⟨cs, hcl, hcs, hE⟩ := hel j hjl
      have hnext := jn_take hjl
      have hb1 := jn_take_le (l := l) (j + 1) (by omega)
      obtain ⟨x, hx⟩ : ∃ x, l[j] = x := ⟨_, rfl⟩
      rw [hx] at hE hnext
      obtain ⟨hE, hxl⟩ := hE
      have e0 : wr.cell? ⟨g, off + j, none⟩ = some (sv x) := (cell_of_heap (hf.block g hg id)).trans (by have := hcs 0 (by decide); rw [hE] at this; simpa using this)
      have HFN : Hid (Fr No w wr) := Lib.hid hf
      have HB : Hid ((jn (l.take (j + 1))).length ≤ 100000000) := Lib.hid (Nat.le_trans hb1 HLEN.out)
      obtain ⟨T, hT⟩ : ∃ T, jn (l.take j) = T := ⟨_, rfl⟩
      rw [hT] at hnext ⊢
      clear hcs hcl hel hK hf hE hx hb1
      by_cases h0 : j = 0
      · subst h0
        have hT0 : T = [] := by rw [← hT]; rfl
        subst hT0
        have HNX : Hid (jn (l.take (0 + 1)) = x) := Lib.hid (by rw [hnext, if_pos rfl])
        have hc := cat_any [] x (by have := HB.out; rw [HNX.out] at this; simp; omega)
        rw [List.nil_append] at hc
        have e0 : wr.cell? ⟨g, off, none⟩ = some (sv x) := by simpa using e0
        clear hnext hT
        go_wp2_with fail
        obtain ⟨g1, rfl⟩ : ∃ g1, gk = g1 + 1 := ⟨gk - 1, by omega⟩
        go_roundg g1
        case rel => exact Lib.hid ⟨0 + 1, by go_num, by omega, HFN.out, by rw [HNX.out]⟩
        all_goals omega
      · have h0i : (0 : Int) < (j : Int) := by omega
        have HNX : Hid (jn (l.take (j + 1)) = T ++ [44, 32] ++ x) := Lib.hid (by rw [hnext, if_neg h0])
        have hbb := HB.out
        rw [HNX.out] at hbb
        have hbb2 : T.length + 2 + x.length ≤ 100000000 := by simp at hbb; omega
        have hc1 := cat_any T [44, 32] (by simp; omega)
        obtain ⟨T2, hT2⟩ : ∃ T2, T ++ [44, 32] = T2 := ⟨_, rfl⟩
        rw [hT2] at hc1
        have hc2 := cat_any T2 x (by rw [← hT2]; simp; omega)
        have HT2 := Lib.hid hT2
        obtain ⟨T3, hT3⟩ : ∃ T3, T2 ++ x = T3 := ⟨_, rfl⟩
        rw [hT3] at hc2
        have HT3 := Lib.hid hT3
        clear hnext hT hbb hbb2 hT2 hT3
        go_wp2_with fail
        obtain ⟨g1, rfl⟩ : ∃ g1, gk = g1 + 1 := ⟨gk - 1, by omega⟩
        go_roundg g1
        case rel => exact Lib.hid ⟨j + 1, by go_num, by omega, HFN.out, by rw [HNX.out, HT2.out, HT3.out]⟩
        all_goals omega
    · have hji : (n : Int) ≤ (j : Int) := by omega
      have HT : Hid (jn (l.take j) = jn l) := Lib.hid (by rw [List.take_of_length_le (by rw [HN.out]; omega)])
      have HFE := Lib.hid hf
      clear hf
      go_wp2_with fail
      go_ret
      exact ⟨by rw [← HT.out]; rfl, HFE.out⟩
end Go.Proofs.YtkcnbmgaeompjaaGreatDoor
