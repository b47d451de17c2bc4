/- The law's own names; rows whose elements lie in older rows. -/
import Derived.Test.YthejnkpnpckmbaaRA
namespace Go.Proofs.Ythejnkpnpckmbaa
open Go.RowKit Go.Maps
set_option linter.unusedVariables false

/-- A raw number as a place below six. -/
def rawN (k : Int) : Nat := (if k < 0 then -(k + 1) else k).toNat % 6
theorem rawN_lt (k : Int) : rawN k < 6 := Nat.mod_lt _ (by decide)
def sixT : List Tx := [[97], [98], [99], [100], [101], [102]]
def namT (k : Int) : Tx := sixT.getD (rawN k) []
def namesT (l : List Int) : List Tx := (l.take 6).map namT
theorem namT_mem (k : Int) : namT k ∈ sixT := by
  unfold namT
  have h := rawN_lt k
  have h2 : rawN k < sixT.length := h
  rw [List.getD_eq_getElem?_getD, List.getElem?_eq_getElem h2]
  exact List.getElem_mem h2
theorem namesT_mem (l : List Int) : ∀ t ∈ namesT l, t ∈ sixT := fun t ht => by
  obtain ⟨k, _, rfl⟩ := List.mem_map.1 ht
  exact namT_mem k
theorem namesT_len (l : List Int) : (namesT l).length ≤ 6 := by unfold namesT; rw [List.length_map, List.length_take]; omega
set_option maxRecDepth 100000 in
set_option maxHeartbeats 1000000 in
theorem lnames_any {K K2 : Nat → Prop} {l : List Int} {dv v : Value} (w : World) (hD : RowE K2 w 1 (strG K2 w) dv sixT) (h : RowE K w 1 (intG K w) v l) : Calls Try.prog 14 #[dv, v, .int .i64 6] w (TellsR 1 strG (namesT l) w) := by
  obtain ⟨A0, c0, e0, hdl, hdm, hrow0⟩ := hD
  subst e0
  obtain ⟨A, c, rfl, hlc, hcm, hrow⟩ := h
  obtain ⟨n, hn⟩ : ∃ n, l.length = n := ⟨_, rfl⟩
  rw [hn] at hlc ⊢
  have HROW := Lib.hid hrow
  have HN := Lib.hid hn
  obtain ⟨g0, o0, rfl, _, hg0, hel0⟩ := hrow0 (by decide)
  have HEL0 : Hid (∀ i t, sixT[i]? = some t → w.cell? ⟨g0, o0 + i, none⟩ = some (sv t)) := Lib.hid fun i t hi => by
    obtain ⟨hl, hx⟩ := List.getElem?_eq_some_iff.1 hi
    obtain ⟨cs, _, h2, h3, _⟩ := hel0 i hl
    have := h2 0 (by decide)
    rw [h3, hx] at this
    simpa using this
  rw [show sixT.length = 6 from rfl] at hdl ⊢
  obtain ⟨B, hB⟩ : ∃ B, w.heap.size = B := ⟨_, rfl⟩
  have HG1 : Hid (Grow B 9 1 strG w (.slice none 0 0) (namesT (l.take 0))) := Lib.hid (Grow.nil_ _ 9 1 strG w)
  have HB := Lib.hid hB
  have HG0 := Lib.hid hg0
  unfold maxLen at hcm hdm
  clear hrow hn hB hrow0 hel0 hg0
  go_enter Try.func14, Try.ntmps14
  go_wp2_with fail
  go_loopg [7, 8, 9] n (fun k r7 r8 r9 wr => Hid (∃ (j : Nat) (A : Option Addr) (c : Nat), r8 = .int .i64 (j : Nat) ∧ j + k = n ∧ j ≤ 6 ∧ r7 = .slice A j c ∧ Grow B 9 1 strG wr (.slice A j c) (namesT (l.take j)) ∧ Fr No w wr))
  case atStart => exact Lib.hid ⟨0, _, _, rfl, by omega, by omega, rfl, HG1.out, Fr.refl _ _⟩
  case round =>
  obtain ⟨j, A3, c3, rfl, hjn, hj6, rfl, hg3, hf⟩ := hrel.out
  clear hrel
  have HG := Lib.hid hg3
  have HF := Lib.hid hf
  clear hg3
  by_cases hj : j < n
  · have hji : (j : Int) < (n : Int) := by omega
    by_cases hj6' : j < 6
    · have hji6 : (j : Int) < 6 := by omega
      have hjl : j < l.length := by rw [HN.out]; exact hj
      have hlen : (namesT (l.take j)).length = j := by unfold namesT; rw [List.length_map, List.length_take, List.length_take]; omega
      obtain ⟨g, off, rfl, hK, hg, hel⟩ := HROW.out (by omega)
      obtain ⟨cs, hcl, hcs, hE⟩ := hel j hjl
      obtain ⟨hE, hi⟩ := hE
      have e0 : wr.cell? ⟨g, off + j, none⟩ = some (.int .i64 l[j]) := (cell_of_heap (hf.block g hg id)).trans (by have := hcs 0 (by decide); rw [hE] at this; simpa using this)
      have hT : namesT (l.take (j + 1)) = namesT (l.take j) ++ [namT l[j]] := by
        unfold namesT
        rw [List.take_take, List.take_take, show min 6 (j + 1) = j + 1 by omega, show min 6 j = j by omega, take_succ hjl, List.map_append]; rfl
      obtain ⟨x, hx⟩ : ∃ x, l[j] = x := ⟨_, rfl⟩
      rw [hx] at e0 hi hT
      obtain ⟨r, hr⟩ : ∃ r, rawN x = r := ⟨_, rfl⟩
      have hr6 : r < 6 := by rw [← hr]; exact rawN_lt x
      obtain ⟨t, ht⟩ : ∃ t, namT x = t := ⟨_, rfl⟩
      have htm : t ∈ sixT := by rw [← ht]; exact namT_mem x
      have htl : t.length ≤ maxLen := by
        have : ∀ t ∈ sixT, t.length ≤ 1 := by decide
        have := this t htm
        unfold maxLen; omega
      have hrt : sixT[r]? = some t := by
        rw [← ht, ← hr]
        unfold namT
        have h2 : rawN x < sixT.length := rawN_lt x
        rw [List.getD_eq_getElem?_getD, List.getElem?_eq_getElem h2]; rfl
      have d4 : wr.cell? ⟨g0, o0 + r, none⟩ = some (sv t) := (cell_of_heap (hf.block g0 HG0.out id)).trans (HEL0.out r t hrt)
      rw [ht] at hT
      have HT := Lib.hid hT
      have HLEN := Lib.hid hlen
      obtain ⟨A', c', w6, hrun, hg6, hf6, _⟩ := Grow.push (bytes := 16) strG_elem (v := .slice A3 (namesT (l.take j)).length c3) (by rw [hlen]; exact HG.out) HB.out.symm HF.out 23 Try.underlying23 (.string ⟨#[]⟩) (by kernel_rfl) rfl t (sv t) rfl ⟨rfl, htl⟩ (by rw [hlen]; omega) (by rw [hlen]; unfold maxLen; omega)
      rw [hlen] at hrun hg6
      have HRUN := Lib.hid hrun
      have HG6 := Lib.hid hg6
      have HF6 := Lib.hid hf6
      have hr2 : (r : Int) < 6 := by omega
      unfold i64 at hi
      obtain ⟨hi1, hi2⟩ := hi
      by_cases hx0 : x < 0
      · have hneg : ∃ m : Nat, -(x + 1) = (m : Int) ∧ m % 6 = r := by
          refine ⟨(-(x + 1)).toNat, by omega, ?_⟩
          rw [← hr]; unfold rawN; rw [if_pos hx0]
        obtain ⟨m, hm, hmr⟩ := hneg
        have htm2 : -(Int.tmod (x + 1) 6) = (r : Int) := by rw [← Int.neg_tmod, hm, ← hmr]; rfl
        clear hcs hcl hel hK hf hE hx hr ht htm hrt hT hlen hrun hg6 hf6 hmr hm
        go_wp2_with (at_builtin; refine wpList_add rfl _ _ _ _ rfl _ _ _ _ rfl rfl (HRUN.out _) ?_)
        obtain ⟨g1, rfl⟩ : ∃ g1, gk = g1 + 1 := ⟨gk - 1, by omega⟩
        go_roundg g1
        case rel => exact Lib.hid ⟨j + 1, A', c', by go_num, by omega, by omega, rfl, by rw [HT.out]; exact HG6.out, HF6.out⟩
        all_goals omega
      · have htm2 : Int.tmod x 6 = (r : Int) := by
          obtain ⟨m, rfl⟩ := Int.eq_ofNat_of_zero_le (show 0 ≤ x by omega)
          rw [← hr]; unfold rawN; rw [if_neg hx0]; rfl
        have hx0b : decide (x < 0) = false := decide_eq_false hx0
        clear hcs hcl hel hK hf hE hx hr ht htm hrt hT hlen hrun hg6 hf6
        go_wp2_with (at_builtin; refine wpList_add rfl _ _ _ _ rfl _ _ _ _ rfl rfl (HRUN.out _) ?_)
        obtain ⟨g1, rfl⟩ : ∃ g1, gk = g1 + 1 := ⟨gk - 1, by omega⟩
        go_roundg g1
        case rel => exact Lib.hid ⟨j + 1, A', c', by go_num, by omega, by omega, rfl, by rw [HT.out]; exact HG6.out, HF6.out⟩
        all_goals omega
    · have hji6 : (6 : Int) ≤ (j : Int) := by omega
      have HT : Hid (namesT (l.take j) = namesT l) := Lib.hid (by unfold namesT; rw [List.take_take, show min 6 j = 6 by omega])
      clear hf
      go_wp2_with fail
      go_ret
      have := HG.out.tells strG_elem HB.out.symm HF.out
      rw [HT.out] at this
      exact this
  · have hji : (n : Int) ≤ (j : Int) := by omega
    have HT : Hid (namesT (l.take j) = namesT l) := Lib.hid (by rw [List.take_of_length_le (by rw [HN.out]; omega)])
    clear hf
    go_wp2_with fail
    go_ret
    have := HG.out.tells strG_elem HB.out.symm HF.out
    rw [HT.out] at this
    exact this
end Go.Proofs.Ythejnkpnpckmbaa
