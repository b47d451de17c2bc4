/- The sets of an element. -/
import Derived.Test.YthejnkpnpckmbaaB4
namespace Go.Proofs.Ythejnkpnpckmbaa
open Go.RowKit Go.Maps
set_option linter.unusedVariables false

theorem TellsR.up {α : Type} {size : Nat} {E : EG α} (hE : Elem E) {l : List α} {w w1 w' : World} {e : Ending} (h : TellsR size E l w1 e w') (f : Fr No w w1) : TellsR size E l w e w' := by
  obtain ⟨v, h1, h2, h3⟩ := h
  exact ⟨v, h1, h2.mono (fun k hk hkl => ⟨Nat.le_trans f.size hk, rfl⟩) fun x cs hx => hE.mono _ _ _ _ _ _ hx fun k hk hkl => ⟨Nat.le_trans f.size hk, rfl⟩, f.trans h3 fun _ _ h => h⟩
theorem pow_le64 {n : Nat} (h : min (min (2 ^ n) 65) 65 ≤ 64) : n ≤ 6 := by
  rcases Nat.lt_or_ge n 7 with h1 | h1
  · omega
  · exfalso
    have : 2 ^ 7 ≤ 2 ^ n := Nat.pow_le_pow_right (by decide) h1
    omega
theorem uni_own_lt (dims s : List Tx) : uni (ownL dims s) < 64 := uni_lt (own_lt dims s)
set_option maxRecDepth 100000 in
set_option maxHeartbeats 2000000 in
theorem esets_any {K K2 : Nat → Prop} {dims : List Tx} {dv : Value} (x : Gp) {a b : Value} (w : World) (hD : RowE K2 w 1 (strG K2 w) dv dims) (hA : RowE K w 1 (strG K w) a x.cols) (hB : RowE K w 1 (lsG K w) b x.sets) (hd : dims.length ≤ maxLen) (hF : GpF x) (hz : esize x ≤ 64) :
    Calls Try.prog 32 #[dv, .agg #[.int .i64 x.kind, a, b]] w (TellsR 1 natG (esets dims x) w) := by
  obtain ⟨kind, cols, sets⟩ := x
  obtain ⟨hl, hm, hs⟩ := hF
  simp only at hA hB hl hm hs ⊢
  obtain ⟨A0, c0, hd0⟩ : ∃ A0 c0, dv = .slice A0 dims.length c0 := by obtain ⟨A1, c1, e, _⟩ := hD; exact ⟨_, _, e⟩
  obtain ⟨A1, c1, ha0⟩ : ∃ A1 c1, a = .slice A1 cols.length c1 := by obtain ⟨A1, c1, e, _⟩ := hA; exact ⟨_, _, e⟩
  obtain ⟨A2, c2, hb0, hlc2, hcm2, hrow2⟩ := hB
  subst hd0 ha0 hb0
  obtain ⟨w1, hw1⟩ : ∃ w1, w.alloc (.cells #[.int .i64 kind, .slice A1 cols.length c1, .slice A2 sets.length c2] 38) = w1 := ⟨_, rfl⟩
  obtain ⟨y, hy⟩ : ∃ y, w.heap.size = y := ⟨_, rfl⟩
  have f1 : Fr No w w1 := by rw [← hw1]; exact (Fr.refl No w).alloc _
  have hb : Blk w1 y 38 #[.int .i64 kind, .slice A1 cols.length c1, .slice A2 sets.length c2] := by rw [← hw1, ← hy]; exact Blk.new w 38 _
  have d0 : w1.cell? ⟨y, 0, none⟩ = some (.int .i64 kind) := hb.cell 0
  have d1 : w1.cell? ⟨y, 1, none⟩ = some (.slice A1 cols.length c1) := hb.cell 1
  have d2 : w1.cell? ⟨y, 2, none⟩ = some (.slice A2 sets.length c2) := hb.cell 2
  have F1 := Lib.hid f1
  have HW1 := Lib.hid hw1
  have HY := Lib.hid hy
  have HD1 := Lib.hid (hD.at_ strG_elem f1)
  have HDL := Lib.hid hd
  have HOWN := Lib.hid (own_any w1 (hD.at_ strG_elem f1) (hA.at_ strG_elem f1) hl hd)
  have HROW := Lib.hid hrow2
  have HS := Lib.hid hs
  have HZ := Lib.hid hz
  have HES : Hid (esets dims ⟨kind, cols, sets⟩ = (if kind = 2 then rollL (ownL dims cols) else if kind = 3 then cubeL (ownL dims cols) else if kind = 4 then sets.map fun s => uni (ownL dims s) else ownL dims cols)) := Lib.hid rfl
  have HOL := Lib.hid (own_len dims cols)
  have HOB := Lib.hid (own_lt dims cols)
  have HLB := Lib.hid hl
  have HC6 : Hid (kind = 3 → cols.length ≤ 6) := Lib.hid fun h3 => by
    have := HZ.out
    unfold esize at this
    simp only at this
    rw [if_neg (by omega), if_pos h3] at this
    exact pow_le64 this
  obtain ⟨n, hn⟩ : ∃ n, sets.length = n := ⟨_, rfl⟩
  have HN := Lib.hid hn
  rw [hn] at d2 hlc2 hm HW1 ⊢
  unfold maxLen at hcm2
  clear f1 hb hw1 hy hA hD hd hrow2 hs hz hn hl
  go_enter Try.func32, Try.ntmps32
  go_upto_region 1 with fail
  rw [HW1.out, HY.out]
  by_cases h2 : kind = 2
  · subst h2
    have HV : Hid (esets dims ⟨2, cols, sets⟩ = rollL (ownL dims cols)) := Lib.hid (by rw [HES.out, if_pos rfl])
    clear HES
    go_wp2_with fail
    refine HOWN.out.mono ?_
    rintro e w2 ⟨v2, rfl, hr2, f2⟩
    have HF2 := Lib.hid (F1.out.trans f2 fun _ _ h => h)
    have HC := Lib.hid (roll_any w2 hr2 HOB.out (by rw [HOL.out]; exact HLB.out))
    obtain ⟨A5, n5, c5, rfl, -⟩ := row_form hr2
    clear hr2 f2
    go_wp2_with fail
    refine HC.out.mono ?_
    rintro e w3 hq
    have HQ := Lib.hid (hq.up natG_elem HF2.out)
    obtain ⟨v3, rfl, hr3, _⟩ := hq
    obtain ⟨A6, n6, c6, rfl, -⟩ := row_form hr3
    clear hr3
    go_wp2_with fail
    go_ret
    rw [HV.out]
    exact HQ.out
  · have b2 : (kind == 2) = false := by simpa using h2
    by_cases h3 : kind = 3
    · subst h3
      have HV : Hid (esets dims ⟨3, cols, sets⟩ = cubeL (ownL dims cols)) := Lib.hid (by rw [HES.out, if_neg (by decide), if_pos rfl])
      have HC6' := Lib.hid (HC6.out rfl)
      clear HES HC6
      go_wp2_with fail
      refine HOWN.out.mono ?_
      rintro e w2 ⟨v2, rfl, hr2, f2⟩
      have HF2 := Lib.hid (F1.out.trans f2 fun _ _ h => h)
      have HC := Lib.hid (cube_any w2 hr2 HOB.out (by rw [HOL.out]; exact HC6'.out))
      obtain ⟨A5, n5, c5, rfl, -⟩ := row_form hr2
      clear hr2 f2
      go_wp2_with fail
      refine HC.out.mono ?_
      rintro e w3 hq
      have HQ := Lib.hid (hq.up natG_elem HF2.out)
      obtain ⟨v3, rfl, hr3, _⟩ := hq
      obtain ⟨A6, n6, c6, rfl, -⟩ := row_form hr3
      clear hr3
      go_wp2_with fail
      go_ret
      rw [HV.out]
      exact HQ.out
    · have b3 : (kind == 3) = false := by simpa using h3
      by_cases h4 : kind = 4
      · subst h4
        have HV : Hid (esets dims ⟨4, cols, sets⟩ = sets.map fun s => uni (ownL dims s)) := Lib.hid (by rw [HES.out, if_neg (by decide), if_neg (by decide), if_pos rfl])
        clear HES HC6
        obtain ⟨B, hB⟩ : ∃ B, w1.heap.size = B := ⟨_, rfl⟩
        obtain ⟨wa, hwa⟩ : ∃ wa, w1.alloc (.cells #[] 3) = wa := ⟨_, rfl⟩
        have HFA : Hid (Fr No w1 wa) := Lib.hid (by rw [← hwa]; exact (Fr.refl No w1).alloc _)
        have HGA : Hid (Grow B 3 1 natG wa (.slice (some ⟨B, 0, none⟩) 0 0) ((sets.take 0).map fun s => uni (ownL dims s))) := Lib.hid (by rw [← hwa, ← hB]; exact Grow.empty _ 3 1 natG w1 (Nat.le_refl _) #[] rfl)
        have c2' : wa.cell? ⟨y, 2, none⟩ = some (.slice A2 n c2) := (cell_of_heap (HFA.out.block y (World.block_lt_of_cell? _ _ d2) id)).trans d2
        have HWA := Lib.hid hwa
        have HB := Lib.hid hB
        clear h2 h3 hwa hB
        go_upto_region 8 with fail
        rw [HWA.out, HB.out]
        go_wp2_with fail
        go_loopg [5, 7, 30] n (fun k r5 r7 r30 wr => Hid (∃ (j : Nat) (A : Option Addr) (c : Nat), r30 = .int .i64 (j : Nat) ∧ j + k = n ∧ r5 = .slice A j c ∧ Grow B 3 1 natG wr (.slice A j c) ((sets.take j).map fun s => uni (ownL dims s)) ∧ Fr No w1 wr))
        case atStart => exact Lib.hid ⟨0, _, _, rfl, by omega, rfl, HGA.out, HFA.out⟩
        case round =>
        obtain ⟨j, A3, c3, rfl, hjn, rfl, hg3, hf1⟩ := hrel.out
        clear hrel
        have HG := Lib.hid hg3
        have HF := Lib.hid hf1
        have hf := F1.out.trans hf1 fun _ _ h => h
        have HFW := Lib.hid hf
        clear hg3 hf1
        by_cases hj : j < n
        · have hji : (j : Int) < (n : Int) := by omega
          have hjl : j < sets.length := by rw [HN.out]; exact hj
          have hlen : ((sets.take j).map fun s => uni (ownL dims s)).length = j := by rw [List.length_map, List.length_take]; omega
          have HLEN := Lib.hid hlen
          obtain ⟨g, off, rfl, hK, hg, hel⟩ := HROW.out (by omega)
          obtain ⟨cs, hcl, hcs, hE⟩ := hel j hjl
          have hT : ((sets.take (j + 1)).map fun s => uni (ownL dims s)) = ((sets.take j).map fun s => uni (ownL dims s)) ++ [uni (ownL dims sets[j])] := by rw [take_succ hjl, List.map_append]; rfl
          have hsl := HS.out _ (List.getElem_mem hjl)
          obtain ⟨x, hx⟩ : ∃ x, sets[j] = x := ⟨_, rfl⟩
          rw [hx] at hE hT hsl
          obtain ⟨v0, hE, _, hR⟩ := hE
          have HC := Lib.hid (own_any wr (HD1.out.at_ strG_elem HF.out) (hR.at_ strG_elem HFW.out) hsl HDL.out)
          obtain ⟨A4, n4, c4, rfl, -⟩ := row_form hR
          have e0 : wr.cell? ⟨g, off + j, none⟩ = some (.slice A4 n4 c4) := (cell_of_heap (hf.block g hg id)).trans (by have := hcs 0 (by decide); rw [hE] at this; simpa using this)
          obtain ⟨u, hu⟩ : ∃ u, uni (ownL dims x) = u := ⟨_, rfl⟩
          rw [hu] at hT
          have HT := Lib.hid hT
          have HU := Lib.hid hu
          clear hcs hcl hel hK hf hE hx hR hT hu hlen hsl
          go_wp2_with fail
          refine HC.out.mono ?_
          rintro e w2 ⟨v2, rfl, hr2, f2⟩
          have HF2 := Lib.hid (HF.out.trans f2 fun _ _ h => h)
          have HG2 := Lib.hid (HG.out.keep natG_elem f2 fun _ h => h.elim)
          have HC2 := Lib.hid (union_any w2 hr2 (own_lt dims x))
          obtain ⟨A5, n5, c5, rfl, -⟩ := row_form hr2
          rw [HU.out] at HC2
          clear hr2 f2
          go_wp2_with fail
          refine HC2.out.mono ?_
          rintro e w3 ⟨rfl, f3⟩
          have HF3 := Lib.hid (HF2.out.trans f3 fun _ _ h => h)
          have HG3 := Lib.hid (HG2.out.keep natG_elem f3 fun _ h => h.elim)
          have hgp := HG3.out
          have hl2 := HLEN.out
          rw [← hl2] at hgp
          obtain ⟨A', c', w6, hrun, hg6, hf6, _⟩ := Grow.push (bytes := 8) natG_elem (v := .slice A3 ((sets.take j).map fun s => uni (ownL dims s)).length c3) (by rw [hl2]; exact HG3.out) HB.out.symm HF3.out 22 Try.underlying22 (.int .i64 0) (by kernel_rfl) rfl u (.int .i64 u) rfl rfl (by rw [HLEN.out]; omega) (by rw [HLEN.out]; unfold maxLen; omega)
          rw [hl2] at hrun hg6
          have HRUN := Lib.hid hrun
          have HG6 := Lib.hid hg6
          have HF6 := Lib.hid hf6
          clear hrun hg6 hf6 f3 hgp hl2
          go_wp2_with (at_builtin; refine wpList_add rfl _ _ _ _ rfl _ _ _ _ rfl rfl (HRUN.out _) ?_)
          obtain ⟨g1, rfl⟩ : ∃ g1, gk = g1 + 1 := ⟨gk - 1, by omega⟩
          go_roundg g1
          case rel => exact Lib.hid ⟨j + 1, A', c', by go_num, by omega, rfl, by rw [HT.out]; exact HG6.out, HF6.out⟩
          all_goals omega
        · have hji : (n : Int) ≤ (j : Int) := by omega
          have HT : Hid (sets.take j = sets) := Lib.hid (List.take_of_length_le (by rw [HN.out]; omega))
          clear hf
          go_wp2_with fail
          go_ret
          have := (HG.out.tells natG_elem HB.out.symm HF.out).up natG_elem F1.out
          rw [HT.out] at this
          rw [HV.out]
          exact this
      · have b4 : (kind == 4) = false := by simpa using h4
        rw [if_neg h2, if_neg h3, if_neg h4] at HES
        clear h2 h3 h4
        go_wp2_with fail
        refine HOWN.out.mono ?_
        rintro e w2 hq
        have HQ := Lib.hid (hq.up natG_elem F1.out)
        obtain ⟨v2, rfl, hr2, _⟩ := hq
        obtain ⟨A5, n5, c5, rfl, -⟩ := row_form hr2
        clear hr2
        go_wp2_with fail
        go_ret
        rw [HES.out]
        exact HQ.out
end Go.Proofs.Ythejnkpnpckmbaa
