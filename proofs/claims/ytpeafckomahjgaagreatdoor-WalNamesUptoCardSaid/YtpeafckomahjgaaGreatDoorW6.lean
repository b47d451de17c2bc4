/- Opening a log: the segments' numbers; check, must. -/
import Derived.Test.YtpeafckomahjgaaGreatDoorW5
import Derived.Test.YtpeafckomahjgaaGreatDoorKC5
import Derived.Lib.AtoiAllCases
namespace Go.Proofs.YtpeafckomahjgaaGreatDoor
open Go.RowKit Go.Maps Go.Sort Go.Lib
set_option linter.unusedVariables false

/-! ### check, must -/
def given (n : Int) : Value := .iface 39 (.int .i64 n)
theorem check_ok (w : World) : Calls Tryz.prog 53 #[.bool true] w fun e w' => e = .returned (.tuple #[]) ∧ w = w' := by
  go_enter Tryz.func53, Tryz.ntmps53
  go_wp2
  go_end0
  exact ⟨rfl, rfl⟩
theorem check_no (w : World) : Calls Tryz.prog 53 #[.bool false] w fun e w' => e = .panicked [{ v := given 24, recovered := false }] ∧ w = w' := by
  go_enter Tryz.func53, Tryz.ntmps53
  go_wp2
  exact ⟨rfl, rfl, rfl⟩
theorem must_ok (w : World) : Calls Tryz.prog 102 #[.int .i64 0] w fun e w' => e = .returned (.tuple #[]) ∧ w = w' := by
  go_enter Tryz.func102, Tryz.ntmps102
  go_wp2
  go_end0
  exact ⟨rfl, rfl⟩
theorem must_no (n : Int) (hn : n ≠ 0) (w : World) : Calls Tryz.prog 102 #[.int .i64 n] w fun e w' => e = .panicked [{ v := given n, recovered := false }] ∧ w = w' := by
  have hb : (n != 0) = true := by simpa using hn
  clear hn
  go_enter Tryz.func102, Tryz.ntmps102
  go_wp2
  exact ⟨rfl, rfl, rfl⟩

/-! ### numberOf -/
def walL : List UInt8 := [119, 97, 108, 45]
def numW (s : List UInt8) : Int :=
  match Lib.atoiAll (Lib.trimPrefix s walL) with
  | .ok v => if nameW v = s then v else 0
  | _ => 0
theorem numW_bd (s : List UInt8) : i64 (numW s) := by
  unfold numW
  cases h : Lib.atoiAll (Lib.trimPrefix s walL) with
  | ok v =>
    simp only
    split
    · exact Lib.atoiAll_bounds h
    · unfold i64; omega
  | _ => simp only; unfold i64; omega
theorem trim_any (s : List UInt8) (w : World) : Calls Tryz.prog 153 #[sv s, sv walL] w fun e w' => e = .returned (sv (Lib.trimPrefix s walL)) ∧ w = w' := by
  refine (Tryz.strings_TrimPrefix ⟨s.toArray⟩ ⟨walL.toArray⟩ w).mono ?_
  rintro e w' ⟨h1, h2⟩
  exact ⟨h1, h2.symm⟩
theorem trim_len (s p : List UInt8) : (Lib.trimPrefix s p).length ≤ s.length := by
  unfold Lib.trimPrefix
  split
  · simp
  · exact Nat.le_refl _
theorem bytes_fr (w : World) (t : ByteArray) : Fr No w (Lib.bytesWorld w 5 t) :=
  ⟨rfl, rfl, rfl, by rw [Lib.bytesWorld_size]; omega, fun k hk _ => Lib.bytesWorld_at_old w 5 t k hk⟩
set_option maxHeartbeats 1000000 in
theorem numberOf_any (s : List UInt8) (w : World) (hv : Vr w) (hl : s.length ≤ 1000000) : Calls Tryz.prog 130 #[sv s] w fun e w' => e = .returned (.int .i64 (numW s)) ∧ Fr No w w' := by
  have HT := Lib.hid (trim_any s w)
  have htl := trim_len s walL
  obtain ⟨t, ht⟩ : ∃ t, Lib.trimPrefix s walL = t := ⟨_, rfl⟩
  have HNW : Hid (numW s = match Lib.atoiAll t with | .ok v => if nameW v = s then v else 0 | _ => 0) := Lib.hid (by unfold numW; rw [ht])
  rw [ht] at HT htl
  have HV := Lib.hid hv
  clear ht
  unfold walL at HT
  cases h : Lib.atoiAll t with
  | ok v =>
    have hbd := Lib.atoiAll_bounds h
    have HA := Lib.hid (Tryz.strconv_Atoi_ok ⟨t.toArray⟩ (by rw [sz]; omega) v h w)
    rw [h] at HNW
    clear h htl
    go_enter Tryz.func130, Tryz.ntmps130
    go_wp2_with fail
    refine HT.out.mono ?_
    rintro e w' ⟨rfl, rfl⟩
    go_wp2_with fail
    refine HA.out.mono ?_
    rintro e w1 ⟨rfl, hw1⟩
    have hf1 : Fr No w w1 := by
      rcases hw1 with rfl | ⟨t', rfl⟩
      · exact Fr.refl _ _
      · exact bytes_fr w t'
    have F1 := Lib.hid hf1
    have HN := Lib.hid (name_any v w1 (hv.keep hf1) hbd.1 hbd.2)
    obtain ⟨nv, hnv⟩ : ∃ nv, nameW v = nv := ⟨_, rfl⟩
    rw [hnv] at HN HNW
    clear hw1 hf1 hnv HA hv
    go_wp2_with fail
    refine HN.out.mono ?_
    rintro e w2 ⟨rfl, f2⟩
    have F2 := Lib.hid (F1.out.trans f2 fun _ _ h => h)
    clear f2
    by_cases hc : nv = s
    · have HE : Hid (numW s = v) := Lib.hid (by rw [HNW.out, if_pos hc])
      have hb : (nv == s) = true := by simpa using hc
      have hb2 : (nv != s) = false := by simpa using hc
      clear hc
      go_wp2
      go_ret
      exact ⟨by rw [HE.out]; rfl, F2.out⟩
    · have HE : Hid (numW s = 0) := Lib.hid (by rw [HNW.out, if_neg hc])
      have hb : (nv == s) = false := by simpa using hc
      have hb2 : (nv != s) = true := by simpa using hc
      clear hc
      go_wp2
      go_ret
      exact ⟨by rw [HE.out]; rfl, F2.out⟩
  | range =>
    obtain ⟨tp, p, hs⟩ := hv.rng
    have HA := Lib.hid (Tryz.strconv_Atoi_range_var ⟨t.toArray⟩ (by rw [sz]; omega) h tp p w hs)
    have HE : Hid (numW s = 0) := Lib.hid (by rw [HNW.out, h])
    clear h htl hs hv
    go_enter Tryz.func130, Tryz.ntmps130
    go_wp2_with fail
    refine HT.out.mono ?_
    rintro e w' ⟨rfl, rfl⟩
    go_wp2_with fail
    refine HA.out.mono ?_
    rintro e w1 ⟨NN, rfl, hN1, hN2, hbl⟩
    have F1 := Lib.hid (Fr.of_below hbl)
    clear hN1 hN2 hbl HA
    go_wp2
    go_ret
    exact ⟨by rw [HE.out]; rfl, F1.out⟩
  | _ =>
    obtain ⟨tp, p, hs⟩ := hv.syn
    have HA := Lib.hid (Tryz.strconv_Atoi_syntax_var ⟨t.toArray⟩ (by rw [sz]; omega) (h.trans rfl) tp p w hs)
    have HE : Hid (numW s = 0) := Lib.hid (by rw [HNW.out, h])
    clear h htl hs hv
    go_enter Tryz.func130, Tryz.ntmps130
    go_wp2_with fail
    refine HT.out.mono ?_
    rintro e w' ⟨rfl, rfl⟩
    go_wp2_with fail
    refine HA.out.mono ?_
    rintro e w1 ⟨NN, rfl, hN1, hN2, hbl⟩
    have F1 := Lib.hid (Fr.of_below hbl)
    clear hN1 hN2 hbl HA
    go_wp2
    go_ret
    exact ⟨by rw [HE.out]; rfl, F1.out⟩

/-! ### segments -/
def segsW (ns : List (List UInt8)) : List Int := (ns.map numW).filter fun n => decide (0 < n)
theorem segsW_snoc (ns : List (List UInt8)) (j : Nat) (h : j < ns.length) : segsW (ns.take (j + 1)) = if 0 < numW ns[j] then segsW (ns.take j) ++ [numW ns[j]] else segsW (ns.take j) := by
  rw [List.take_succ_eq_append_getElem h]
  unfold segsW
  rw [List.map_append, List.filter_append]
  by_cases hp : 0 < numW ns[j]
  · rw [if_pos hp]; simp [hp]
  · rw [if_neg hp]; simp [hp]
theorem segsW_len (ns : List (List UInt8)) : (segsW ns).length ≤ ns.length := by
  unfold segsW
  exact Nat.le_trans (List.length_filter_le _ _) (by simp)
theorem info3 : (Tryz.prog.info? 3).map (fun i => (i.zero, i.size, i.bytes)) = some (some (.int .i64 0), 1, 8) := by kernel_rfl
/-- The names, as the disk lists them. -/
def NamesAt (w : World) (A : Option Addr) (c : Nat) (ns : List (List UInt8)) : Prop := w.ownsRow 0 9 1 (.slice A ns.length c) ns.length (ns.map encStr)
theorem NamesAt.at {w : World} {A : Option Addr} {c : Nat} {ns : List (List UInt8)} (h : NamesAt w A c ns) (j : Nat) (hj : j < ns.length) :
    ∃ g, A = some ⟨g, 0, none⟩ ∧ g < w.heap.size ∧ ∀ w' : World, w'.heap[g]? = w.heap[g]? → w'.cell? ⟨g, j, none⟩ = some (sv ns[j]) := by
  rcases h.2 with ⟨_, h0⟩ | ⟨g, cap, cur, e1, hb, hh, hnc, hcm, hs, ht⟩
  · omega
  · have e2 : A = some ⟨g, 0, none⟩ := by injection e1
    refine ⟨g, e2, by rw [e2] at h; exact (World.ownsRow.lt h g rfl).2, fun w' hw => ?_⟩
    rw [cell_of_row w' g j cur 9 (0, 0) (hw.trans hh)]
    have : (cur.toList.take (ns.length * 1))[j]? = (ns.map encStr)[j]? := by rw [ht]
    rw [List.getElem?_take, if_pos (by omega), List.getElem?_map, List.getElem?_eq_getElem hj] at this
    simpa [encStr] using this
set_option maxRecDepth 100000 in
set_option maxHeartbeats 4000000 in
theorem segments_any (A : Option Addr) (c : Nat) (ns : List (List UInt8)) (w : World) (hv : Vr w) (hr : NamesAt w A c ns) (hl : ∀ s ∈ ns, s.length ≤ 1000000) (hn : ns.length ≤ 1000000) :
    Calls Tryz.prog 101 #[.slice A ns.length c] w fun e w' => ∃ V, e = .returned V ∧ RowE (fun k => w.heap.size ≤ k) w' 1 intE V (segsW ns) ∧ Fr No w w' := by
  obtain ⟨b, hb⟩ : ∃ b, w.heap.size = b := ⟨_, rfl⟩
  obtain ⟨w0, hw0⟩ : ∃ w0, w.alloc (.cells #[] 3) = w0 := ⟨_, rfl⟩
  have hg0 : Grow b 3 1 intG w0 (.slice (some ⟨b, 0, none⟩) 0 0) [] := by rw [← hw0, ← hb]; exact Grow.nil w.heap.size 3 1 intG w (Nat.le_refl _)
  have f0 : Fr No w w0 := by rw [← hw0]; exact (Fr.refl _ w).alloc _
  have HG0 := Lib.hid hg0
  have F0 := Lib.hid f0
  have HV := Lib.hid hv
  have HR := Lib.hid hr
  have HL := Lib.hid hl
  have HBS := Lib.hid (show b = w.heap.size from hb.symm)
  have HW0 := Lib.hid hw0
  obtain ⟨n, hnn⟩ : ∃ n, ns.length = n := ⟨_, rfl⟩
  have HN := Lib.hid hnn
  rw [hnn] at hn ⊢
  clear hg0 f0 hv hr hl hb hw0 hnn
  go_enter Tryz.func101, Tryz.ntmps101
  go_wp2_with fail
  rw [HW0.out, ← HBS.out]
  go_loopw [3, 10] (fun v i wr => ∃ j : Nat, ∃ A' c', j ≤ n ∧ i = .int .i64 j ∧ v = .slice A' (segsW (ns.take j)).length c' ∧ Grow b 3 1 intG wr (.slice A' (segsW (ns.take j)).length c') (segsW (ns.take j)) ∧ Fr No w wr) (fun _ i _ => n - (intOf i).toNat)
  case atStart => exact ⟨0, _, _, by omega, rfl, rfl, HG0.out, F0.out⟩
  case round =>
    obtain ⟨j, A', c', hj, rfl, rfl, hg, hf⟩ := hrel
    have HG := Lib.hid hg
    have HF := Lib.hid hf
    clear hg hf
    by_cases hlt : j < n
    · have hjl : j < ns.length := by rw [HN.out]; exact hlt
      obtain ⟨gn, rfl, hgn, hcell⟩ := HR.out.at j hjl
      have x0 : wr.cell? ⟨gn, j, none⟩ = some (sv ns[j]) := hcell wr (HF.out.block gn hgn id)
      have HS := Lib.hid (segsW_snoc ns j hjl)
      have HLn := Lib.hid (segsW_len (ns.take j))
      have HC := Lib.hid (numberOf_any ns[j] wr (HV.out.keep HF.out) (HL.out _ (List.getElem_mem hjl)))
      have hbd := numW_bd ns[j]
      obtain ⟨v, hv⟩ : ∃ v, numW ns[j] = v := ⟨_, rfl⟩
      obtain ⟨s, hs⟩ : ∃ s, ns[j] = s := ⟨_, rfl⟩
      rw [hv] at HS HC hbd
      rw [hs] at HC x0
      have HTL : Hid ((ns.take j).length ≤ n) := Lib.hid (by rw [List.length_take]; omega)
      clear hcell hgn hjl hv hs
      go_wp2_with fail
      refine HC.out.mono ?_
      rintro e w1 ⟨rfl, f1⟩
      have hg1 := HG.out.keep intG_elem f1 (fun k hk => hk.elim)
      have HG1 := Lib.hid hg1
      have HF1 := Lib.hid (HF.out.trans f1 fun _ _ h => h)
      have HS1 := Lib.hid f1.size
      clear f1 hg1 HC x0
      by_cases hp : 0 < v
      · have hd : decide (0 < v) = true := by simpa using hp
        have hel : intG (fun x => wr.heap.size ≤ x) w1 v [.int .i64 v] := ⟨rfl, hbd⟩
        have hlen : (segsW (ns.take j)).length ≤ n := Nat.le_trans HLn.out HTL.out
        obtain ⟨A2, c2, w4, hap, hg4, f4, hlt4⟩ := HG1.out.more intG_elem (w0 := wr) (by rw [HBS.out]; exact HF.out.size) HS1.out (fun x hx => (HG.out.lt x hx).2) 34 Tryz.underlying34 (.int .i64 0) info3 rfl (by omega) v [.int .i64 v] rfl (by simp [Value.oneCell']) hel (by omega) (by unfold maxLen; omega)
        have hf4 : Fr No w w4 := HF1.out.trans f4 fun x hlx hx => by have := (HG.out.lt x hx).1; have := HBS.out; omega
        have HAP := Lib.hid hap
        have HG4 : Hid (Grow b 3 1 intG w4 (.slice A2 ((segsW (ns.take j)).length + 1) c2) (segsW (ns.take (j + 1)))) := Lib.hid (by rw [HS.out, if_pos hp]; exact hg4)
        have HF4 := Lib.hid hf4
        have HE : Hid ((segsW (ns.take (j + 1))).length = (segsW (ns.take j)).length + 1) := Lib.hid (by rw [HS.out, if_pos hp]; simp)
        clear hap hg4 f4 hlt4 hf4 hel hp hlen
        go_wp2_with (at_builtin; refine wpList_add rfl _ _ _ _ rfl _ _ _ _ rfl rfl (HAP.out _) ?_)
        go_roundw
        case rel => exact ⟨j + 1, A2, c2, by omega, by go_num, by rw [HE.out], by rw [HE.out]; exact HG4.out, HF4.out⟩
        case measure => simp [intOf]; omega
      · have hd : decide (0 < v) = false := by simpa using hp
        have HE : Hid (segsW (ns.take (j + 1)) = segsW (ns.take j)) := Lib.hid (by rw [HS.out, if_neg hp])
        clear hp
        go_wp2
        go_roundw
        case rel => exact ⟨j + 1, A', c', by omega, by go_num, by rw [HE.out], by rw [HE.out]; exact HG1.out, HF1.out⟩
        case measure => simp [intOf]; omega
    · obtain rfl : j = n := by omega
      have HE : Hid (segsW (ns.take j) = segsW ns) := Lib.hid (by rw [List.take_of_length_le (by rw [HN.out]; omega)])
      have hlen : (segsW ns).length ≤ j := by rw [← HN.out]; exact segsW_len ns
      have hrow := HG.out.row intG_elem (by rw [HE.out]; unfold maxLen; omega)
      rw [HBS.out] at hrow
      have HROW := Lib.hid hrow
      clear hrow hlen
      go_wp2
      go_ret
      exact ⟨_, rfl, by have := HROW.out; rw [HE.out] at this; rw [HE.out]; exact this, HF.out⟩
end Go.Proofs.YtpeafckomahjgaaGreatDoor
