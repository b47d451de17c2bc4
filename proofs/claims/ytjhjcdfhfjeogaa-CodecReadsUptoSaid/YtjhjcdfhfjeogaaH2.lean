/- The document's bytes of a fact; two lists of texts that are the same. -/
import Derived.Test.YtjhjcdfhfjeogaaH1
namespace Go.Proofs.Ytjhjcdfhfjeogaa
open Go.RowKit Go.Maps Go.Sort
set_option linter.unusedVariables false

theorem regrown_heap {w : World} {k : Nat} (hk : k < w.heap.size) (dd : Nat) (os : Array Obj) : (grow (redrawn w dd) os).heap[k]? = w.heap[k]? := (below_regrown w dd os).block k hk
theorem RowE.regrown {α : Type} {w : World} {B size : Nat} {E : α → List Value → Prop} {v : Value} {l : List α} (h : RowE (fun k => k < B) w size E v l) (hB : B ≤ w.heap.size) (dd : Nat) (os : Array Obj) : RowE (fun k => k < B) (grow (redrawn w dd) os) size E v l := h.of (fun k hk => regrown_heap (Nat.lt_of_lt_of_le hk hB) dd os) fun _ _ h => h
theorem RowE.up {α : Type} {w : World} {B size : Nat} {E : α → List Value → Prop} {v : Value} {l : List α} (h : RowE (fun k => k < B) w size E v l) (hB : B ≤ w.heap.size) : RowE (fun k => k < w.heap.size) w size E v l := h.mono fun k hk => Nat.lt_of_lt_of_le hk hB

def IntB (x : Value) (X : List UInt8) : Prop := x = sv X
set_option maxRecDepth 100000 in
set_option maxHeartbeats 2000000 in
theorem dfact_any (dv mv : Value) (f : FactP) (w : World) (hd : RowE (fun k => k < w.heap.size) w 1 strE dv f.dims) (hm : RowE (fun k => k < w.heap.size) w 1 intE mv f.meas) (hb : (bFact f).length ≤ 1152921504606846976) : Calls Try.prog 57 #[.agg #[dv, mv]] w (Told (bFact f) w) := by
  obtain ⟨A1, n1, c1, rfl⟩ := hd.slice
  obtain ⟨A, c, rfl, hml, hel⟩ := hm
  unfold maxLen at hml
  obtain ⟨wa, hwa⟩ : ∃ wa, w.alloc (.cells #[.slice A1 n1 c1, .slice A f.meas.length c] 99) = wa := ⟨_, rfl⟩
  obtain ⟨gb, hgb⟩ : ∃ gb, w.heap.size = gb := ⟨_, rfl⟩
  have hbx : Blk wa gb 99 #[.slice A1 n1 c1, .slice A f.meas.length c] := by rw [← hwa, ← hgb]; exact Blk.new w 99 _
  have hba : Below w.heap.size w wa := by rw [← hwa]; exact (Below.refl _ _).alloc (Nat.le_refl _) _
  have hda : RowE (fun k => k < w.heap.size) wa 1 strE (.slice A1 n1 c1) f.dims := hd.of (fun k hk => hba.block k hk) fun _ _ h => h
  have hl1 : (bRow bText f.dims).length + (bRow enc8 f.meas).length ≤ 1152921504606846976 := by unfold bFact at hb; rw [List.length_append] at hb; exact hb
  have KT : Hid (∀ dd os, Calls Try.prog 54 #[.slice A1 n1 c1] (grow (redrawn wa dd) os) fun e w'' => e = .returned (sv (bRow bText f.dims)) ∧ ∃ p : Regrown, w'' = grow (redrawn wa p.d) p.os) := Lib.hid fun dd os => Calls.regrown_of (dtexts_any _ _ _ ((hda.regrown hba.size dd os).up (Nat.le_trans hba.size (below_regrown wa dd os).size)) (by omega))
  have KC : Hid (∀ dd os, Calls Try.prog 56 #[.int .i64 (f.meas.length : Nat)] (grow (redrawn wa dd) os) fun e w'' => e = .returned (sv (low f.meas.length 4)) ∧ ∃ p : Regrown, w'' = grow (redrawn wa p.d) p.os) := Lib.hid fun dd os => Calls.regrown_of (dcount_any _ (by omega) _)
  have c0 : ∀ dd os, (grow (redrawn wa dd) os).cell? ⟨gb, 0, none⟩ = some (.slice A1 n1 c1) := fun dd os => cell_regrown (hbx.cell 0) dd os
  have c1' : ∀ dd os, (grow (redrawn wa dd) os).cell? ⟨gb, 1, none⟩ = some (.slice A f.meas.length c) := fun dd os => cell_regrown (hbx.cell 1) dd os
  have hcat : ∀ w0, (Op.stringOp .add ⟨(bRow bText f.dims).toArray⟩ ⟨(low f.meas.length 4).toArray⟩).run Try.prog w0 = .ok (.string ⟨(bRow bText f.dims ++ low f.meas.length 4).toArray⟩) w0 := fun w0 => run_cat _ _ (by rw [low_len]; omega) w0
  have HE := Lib.hid hel
  have HX := Lib.hid hbx
  have HBA := Lib.hid hba
  have hmf : (f.meas.flatMap enc8).length + 4 = (bRow enc8 f.meas).length := by unfold bRow; rw [List.length_append, low_len]; omega
  have HB : Hid (bFact f = bRow bText f.dims ++ (low f.meas.length 4 ++ f.meas.flatMap enc8)) := Lib.hid rfl
  have hxl : (bRow bText f.dims ++ low f.meas.length 4).length + (f.meas.flatMap enc8).length ≤ 1152921504606846976 := by rw [List.length_append, low_len]; omega
  have HXL := Lib.hid hxl
  obtain ⟨n, hn⟩ : ∃ n, f.meas.length = n := ⟨_, rfl⟩
  rw [hn] at hml KC c1' hcat HB HXL HX hwa ⊢
  have HN := Lib.hid hn
  generalize f.meas = M at *
  obtain ⟨Y, hY⟩ : ∃ Y, bRow bText f.dims ++ low n 4 = Y := ⟨_, rfl⟩
  rw [hY] at hcat HXL
  have HY := Lib.hid hY
  generalize bRow bText f.dims = D at *
  generalize low n 4 = L at *
  clear hn hel hbx hba hda hl1 hmf hxl hY hd hb
  go_enter Try.func57, Try.ntmps57
  go_wp2_with fail
  go_upto_region 2 with fail
  go_cut [3] (fun x wx => x = sv Y ∧ Below wa.heap.size wa wx)
  case first =>
    refine wp_region_quiet_below mixed (by kernel_rfl) ?_
    repeat (first | go_big_quiet_step (first | exact KT.out _ _ | exact KC.out _ _) | quiet_step (first | exact KT.out _ _ | exact KC.out _ _))
    refine wpQuiet_nil ?_
    intro wx hp
    have hbw : Below wa.heap.size wa wx := by obtain ⟨p, rfl⟩ := hp; exact below_regrown _ _ _
    go_wp2_with fail
    go_meet
    exact ⟨rfl, hbw⟩
  case rest =>
    obtain ⟨rfl, hbw⟩ := hcut
    have BC := Lib.hid hbw
    clear hbw c0 c1' hcat KT KC hwa hgb
    go_wp2
    go_loopw [3, 4] (fun x i wr => ∃ j : Nat, ∃ X, j ≤ n ∧ i = .int .i64 j ∧ x = sv X ∧ X = Y ++ (M.take j).flatMap enc8 ∧ Below wa.heap.size wa wr) (fun _ i _ => n - (intOf i).toNat)
    case atStart => exact ⟨0, _, by omega, rfl, rfl, by simp, BC.out⟩
    case round =>
      obtain ⟨j, X, hj, rfl, rfl, hX, hbw⟩ := hrel
      have HXX := Lib.hid hX
      have HBW := Lib.hid hbw
      have hblk : Blk wr gb 99 #[.slice A1 n1 c1, .slice A n c] := HX.out.of (hbw.block gb HX.out.lt)
      have d1 : wr.cell? ⟨gb, 1, none⟩ = some (.slice A n c) := hblk.cell 1
      clear hX hbw hblk
      by_cases hlt : j < n
      · have hjl : j < M.length := by rw [HN.out]; exact hlt
        obtain ⟨g, off, rfl, hg, hcell⟩ := HE.out (by omega)
        obtain ⟨cs, hlen, hcs2, rfl, hmx⟩ := hcell j hjl
        have hgw : g < wa.heap.size := Nat.lt_of_lt_of_le hg HBA.out.size
        have hc : _ = some (Value.int .i64 M[j]) := (cell_of_heap ((HBW.out.block g hgw).trans (HBA.out.block g hg))).trans (hcs2 0 (by omega))
        simp only [Nat.mul_one, Nat.add_zero] at hc
        have h1 := flat_pre enc8 M j
        have h2 := flat_one enc8 M j hjl
        have h3 := HXL.out
        have hxl : X.length ≤ 1152921504606846980 := by rw [HXX.out, List.length_append]; omega
        have h8 : (enc8 M[j]).length = 8 := by unfold enc8; rw [low_len]
        have hcat : ∀ w0, (Op.stringOp .add ⟨X.toArray⟩ ⟨(enc8 M[j]).toArray⟩).run Try.prog w0 = .ok (.string ⟨(X ++ enc8 M[j]).toArray⟩) w0 := fun w0 => run_cat _ _ (by omega) w0
        have hk : IntKind.u64.wrap M[j] = (((M[j] % 18446744073709551616).toNat : Nat) : Int) := by rw [IntKind.wrap_u64]; omega
        have HL := Lib.hid (fun w => Num_any (M[j] % 18446744073709551616).toNat 8 w (by omega) (by omega))
        have HQ : Hid (X ++ enc8 M[j] = Y ++ (M.take (j + 1)).flatMap enc8) := Lib.hid (by rw [flat_snoc enc8 M j hjl, HXX.out, List.append_assoc])
        unfold Low at HL
        have he8 : low (M[j] % 18446744073709551616).toNat 8 = enc8 M[j] := rfl
        rw [he8] at HL
        generalize enc8 M[j] = T at *
        generalize (M[j] % 18446744073709551616).toNat = tt at *
        generalize M[j] = s at *
        generalize X ++ T = Z at *
        clear h1 h2 h3 hxl h8 hcell hcs2 hlen hmx he8
        go_wp2_with (go_at_call 40; refine (HL.out _).mono ?_; rintro e w3 ⟨rfl, hb3⟩; have B3 := Lib.hid (HBW.out.trans (hb3.mono HBW.out.size)); clear hb3)
        go_roundw
        case rel => exact ⟨j + 1, Z, by omega, by go_num, rfl, HQ.out, B3.out⟩
        case measure => simp [intOf]; omega
      · obtain rfl : j = n := by omega
        go_wp2
        go_ret
        exact ⟨by rw [HB.out, ← List.append_assoc, HY.out, HXX.out, ← HN.out, List.take_length]; rfl, HBA.out.trans (HBW.out.mono HBA.out.size)⟩

/-! ### two lists of texts that are the same -/
set_option maxRecDepth 100000 in
set_option maxHeartbeats 2000000 in
theorem dsame_texts (va vb : Value) (l : List (List UInt8)) (w : World) (ha : RowE (fun k => k < w.heap.size) w 1 strE va l) (hb : RowE (fun k => k < w.heap.size) w 1 strE vb l) :
    Calls Try.prog 66 #[va, vb] w fun e w' => e = .returned (.bool true) ∧ Fr No w w' := by
  obtain ⟨A, c, rfl, hm, hel⟩ := ha
  obtain ⟨A2, c2, rfl, _, hel2⟩ := hb
  have HE := Lib.hid hel
  have HE2 := Lib.hid hel2
  unfold maxLen at hm
  obtain ⟨n, hn⟩ : ∃ n, l.length = n := ⟨_, rfl⟩
  rw [hn] at hm ⊢
  have HN := Lib.hid hn
  clear hn hel hel2
  go_enter Try.func66, Try.ntmps66
  go_wp2
  go_loopw [5] (fun i wr => ∃ j : Nat, j ≤ n ∧ i = .int .i64 j ∧ Fr No w wr) (fun i _ => n - (intOf i).toNat)
  case atStart => exact ⟨0, by omega, rfl, Fr.refl _ _⟩
  case round =>
    obtain ⟨j, hj, rfl, hf⟩ := hrel
    have HF := Lib.hid hf
    clear hf
    by_cases hlt : j < n
    · have hjl : j < l.length := by rw [HN.out]; exact hlt
      obtain ⟨g, off, rfl, hg, hcell⟩ := HE.out (by omega)
      obtain ⟨cs, hlen, hcs, rfl, hmx⟩ := hcell j hjl
      obtain ⟨g2, off2, rfl, hg2, hcell2⟩ := HE2.out (by omega)
      obtain ⟨cs2, hlen2, hcs2, rfl, hmx2⟩ := hcell2 j hjl
      have hc : _ = some (sv l[j]) := (cell_of_heap (HF.out.block g hg id)).trans (hcs 0 (by omega))
      have hc2 : _ = some (sv l[j]) := (cell_of_heap (HF.out.block g2 hg2 id)).trans (hcs2 0 (by omega))
      simp only [Nat.mul_one, Nat.add_zero] at hc hc2
      have hi0 : (0 : Int) ≤ (j : Int) := by omega
      have hi1 : (j : Int) < (n : Int) := by omega
      generalize l[j] = s at *
      clear hcell hcell2 hcs hcs2 hlen hlen2 hmx hmx2
      go_wp2_with fail
      go_quiet (fail)
      have hfq := HF.out.drewN nq
      go_wp2
      go_roundw
      case rel => exact ⟨j + 1, by omega, by go_num, hfq⟩
      case measure => simp [intOf]; omega
    · obtain rfl : j = n := by omega
      go_wp2
      go_ret
      exact ⟨rfl, HF.out⟩
end Go.Proofs.Ytjhjcdfhfjeogaa
