/- A reader takes up facts. -/
import Derived.Test.YtjhjcdfhfjeogaaC8
namespace Go.Proofs.Ytjhjcdfhfjeogaa
open Go.RowKit Go.Maps
set_option linter.unusedVariables false

abbrev factG (K : Nat → Prop) (w : World) (f : FactP) (cs : List Value) : Prop := factE K w f cs
theorem factG_elem : Elem factG := ⟨fun K K' w w' x cs h hk => by
  obtain ⟨dv, mv, e, h1, h2⟩ := h
  exact ⟨dv, mv, e, ((h1.bound (by omega)).of (w' := w') (fun k hk' => (hk k hk'.1 hk'.2).2) fun _ _ h => h).mono fun k hk' => (hk k hk'.1 hk'.2).1, ((h2.bound (by omega)).of (w' := w') (fun k hk' => (hk k hk'.1 hk'.2).2) fun _ _ h => h).mono fun k hk' => (hk k hk'.1 hk'.2).1⟩⟩
theorem fact_stops : Stops RS.fact := fun S h => by
  have h1 : S.texts.2 = S := several_stops text_stops 4 S h
  show S.texts.2.ints.2 = S
  rw [h1]
  exact several_stops int_stops 8 S h
def RS.facts (S : RS) : List FactP × RS := S.several RS.fact 8
theorem info99 : (Try.prog.info? 99).map (fun i => (i.zero, i.size, i.bytes)) = some (some (.agg #[.slice none 0 0, .slice none 0 0]), 2, 48) := by kernel_rfl
set_option maxRecDepth 100000 in
set_option maxHeartbeats 4000000 in
theorem several_facts (p : Option Nat) (S : RS) (k : Nat) (hk : 0 < k) (hk8 : k ≤ 8) (w : World) (h : RAt w p S) :
    Calls Try.prog 94 #[wpt p, .int .i64 (k : Int), .func (.func 63) #[wpt p] #[]] w (RPr p w 2 factG (S.several RS.fact k).1 (S.several RS.fact k).2) := by
  obtain ⟨b, hb⟩ : ∃ b, w.heap.size = b := ⟨_, rfl⟩
  obtain ⟨w0, hw0⟩ : ∃ w0, w.alloc (.cells #[] 99) = w0 := ⟨_, rfl⟩
  have hpb : ∀ j, RFt p j → j < b := fun j hj => by have := h.lt j hj; omega
  have hg0 : Grow b 99 2 factG w0 (.slice (some ⟨b, 0, none⟩) 0 0) [] := by rw [← hw0, ← hb]; exact Grow.nil w.heap.size 99 2 factG w (Nat.le_refl _)
  have h0 : RAt w0 p S := by rw [← hw0]; exact h.alloc _
  have f0 : Fr (RFt p) w w0 := by rw [← hw0]; exact (Fr.refl _ w).alloc _
  have hml := many_le S k
  have hsl := h.len
  have HM := Lib.hid (rmany_any p S k hk hk8 w0 h0)
  have HV : Hid (S.several RS.fact k = (if (seq RS.fact (S.many k).1 (S.many k).2).2.fault = 0 then (seq RS.fact (S.many k).1 (S.many k).2).1 else [], (seq RS.fact (S.many k).1 (S.many k).2).2)) := Lib.hid rfl
  have HG0 := Lib.hid hg0
  have F0 := Lib.hid f0
  have PB := Lib.hid hpb
  have hn : (S.many k).1 ≤ 1073741824 := by omega
  have HBS := Lib.hid (show b = w.heap.size from hb.symm)
  have HW0 := Lib.hid hw0
  generalize (S.many k).1 = n at *
  generalize (S.many k).2 = S1 at *
  generalize hP : wpt p = P at *
  have HP := Lib.hid hP
  clear hP h h0 f0 hpb hg0 hml hsl hk hk8
  go_enter Try.func94, Try.ntmps94
  go_wp2_with fail
  refine HM.out.mono ?_
  rintro e w1 ⟨rfl, h1, f1⟩
  have hg1 := HG0.out.keep factG_elem f1 PB.out
  have H1 := Lib.hid h1
  have F1 := Lib.hid (F0.out.then f1)
  have G1 := Lib.hid hg1
  clear h1 f1 hg1 hb hw0
  go_wp2
  go_loopw [7, 12] (fun v i wr => ∃ j : Nat, ∃ A c, j ≤ n ∧ i = .int .i64 j ∧ v = .slice A j c ∧ Grow b 99 2 factG wr (.slice A j c) (seq RS.fact j S1).1 ∧ RAt wr p (seq RS.fact j S1).2 ∧ Fr (RFt p) w wr) (fun _ i _ => n - (intOf i).toNat)
  case atStart => exact ⟨0, _, _, by omega, rfl, rfl, G1.out, H1.out, F1.out⟩
  case round =>
    obtain ⟨j, A, c, hj, rfl, rfl, hg, hr, hf⟩ := hrel
    have HG := Lib.hid hg
    have HR0 := Lib.hid hr
    have HF := Lib.hid hf
    have HQ : Hid (seq RS.fact (j + 1) S1 = ((seq RS.fact j S1).1 ++ [(RS.fact (seq RS.fact j S1).2).1], (RS.fact (seq RS.fact j S1).2).2)) := Lib.hid rfl
    have HL := Lib.hid (seq_len RS.fact S1 j)
    clear hg hr hf
    by_cases hlt : j < n
    · go_wp2_with fail
      rw [← HP.out]
      refine (rfact_any p (seq RS.fact j S1).2 wr HR0.out).mono ?_
      rintro e w3 ⟨dv, mv, rfl, h3, f3, rd, rm⟩
      obtain ⟨A1, n1, k1, rfl⟩ := rd.slice
      obtain ⟨A2, n2, k2, rfl⟩ := rm.slice
      have hg3 := HG.out.keep factG_elem f3 PB.out
      have hel : factG (fun x => wr.heap.size ≤ x) w3 (RS.fact (seq RS.fact j S1).2).1 [.slice A1 n1 k1, .slice A2 n2 k2] := ⟨_, _, rfl, rd, rm⟩
      obtain ⟨A', c', w4, hap, hg4, f4, hlt4⟩ := hg3.more factG_elem (w0 := wr) (by rw [HBS.out]; exact HF.out.size) f3.size (fun x hx => (HG.out.lt x hx).2) 56 Try.underlying56 (.agg #[.slice none 0 0, .slice none 0 0]) info99 rfl (by omega) _ [.slice A1 n1 k1, .slice A2 n2 k2] rfl (by simp [Value.oneCell']) hel (by rw [HL.out]; omega) (by rw [HL.out]; unfold maxLen; omega)
      rw [HL.out] at hap hg4
      have h4 : RAt w4 p (RS.fact (seq RS.fact j S1).2).2 := h3.fr f4 fun x hx hx' => by have := (HG.out.lt x hx).1; have := PB.out x hx'; omega
      have hf4 : Fr (RFt p) w w4 := (HF.out.then f3).trans f4 fun x hlx hx => by have := (HG.out.lt x hx).1; have := HBS.out; omega
      have HAP := Lib.hid hap
      have HG4 : Hid (Grow b 99 2 factG w4 (.slice A' (j + 1) c') (seq RS.fact (j + 1) S1).1) := Lib.hid (by rw [HQ.out]; exact hg4)
      have HR4 : Hid (RAt w4 p (seq RS.fact (j + 1) S1).2) := Lib.hid (by rw [HQ.out]; exact h4)
      have HF4 := Lib.hid hf4
      clear h3 f3 hg3 hel hap hg4 f4 hlt4 h4 hf4 rd rm
      rw [HP.out]
      go_wp2_with (at_builtin; refine wpList_add rfl _ _ _ _ rfl _ _ _ _ rfl rfl (HAP.out _) ?_)
      by_cases hz : (seq RS.fact (j + 1) S1).2.fault = 0
      · have HZ := Lib.hid hz
        clear hz
        rw [← HP.out]
        refine (rstop_no p _ w4 HR4.out HZ.out).mono ?_
        rintro e w' ⟨rfl, rfl⟩
        rw [HP.out]
        go_wp2
        go_roundw
        case rel => exact ⟨j + 1, A', c', by omega, by go_num, by go_num, HG4.out, HR4.out, HF4.out⟩
        case measure => simp [intOf]; omega
      · have HZ := Lib.hid hz
        clear hz
        rw [← HP.out]
        refine (rstop_yes p _ w4 HR4.out HZ.out).mono ?_
        rintro e w' ⟨rfl, rfl⟩
        rw [HP.out]
        go_wp2_with fail
        rw [← HP.out]
        refine (told106 p _ _ w4 HR4.out).mono ?_
        rw [if_neg HZ.out]
        rintro e w' ⟨rfl, rfl⟩
        have HE : Hid (S.several RS.fact k = ([], (seq RS.fact (j + 1) S1).2)) := Lib.hid (by rw [HV.out, seq_stop fact_stops S1 (j + 1) n (by omega) HZ.out, if_neg HZ.out])
        go_wp2
        go_ret
        exact ⟨_, rfl, by rw [HE.out]; exact HR4.out, HF4.out, by rw [HE.out]; exact RowE.nil _ _ _ _ _⟩
    · obtain rfl : j = n := by omega
      go_wp2_with fail
      rw [← HP.out]
      refine (told106 p _ _ _ HR0.out).mono ?_
      by_cases hz : (seq RS.fact j S1).2.fault = 0
      · rw [if_pos hz]
        rintro e w' ⟨rfl, rfl⟩
        have HE : Hid (S.several RS.fact k = seq RS.fact j S1) := Lib.hid (by rw [HV.out, if_pos hz])
        have hrow := HG.out.row factG_elem (by rw [HL.out]; unfold maxLen; omega)
        rw [HBS.out] at hrow
        have HROW := Lib.hid hrow
        clear hz hrow
        go_wp2
        go_ret
        exact ⟨_, rfl, by rw [HE.out]; exact HR0.out, HF.out, by rw [HE.out]; exact HROW.out⟩
      · rw [if_neg hz]
        rintro e w' ⟨rfl, rfl⟩
        have HE : Hid (S.several RS.fact k = ([], (seq RS.fact j S1).2)) := Lib.hid (by rw [HV.out, if_neg hz])
        clear hz
        go_wp2
        go_ret
        exact ⟨_, rfl, by rw [HE.out]; exact HR0.out, HF.out, by rw [HE.out]; exact RowE.nil _ _ _ _ _⟩
set_option maxHeartbeats 400000 in
theorem rfacts_any (p : Option Nat) (S : RS) (w : World) (h : RAt w p S) : Calls Try.prog 64 #[wpt p] w (RPr p w 2 factG S.facts.1 S.facts.2) := by
  have HS : Hid (Calls Try.prog 94 #[wpt p, .int .i64 8, .func (.func 63) #[wpt p] #[]] w (RPr p w 2 factG S.facts.1 S.facts.2)) := Lib.hid (several_facts p S 8 (by omega) (by omega) w h)
  have hmf := mkf
  clear h
  generalize hP : wpt p = P at *
  clear hP
  go_enter Try.func64, Try.ntmps64
  go_wp2_with fail
  refine HS.out.mono ?_
  rintro e w1 ⟨V, rfl, h1, h2, h3⟩
  go_wp2
  go_ret
  exact ⟨V, rfl, h1, h2, h3⟩
end Go.Proofs.Ytjhjcdfhfjeogaa
