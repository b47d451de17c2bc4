/- A reader takes up rows: texts, numbers, cells. -/
import Derived.Test.YtjhjcdfhfjeogaaC5
namespace Go.Proofs.Ytjhjcdfhfjeogaa
open Go.RowKit Go.Maps
set_option linter.unusedVariables false

/-- so many things, one behind the other -/
def seq {α : Type} (f : RS → α × RS) : Nat → RS → List α × RS
  | 0, S => ([], S)
  | j + 1, S => ((seq f j S).1 ++ [(f (seq f j S).2).1], (f (seq f j S).2).2)
theorem seq_len {α : Type} (f : RS → α × RS) (S : RS) : ∀ j, (seq f j S).1.length = j
  | 0 => rfl
  | j + 1 => by simp [seq, seq_len f S j]
/-- behind an error nothing more is taken up -/
def Stops {α : Type} (f : RS → α × RS) : Prop := ∀ S : RS, S.fault ≠ 0 → (f S).2 = S
theorem seq_stop {α : Type} {f : RS → α × RS} (hf : Stops f) (S : RS) (j n : Nat) (hj : j ≤ n) (h : (seq f j S).2.fault ≠ 0) : (seq f n S).2 = (seq f j S).2 := by
  induction n with
  | zero => obtain rfl : j = 0 := by omega
            rfl
  | succ n ih =>
    rcases Nat.lt_or_ge n j with hlt | hge
    · obtain rfl : j = n + 1 := by omega
      rfl
    · have e := ih hge
      show (f (seq f n S).2).2 = _
      rw [e]; exact hf _ h
def RS.several {α : Type} (f : RS → α × RS) (S : RS) (least : Nat) : List α × RS :=
  (if (seq f (S.many least).1 (S.many least).2).2.fault = 0 then (seq f (S.many least).1 (S.many least).2).1 else [], (seq f (S.many least).1 (S.many least).2).2)
theorem take_stops (n : Nat) : Stops fun S => S.take n := fun S h => by
  show (S.take n).2 = S
  unfold RS.take; rw [if_neg h]
theorem many_stop {S : RS} (h : S.fault ≠ 0) (k : Nat) : S.many k = (0, S) := by
  have ht : S.take 4 = ([], S) := by unfold RS.take; rw [if_neg h]
  unfold RS.many
  rw [ht]
  simp [num]
theorem text_stops : Stops RS.text := fun S h => by unfold RS.text; rw [many_stop h]; exact take_stops 0 S h
theorem int_stops : Stops RS.int := fun S h => take_stops 8 S h
theorem byte_stops : Stops RS.byte := fun S h => take_stops 1 S h
theorem fail_stops {S : RS} (h : S.fault ≠ 0) (e : Int) : S.fail e = S := by unfold RS.fail; rw [if_neg (by simp [h])]
theorem cell_stops : Stops RS.cell := fun S h => by
  have hb : S.byte.2 = S := byte_stops S h
  show (S.byte.2.cellV S.byte.1).2 = S
  rw [hb]
  unfold RS.cellV
  split
  · rfl
  · split
    · exact int_stops S h
    · split
      · exact text_stops S h
      · exact fail_stops h 22
theorem several_stops {α : Type} {f : RS → α × RS} (hf : Stops f) (k : Nat) : Stops fun S => S.several f k := fun S h => by
  show (seq f (S.many k).1 (S.many k).2).2 = S
  rw [many_stop h]; rfl
/-- no reader has more left than ahead -/
def Shrinks {α : Type} (f : RS → α × RS) : Prop := ∀ S : RS, (f S).2.rest.length ≤ S.rest.length
theorem fail_rest (S : RS) (e : Int) : (S.fail e).rest.length ≤ S.rest.length := by unfold RS.fail; split <;> simp
theorem many_le (S : RS) (k : Nat) : (S.many k).1 ≤ S.rest.length := by
  unfold RS.many
  split
  · simp
  · have h1 := take_rest S 4
    have h2 : (S.take 4).2.rest.length / k ≤ (S.take 4).2.rest.length := Nat.div_le_self _ _
    simp only
    omega

/-- A call of a reader that tells a row. -/
def RPr {α : Type} (p : Option Nat) (w : World) (size : Nat) (E : (Nat → Prop) → World → α → List Value → Prop) (l : List α) (S' : RS) (e : Ending) (w' : World) : Prop :=
  ∃ V, e = .returned V ∧ RAt w' p S' ∧ Fr (RFt p) w w' ∧ RowE (fun k => w.heap.size ≤ k) w' size (E (fun k => w.heap.size ≤ k) w') V l

theorem take_le (S : RS) (n : Nat) : (S.take n).1.length ≤ S.rest.length := by
  unfold RS.take
  split
  · split
    · simp
    · simp only [List.length_take]; omega
  · simp
theorem many_rest (S : RS) (k : Nat) : (S.many k).2.rest.length ≤ S.rest.length := by
  unfold RS.many
  split
  · exact Nat.le_trans (fail_rest _ _) (take_rest S 4)
  · exact take_rest S 4
theorem text_le (S : RS) : S.text.1.length ≤ S.rest.length := Nat.le_trans (take_le _ _) (many_rest S 1)
theorem int_bd (S : RS) : i64 S.int.1 := by
  unfold RS.int i64
  rw [IntKind.wrap_i64]
  omega
theorem byte_lt' (S : RS) : S.byte.1 < 256 := num_le _ 1 (take_len S 1)
theorem i64_small (n : Nat) (h : n ≤ 1000) : i64 (n : Int) := by unfold i64; omega
theorem cellV_ok (S : RS) (k : Nat) (hk : k < 256) (h : S.rest.length ≤ 1073741824) : (S.cellV k).1.Ok := by
  have hb := int_bd S
  have ht : S.text.1.length ≤ maxLen := by have := text_le S; unfold maxLen; omega
  have hz : ([] : List UInt8).length ≤ maxLen := by simp
  unfold RS.cellV
  split
  · exact ⟨i64_small 0 (by omega), i64_small 0 (by omega), hz⟩
  · split
    · exact ⟨i64_small 1 (by omega), hb, hz⟩
    · split
      · exact ⟨i64_small 2 (by omega), i64_small 0 (by omega), ht⟩
      · exact ⟨i64_small k (by omega), i64_small 0 (by omega), hz⟩
theorem cell_ok (S : RS) (h : S.rest.length ≤ 1073741824) : S.cell.1.Ok := by
  show (if (S.byte.2.cellV S.byte.1).2.fault = 0 then (S.byte.2.cellV S.byte.1).1 else CellP.zero).Ok
  split
  · exact cellV_ok _ _ (byte_lt' S) (Nat.le_trans (take_rest S 1) h)
  · exact ⟨i64_small 0 (by omega), i64_small 0 (by omega), by simp [CellP.zero]⟩

theorem info9 : (Try.prog.info? 9).map (fun i => (i.zero, i.size, i.bytes)) = some (some (.string ⟨#[]⟩), 1, 16) := by kernel_rfl
set_option maxRecDepth 100000 in
set_option maxHeartbeats 4000000 in
theorem several_texts (p : Option Nat) (S : RS) (k : Nat) (hk : 0 < k) (hk8 : k ≤ 8) (w : World) (h : RAt w p S) :
    Calls Try.prog 89 #[wpt p, .int .i64 (k : Int), .func (.func 36) #[wpt p] #[]] w (RPr p w 1 strG (S.several RS.text k).1 (S.several RS.text k).2) := by
  obtain ⟨b, hb⟩ : ∃ b, w.heap.size = b := ⟨_, rfl⟩
  obtain ⟨w0, hw0⟩ : ∃ w0, w.alloc (.cells #[] 9) = w0 := ⟨_, rfl⟩
  have hpb : ∀ j, RFt p j → j < b := fun j hj => by have := h.lt j hj; omega
  have hg0 : Grow b 9 1 strG w0 (.slice (some ⟨b, 0, none⟩) 0 0) [] := by rw [← hw0, ← hb]; exact Grow.nil w.heap.size 9 1 strG w (Nat.le_refl _)
  have h0 : RAt w0 p S := by rw [← hw0]; exact h.alloc _
  have f0 : Fr (RFt p) w w0 := by rw [← hw0]; exact (Fr.refl _ w).alloc _
  have hml := many_le S k
  have hsl := h.len
  have HM := Lib.hid (rmany_any p S k hk hk8 w0 h0)
  have HV : Hid (S.several RS.text k = (if (seq RS.text (S.many k).1 (S.many k).2).2.fault = 0 then (seq RS.text (S.many k).1 (S.many k).2).1 else [], (seq RS.text (S.many k).1 (S.many k).2).2)) := Lib.hid rfl
  have HG0 := Lib.hid hg0
  have F0 := Lib.hid f0
  have PB := Lib.hid hpb
  have hn : (S.many k).1 ≤ 1073741824 := by omega
  have HBS := Lib.hid (show b = w.heap.size from hb.symm)
  have HW0 := Lib.hid hw0
  generalize (S.many k).1 = n at *
  generalize (S.many k).2 = S1 at *
  generalize hP : wpt p = P at *
  have HP := Lib.hid hP
  clear hP h h0 f0 hpb hg0 hml hsl hk hk8
  go_enter Try.func89, Try.ntmps89
  go_wp2_with fail
  refine HM.out.mono ?_
  rintro e w1 ⟨rfl, h1, f1⟩
  have hg1 := HG0.out.keep strG_elem f1 PB.out
  have H1 := Lib.hid h1
  have F1 := Lib.hid (F0.out.then f1)
  have G1 := Lib.hid hg1
  clear h1 f1 hg1 hb hw0
  go_wp2
  go_loopw [7, 12] (fun v i wr => ∃ j : Nat, ∃ A c, j ≤ n ∧ i = .int .i64 j ∧ v = .slice A j c ∧ Grow b 9 1 strG wr (.slice A j c) (seq RS.text j S1).1 ∧ RAt wr p (seq RS.text j S1).2 ∧ Fr (RFt p) w wr) (fun _ i _ => n - (intOf i).toNat)
  case atStart => exact ⟨0, _, _, by omega, rfl, rfl, G1.out, H1.out, F1.out⟩
  case round =>
    obtain ⟨j, A, c, hj, rfl, rfl, hg, hr, hf⟩ := hrel
    have HG := Lib.hid hg
    have HR0 := Lib.hid hr
    have HF := Lib.hid hf
    have HQ : Hid (seq RS.text (j + 1) S1 = ((seq RS.text j S1).1 ++ [(RS.text (seq RS.text j S1).2).1], (RS.text (seq RS.text j S1).2).2)) := Lib.hid rfl
    have HL := Lib.hid (seq_len RS.text S1 j)
    clear hg hr hf
    by_cases hlt : j < n
    · go_wp2_with fail
      rw [← HP.out]
      refine (rtext_any p (seq RS.text j S1).2 wr HR0.out).mono ?_
      rintro e w3 ⟨rfl, h3, f3⟩
      have hg3 := HG.out.keep strG_elem f3 PB.out
      have hel : strG (fun x => wr.heap.size ≤ x) w3 (RS.text (seq RS.text j S1).2).1 [sv (RS.text (seq RS.text j S1).2).1] := ⟨rfl, by have := text_le (seq RS.text j S1).2; have := HR0.out.len; unfold maxLen; omega⟩
      obtain ⟨A', c', w4, hap, hg4, f4, hlt4⟩ := hg3.more strG_elem (w0 := wr) (by rw [HBS.out]; exact HF.out.size) f3.size (fun x hx => (HG.out.lt x hx).2) 54 Try.underlying54 (.string ⟨#[]⟩) info9 rfl (by omega) _ [sv (RS.text (seq RS.text j S1).2).1] rfl (by simp [Value.oneCell']) hel (by rw [HL.out]; omega) (by rw [HL.out]; unfold maxLen; omega)
      rw [HL.out] at hap hg4
      have h4 : RAt w4 p (RS.text (seq RS.text j S1).2).2 := h3.fr f4 fun x hx hx' => by have := (HG.out.lt x hx).1; have := PB.out x hx'; omega
      have hf4 : Fr (RFt p) w w4 := (HF.out.then f3).trans f4 fun x hlx hx => by have := (HG.out.lt x hx).1; have := HBS.out; omega
      have HAP := Lib.hid hap
      have HG4 : Hid (Grow b 9 1 strG w4 (.slice A' (j + 1) c') (seq RS.text (j + 1) S1).1) := Lib.hid (by rw [HQ.out]; exact hg4)
      have HR4 : Hid (RAt w4 p (seq RS.text (j + 1) S1).2) := Lib.hid (by rw [HQ.out]; exact h4)
      have HF4 := Lib.hid hf4
      clear h3 f3 hg3 hel hap hg4 f4 hlt4 h4 hf4
      rw [HP.out]
      go_wp2_with (at_builtin; refine wpList_add rfl _ _ _ _ rfl _ _ _ _ rfl rfl (HAP.out _) ?_)
      by_cases hz : (seq RS.text (j + 1) S1).2.fault = 0
      · have HZ := Lib.hid hz
        clear hz
        rw [← HP.out]
        refine (rstop_no p _ w4 HR4.out HZ.out).mono ?_
        rintro e w' ⟨rfl, rfl⟩
        rw [HP.out]
        go_wp2
        go_roundw
        case rel => exact ⟨j + 1, A', c', by omega, by go_num, by go_num, HG4.out, HR4.out, HF4.out⟩
        case measure => simp [intOf]; omega
      · have HZ := Lib.hid hz
        clear hz
        rw [← HP.out]
        refine (rstop_yes p _ w4 HR4.out HZ.out).mono ?_
        rintro e w' ⟨rfl, rfl⟩
        rw [HP.out]
        go_wp2_with fail
        rw [← HP.out]
        refine (told103 p _ _ w4 HR4.out).mono ?_
        rw [if_neg HZ.out]
        rintro e w' ⟨rfl, rfl⟩
        have HE : Hid (S.several RS.text k = ([], (seq RS.text (j + 1) S1).2)) := Lib.hid (by rw [HV.out, seq_stop text_stops S1 (j + 1) n (by omega) HZ.out, if_neg HZ.out])
        go_wp2
        go_ret
        exact ⟨_, rfl, by rw [HE.out]; exact HR4.out, HF4.out, by rw [HE.out]; exact RowE.nil _ _ _ _ _⟩
    · obtain rfl : j = n := by omega
      go_wp2_with fail
      rw [← HP.out]
      refine (told103 p _ _ _ HR0.out).mono ?_
      by_cases hz : (seq RS.text j S1).2.fault = 0
      · rw [if_pos hz]
        rintro e w' ⟨rfl, rfl⟩
        have HE : Hid (S.several RS.text k = seq RS.text j S1) := Lib.hid (by rw [HV.out, if_pos hz])
        have hrow := HG.out.row strG_elem (by rw [HL.out]; unfold maxLen; omega)
        rw [HBS.out] at hrow
        have HROW := Lib.hid hrow
        clear hz hrow
        go_wp2
        go_ret
        exact ⟨_, rfl, by rw [HE.out]; exact HR0.out, HF.out, by rw [HE.out]; exact HROW.out⟩
      · rw [if_neg hz]
        rintro e w' ⟨rfl, rfl⟩
        have HE : Hid (S.several RS.text k = ([], (seq RS.text j S1).2)) := Lib.hid (by rw [HV.out, if_neg hz])
        clear hz
        go_wp2
        go_ret
        exact ⟨_, rfl, by rw [HE.out]; exact HR0.out, HF.out, by rw [HE.out]; exact RowE.nil _ _ _ _ _⟩
end Go.Proofs.Ytjhjcdfhfjeogaa
