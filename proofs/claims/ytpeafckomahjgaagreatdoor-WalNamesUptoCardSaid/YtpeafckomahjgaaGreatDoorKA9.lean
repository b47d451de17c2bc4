/- The document's frames; frames taken apart, both ways. -/
import Derived.Test.YtpeafckomahjgaaGreatDoorKA8
namespace Go.Proofs.YtpeafckomahjgaaGreatDoor
open Go.RowKit Go.Maps
set_option linter.unusedVariables false

set_option maxRecDepth 100000 in
set_option maxHeartbeats 1000000 in
theorem rframe_ok (l : List UInt8) (w : World) (hs : l.length ≤ 65536) : Calls Tryz.prog 92 #[sv l] w (Framed l w) := by
  have hc := crc_lt l
  have HS : Hid (∀ w, Calls Tryz.prog 124 #[sv l] w fun e w' => e = .returned (.int .u32 (crc l : Nat)) ∧ w = w') := Lib.hid fun w => rsum_any ⟨l.toArray⟩ w (by rw [sz]; unfold maxLen; omega)
  have HL : Hid (∀ w, Calls Tryz.prog 91 #[.int .u64 (l.length : Int), .int .i64 4] w (Low l.length 4 w)) := Lib.hid fun w => Num_any l.length 4 w (by omega) (by omega)
  have HC : Hid (∀ w, Calls Tryz.prog 91 #[.int .u64 (crc l : Nat), .int .i64 4] w (Low (crc l) 4 w)) := Lib.hid fun w => Num_any _ 4 w (by omega) (by omega)
  have HV := Lib.hid (frameV_ok hs)
  obtain ⟨A, hA⟩ : ∃ A, low l.length 4 = A := ⟨_, rfl⟩
  obtain ⟨B, hB⟩ : ∃ B, low (crc l) 4 = B := ⟨_, rfl⟩
  obtain ⟨X, hX⟩ : ∃ X, A ++ B = X := ⟨_, rfl⟩
  obtain ⟨Y, hY⟩ : ∃ Y, X ++ l = Y := ⟨_, rfl⟩
  have hla : A.length = 4 := by rw [← hA, low_len]
  have hlb : B.length = 4 := by rw [← hB, low_len]
  have hcat1 : ∀ w0, (Op.stringOp .add ⟨A.toArray⟩ ⟨B.toArray⟩).run Tryz.prog w0 = .ok (.string ⟨X.toArray⟩) w0 := fun w0 => by rw [run_cat _ _ (by omega), hX]
  have hcat2 : ∀ w0, (Op.stringOp .add ⟨X.toArray⟩ ⟨l.toArray⟩).run Tryz.prog w0 = .ok (.string ⟨Y.toArray⟩) w0 := fun w0 => by rw [run_cat _ _ (by rw [← hX]; simp; omega), hY]
  have HF : Hid (frameR l = Y) := Lib.hid (by unfold frameR; rw [hA, hB, hX, hY])
  unfold Low at HL HC
  rw [hA] at HL
  rw [hB] at HC
  clear hA hB hX hY hla hlb
  generalize crc l = c at *
  go_enter Tryz.func92, Tryz.ntmps92
  go_wp2_with (first | (go_at_call 91; first | ((with_reducible refine (HL.out _).mono ?_); rintro e w1 ⟨rfl, hb1⟩; have B1 := Lib.hid hb1; clear hb1) | ((with_reducible refine (HC.out _).mono ?_); rintro e w3 ⟨rfl, hb3⟩; have B3 := Lib.hid hb3; clear hb3)) | (go_at_call 124; refine (HS.out _).mono ?_; rintro e w2 ⟨rfl, rfl⟩))
  go_ret2
  exact ⟨by rw [HV.out, HF.out]; rfl, B1.out.trans (B3.out.mono B1.out.size)⟩
set_option maxRecDepth 100000 in
theorem rframe_no (l : List UInt8) (w : World) (hm : l.length ≤ maxLen) (hs : ¬ l.length ≤ 65536) : Calls Tryz.prog 92 #[sv l] w (Framed l w) := by
  have HV := Lib.hid (frameV_no hs)
  unfold maxLen at hm
  have hg : 65536 < l.length := by omega
  clear hs
  go_enter Tryz.func92, Tryz.ntmps92
  go_wp2
  go_ret2
  exact ⟨by rw [HV.out]; rfl, Below.refl _ _⟩
theorem rframe_any (l : List UInt8) (w : World) (hm : l.length ≤ maxLen) : Calls Tryz.prog 92 #[sv l] w (Framed l w) := by
  by_cases hs : l.length ≤ 65536
  · exact rframe_ok l w hs
  · exact rframe_no l w hm hs

/-! ### frames taken apart -/
/-- body, how many bytes, the error -/
def unfR (l : List UInt8) : List UInt8 × Nat × Int :=
  if l.length < 8 then ([], 0, 20)
  else if num (l.take 4) > 65536 then ([], 0, 23)
  else if l.length < 8 + num (l.take 4) then ([], 0, 20)
  else if crc ((l.drop 8).take (num (l.take 4))) ≠ num ((l.drop 4).take 4) then ([], 0, 21)
  else ((l.drop 8).take (num (l.take 4)), 8 + num (l.take 4), 0)
def Unf (l : List UInt8) (w : World) (e : Ending) (w' : World) : Prop := e = .returned (.tuple #[sv (unfR l).1, .int .i64 ((unfR l).2.1 : Nat), .int .i64 (unfR l).2.2]) ∧ Below w.heap.size w w'
theorem ext_list (l : List UInt8) (a b : Nat) : (ByteArray.mk l.toArray).extract a b = ⟨((l.take b).drop a).toArray⟩ := by
  apply ByteArray.ext
  apply Array.ext'
  rw [ByteArray.data_extract, Array.toList_extract]
  simp [List.extract, List.drop_take]
set_option maxRecDepth 100000 in
theorem runf_short (l : List UInt8) (w : World) (hs : l.length < 8) : Calls Tryz.prog 126 #[sv l] w (Unf l w) := by
  have HV : Hid (unfR l = ([], 0, 20)) := Lib.hid (by unfold unfR; rw [if_pos hs])
  go_enter Tryz.func126, Tryz.ntmps126
  go_wp2
  exact bodyPost_ret (v := .tuple #[sv [], .int .i64 0, .int .i64 20]) (by simp [results, Tryz.results126, go_sem]) rfl ⟨by rw [HV.out]; rfl, Below.refl _ _⟩
theorem ext_size (l : List UInt8) (a b : Nat) : ((ByteArray.mk l.toArray).extract a b).size = ((l.take b).drop a).length := by rw [ext_list, sz]
theorem ext_data (l : List UInt8) (a b : Nat) : ((ByteArray.mk l.toArray).extract a b).data.toList = (l.take b).drop a := by rw [ext_list]
/-- What the walks need of a text of eight bytes at least. -/
theorem of_ext (l : List UInt8) (a b : Nat) (hab : b ≤ a + 4) (w : World) : Calls Tryz.prog 150 #[.string ((ByteArray.mk l.toArray).extract a b)] w fun e w' => e = .returned (.int .u64 (num ((l.take b).drop a) : Nat)) ∧ w = w' := by
  have h := of_any ((ByteArray.mk l.toArray).extract a b) w (by rw [ext_size]; simp; omega)
  rwa [ext_data] at h
theorem num4 (l : List UInt8) : num (l.take 4) < 4294967296 := by
  have h1 := num_lt (l.take 4)
  have h2 : 256 ^ (l.take 4).length ≤ 256 ^ 4 := Nat.pow_le_pow_right (by decide) (by simp; omega)
  omega
theorem num4' (l : List UInt8) : num ((l.drop 4).take 4) < 4294967296 := num4 _
theorem drop4 (l : List UInt8) : (l.take 8).drop 4 = (l.drop 4).take 4 := by rw [List.drop_take]

set_option maxRecDepth 100000 in
theorem runf_size (l : List UInt8) (w : World) (hm : l.length ≤ maxLen) (hs : 8 ≤ l.length) (hn : 65536 < num (l.take 4)) : Calls Tryz.prog 126 #[sv l] w (Unf l w) := by
  have HV : Hid (unfR l = ([], 0, 23)) := Lib.hid (by unfold unfR; rw [if_neg (by omega), if_pos hn])
  have H4 := Lib.hid (of_ext l 0 4 (by omega) w)
  rw [List.drop_zero] at H4
  have hb := num4 l
  generalize num (l.take 4) = n at *
  unfold maxLen at hm
  go_enter Tryz.func126, Tryz.ntmps126
  go_wp2_with (go_at_call 150; refine H4.out.mono ?_; rintro e w' ⟨rfl, rfl⟩)
  exact bodyPost_ret (v := .tuple #[sv [], .int .i64 0, .int .i64 23]) (by simp [results, Tryz.results126, go_sem]) rfl ⟨by rw [HV.out]; rfl, Below.refl _ _⟩
set_option maxRecDepth 100000 in
theorem runf_cut (l : List UInt8) (w : World) (hm : l.length ≤ maxLen) (hs : 8 ≤ l.length) (hn : num (l.take 4) ≤ 65536) (hc : l.length < 8 + num (l.take 4)) : Calls Tryz.prog 126 #[sv l] w (Unf l w) := by
  have HV : Hid (unfR l = ([], 0, 20)) := Lib.hid (by unfold unfR; rw [if_neg (by omega), if_neg (by omega), if_pos hc])
  have H4 := Lib.hid (of_ext l 0 4 (by omega) w)
  rw [List.drop_zero] at H4
  generalize num (l.take 4) = n at *
  unfold maxLen at hm
  go_enter Tryz.func126, Tryz.ntmps126
  go_wp2_with (go_at_call 150; refine H4.out.mono ?_; rintro e w' ⟨rfl, rfl⟩)
  exact bodyPost_ret (v := .tuple #[sv [], .int .i64 0, .int .i64 20]) (by simp [results, Tryz.results126, go_sem]) rfl ⟨by rw [HV.out]; rfl, Below.refl _ _⟩
set_option maxRecDepth 100000 in
set_option maxHeartbeats 1000000 in
theorem runf_full (l : List UInt8) (w : World) (hm : l.length ≤ maxLen) (hs : 8 ≤ l.length) (hn : num (l.take 4) ≤ 65536) (hc : ¬ l.length < 8 + num (l.take 4)) : Calls Tryz.prog 126 #[sv l] w (Unf l w) := by
  have H4 := Lib.hid (of_ext l 0 4 (by omega) w)
  rw [List.drop_zero] at H4
  have HC : Hid (∀ w, Calls Tryz.prog 150 #[.string ((ByteArray.mk l.toArray).extract 4 8)] w fun e w' => e = .returned (.int .u64 (num ((l.take 8).drop 4) : Nat)) ∧ w = w') := Lib.hid fun w => of_ext l 4 8 (by omega) w
  have HS : Hid (∀ w, Calls Tryz.prog 124 #[.string ((ByteArray.mk l.toArray).extract 8 (8 + num (l.take 4)))] w fun e w' => e = .returned (.int .u32 (crc ((l.drop 8).take (num (l.take 4))) : Nat)) ∧ w = w') := Lib.hid fun w => by
    have h := rsum_any ((ByteArray.mk l.toArray).extract 8 (8 + num (l.take 4))) w (by rw [ext_size]; unfold maxLen; simp; omega)
    rwa [ext_data, List.drop_take, Nat.add_sub_cancel_left] at h
  rw [drop4] at HC
  have hk := num4' l
  have hcl := crc_lt ((l.drop 8).take (num (l.take 4)))
  have HX : Hid ((ByteArray.mk l.toArray).extract 8 (8 + num (l.take 4)) = ⟨((l.drop 8).take (num (l.take 4))).toArray⟩) := Lib.hid (by rw [ext_list, List.drop_take, Nat.add_sub_cancel_left])
  have HU : Hid (unfR l = if crc ((l.drop 8).take (num (l.take 4))) ≠ num ((l.drop 4).take 4) then ([], 0, 21) else ((l.drop 8).take (num (l.take 4)), 8 + num (l.take 4), 0)) := Lib.hid (by unfold unfR; rw [if_neg (by omega), if_neg (by omega), if_neg hc])
  generalize crc ((l.drop 8).take (num (l.take 4))) = c at *
  generalize num ((l.drop 4).take 4) = d at *
  generalize (l.drop 8).take (num (l.take 4)) = B at *
  generalize num (l.take 4) = n at *
  unfold maxLen at hm
  by_cases he : c = d
  · have HV : Hid (unfR l = (B, 8 + n, 0)) := Lib.hid (by rw [HU.out, if_neg (by simpa using he)])
    subst he
    clear HU
    go_enter Tryz.func126, Tryz.ntmps126
    go_wp2_with (go_at_call 150; refine H4.out.mono ?_; rintro e w' ⟨rfl, rfl⟩)
    go_quiet ((first | (go_at_call 124; exact Calls.quiet_of_same ((HS.out _).mono fun _ _ h => ⟨h.1, h.2.symm⟩)) | (go_at_call 150; exact Calls.quiet_of_same ((HC.out _).mono fun _ _ h => ⟨h.1, h.2.symm⟩))))
    go_wp2
    exact bodyPost_ret (v := .tuple #[.string ((ByteArray.mk l.toArray).extract 8 (8 + n)), .int .i64 (8 + (n : Int)), .int .i64 0]) (by simp [results, Tryz.results126, go_sem]) rfl ⟨by rw [HV.out, HX.out]; rfl, Fr.below ((Fr.refl _ w).drewN nq)⟩
  · have HV : Hid (unfR l = ([], 0, 21)) := Lib.hid (by rw [HU.out, if_pos he])
    have h1 : ((c : Int) == (d : Int)) = false := by simpa using (fun h => he (by omega) : ¬ (c : Int) = d)
    have h2 : ((c : Int) != (d : Int)) = true := by simpa using (fun h => he (by omega) : ¬ (c : Int) = d)
    clear HU he
    go_enter Tryz.func126, Tryz.ntmps126
    go_wp2_with (go_at_call 150; refine H4.out.mono ?_; rintro e w' ⟨rfl, rfl⟩)
    go_quiet ((first | (go_at_call 124; exact Calls.quiet_of_same ((HS.out _).mono fun _ _ h => ⟨h.1, h.2.symm⟩)) | (go_at_call 150; exact Calls.quiet_of_same ((HC.out _).mono fun _ _ h => ⟨h.1, h.2.symm⟩))))
    go_wp2
    exact bodyPost_ret (v := .tuple #[sv [], .int .i64 0, .int .i64 21]) (by simp [results, Tryz.results126, go_sem]) rfl ⟨by rw [HV.out]; rfl, Fr.below ((Fr.refl _ w).drewN nq)⟩
theorem runf_any (l : List UInt8) (w : World) (hm : l.length ≤ maxLen) : Calls Tryz.prog 126 #[sv l] w (Unf l w) := by
  by_cases h1 : l.length < 8
  · exact runf_short l w h1
  by_cases h2 : num (l.take 4) ≤ 65536
  · by_cases h3 : l.length < 8 + num (l.take 4)
    · exact runf_cut l w hm (by omega) h2 h3
    · exact runf_full l w hm (by omega) h2 h3
  · exact runf_size l w hm (by omega) (by omega)

/-! ### the landed Unframe -/
set_option maxRecDepth 100000 in
theorem unf_short (l : List UInt8) (w : World) (hs : l.length < 8) : Calls Tryz.prog 131 #[sv l] w (Unf l w) := by
  have HV : Hid (unfR l = ([], 0, 20)) := Lib.hid (by unfold unfR; rw [if_pos hs])
  go_enter Tryz.func131, Tryz.ntmps131
  go_wp2
  exact bodyPost_ret (v := .tuple #[sv [], .int .i64 0, .int .i64 20]) (by simp [results, Tryz.results131, go_sem]) rfl ⟨by rw [HV.out]; rfl, Below.refl _ _⟩
theorem num_ext (l : List UInt8) (a b : Nat) (hab : b ≤ a + 4) (w : World) : Calls Tryz.prog 154 #[.string ((ByteArray.mk l.toArray).extract a b)] w fun e w' => e = .returned (.int .u64 (num ((l.take b).drop a) : Nat)) ∧ w' = w := by
  have h := number_any ((ByteArray.mk l.toArray).extract a b) w (by rw [ext_size]; simp; omega)
  rw [ext_data] at h
  exact h.mono fun _ _ h => ⟨h.1, h.2.symm⟩
set_option maxRecDepth 100000 in
set_option maxHeartbeats 1000000 in
theorem unf_long (l : List UInt8) (w : World) (hm : l.length ≤ maxLen) (hs : 8 ≤ l.length) : Calls Tryz.prog 131 #[sv l] w (Unf l w) := by
  have H4 : Hid (∀ w, Calls Tryz.prog 154 #[.string ((ByteArray.mk l.toArray).extract 0 4)] w fun e w' => e = .returned (.int .u64 (num ((l.take 4).drop 0) : Nat)) ∧ w' = w) := Lib.hid fun w => num_ext l 0 4 (by omega) w
  have HC : Hid (∀ w, Calls Tryz.prog 154 #[.string ((ByteArray.mk l.toArray).extract 4 8)] w fun e w' => e = .returned (.int .u64 (num ((l.take 8).drop 4) : Nat)) ∧ w' = w) := Lib.hid fun w => num_ext l 4 8 (by omega) w
  rw [List.drop_zero] at H4
  rw [drop4] at HC
  have hb := num4 l
  have HU : Hid (unfR l = if num (l.take 4) > 65536 then ([], 0, 23) else if l.length < 8 + num (l.take 4) then ([], 0, 20) else if crc ((l.drop 8).take (num (l.take 4))) ≠ num ((l.drop 4).take 4) then ([], 0, 21) else ((l.drop 8).take (num (l.take 4)), 8 + num (l.take 4), 0)) := Lib.hid (by unfold unfR; rw [if_neg (by omega)])
  have hk := num4' l
  obtain ⟨n, hn⟩ : ∃ n, num (l.take 4) = n := ⟨_, rfl⟩
  obtain ⟨d, hd⟩ : ∃ d, num ((l.drop 4).take 4) = d := ⟨_, rfl⟩
  rw [hn] at H4 hb HU
  rw [hd] at HC HU hk
  have hrest : (ByteArray.mk l.toArray).extract 8 l.length = ⟨(l.drop 8).toArray⟩ := by rw [ext_list, List.take_length]
  clear hn hd
  unfold maxLen at hm
  go_enter Tryz.func131, Tryz.ntmps131
  go_wp2
  go_quiet ((first | (go_at_call 154; with_reducible exact Calls.quiet_of_same (H4.out _)) | (go_at_call 154; with_reducible exact Calls.quiet_of_same (HC.out _))))
  have hf : Fr No w (w.drewN nq) := (Fr.refl _ w).drewN nq
  obtain ⟨w1, hw1⟩ : ∃ w1, w.drewN nq = w1 := ⟨_, rfl⟩
  rw [hw1] at hf ⊢
  have HF := Lib.hid hf.below
  clear hw1 hf H4 HC hrest hb
  have hlen : (l.drop 8).length = l.length - 8 := by simp
  by_cases h2 : 65536 < n
  · have HV : Hid (unfR l = ([], 0, 23)) := Lib.hid (by rw [HU.out, if_pos h2])
    clear HU hk hlen
    go_wp2
    exact bodyPost_ret (v := .tuple #[sv [], .int .i64 0, .int .i64 23]) (by simp [results, Tryz.results131, go_sem]) rfl ⟨by rw [HV.out]; rfl, HF.out⟩
  by_cases h3 : l.length < 8 + n
  · have HV : Hid (unfR l = ([], 0, 20)) := Lib.hid (by rw [HU.out, if_neg h2, if_pos h3])
    have h3' : (l.drop 8).length < n := by omega
    have hb8 : (l.drop 8).length ≤ 9223372036854775807 := by omega
    clear HU hk hlen
    generalize l.drop 8 = R at *
    go_wp2
    exact bodyPost_ret (v := .tuple #[sv [], .int .i64 0, .int .i64 20]) (by simp [results, Tryz.results131, go_sem]) rfl ⟨by rw [HV.out]; rfl, HF.out⟩
  have hbody : (ByteArray.mk (l.drop 8).toArray).extract 0 n = ⟨((l.drop 8).take n).toArray⟩ := by rw [ext_list, List.drop_zero]
  have h3' : n ≤ (l.drop 8).length := by omega
  have hb8 : (l.drop 8).length ≤ 9223372036854775807 := by omega
  have hlb : ((l.drop 8).take n).length = n := by rw [List.length_take]; omega
  have HS : Hid (∀ w, Calls Tryz.prog 109 #[sv ((l.drop 8).take n)] w fun e w' => e = .returned (.int .u32 (crc ((l.drop 8).take n) : Nat)) ∧ Below w.heap.size w w') := Lib.hid fun w => sum_any ⟨((l.drop 8).take n).toArray⟩ w (by rw [sz, hlb]; unfold maxLen; omega)
  have hcl := crc_lt ((l.drop 8).take n)
  rw [if_neg h2, if_neg h3] at HU
  generalize crc ((l.drop 8).take n) = c at *
  generalize (l.drop 8).take n = B at *
  generalize l.drop 8 = R at *
  have h2' : n ≤ 65536 := by omega
  clear hlen h2 h3
  by_cases he : c = d
  · have HV : Hid (unfR l = (B, 8 + n, 0)) := Lib.hid (by rw [HU.out, if_neg (by simpa using he)])
    have HLB := Lib.hid hlb
    have hlB : B.length ≤ 65536 := by omega
    subst he
    clear HU hlb
    go_wp2_with (go_at_call 109; refine (HS.out _).mono ?_; rintro e w2 ⟨rfl, hb2⟩; have B2 := Lib.hid hb2; clear hb2)
    exact bodyPost_ret (v := .tuple #[sv B, .int .i64 (8 + (B.length : Int)), .int .i64 0]) (by simp [results, Tryz.results131, go_sem]) rfl ⟨by rw [HV.out, HLB.out]; rfl, HF.out.trans (B2.out.mono HF.out.size)⟩
  · have HV : Hid (unfR l = ([], 0, 21)) := Lib.hid (by rw [HU.out, if_pos he])
    have h1 : ((c : Int) == (d : Int)) = false := by simpa using (fun h => he (by omega) : ¬ (c : Int) = d)
    have h2 : ((c : Int) != (d : Int)) = true := by simpa using (fun h => he (by omega) : ¬ (c : Int) = d)
    clear HU he hlb
    go_wp2_with (go_at_call 109; refine (HS.out _).mono ?_; rintro e w2 ⟨rfl, hb2⟩; have B2 := Lib.hid hb2; clear hb2)
    exact bodyPost_ret (v := .tuple #[sv [], .int .i64 0, .int .i64 21]) (by simp [results, Tryz.results131, go_sem]) rfl ⟨by rw [HV.out]; rfl, HF.out.trans (B2.out.mono HF.out.size)⟩
theorem unf_any (l : List UInt8) (w : World) (hm : l.length ≤ maxLen) : Calls Tryz.prog 131 #[sv l] w (Unf l w) := by
  by_cases h1 : l.length < 8
  · exact unf_short l w h1
  · exact unf_long l w hm (by omega)
end Go.Proofs.YtpeafckomahjgaaGreatDoor
