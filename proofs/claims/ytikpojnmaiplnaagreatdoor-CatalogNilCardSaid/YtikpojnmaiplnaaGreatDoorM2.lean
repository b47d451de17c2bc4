/- The document's Num; the landed Sum; frames made and taken apart, both ways. -/
import Derived.Test.YtikpojnmaiplnaaGreatDoorM1
import Derived.Lib.ItoaMem
import Derived.Lib.AppendIntMem
import Derived.Lib.AtoiAllCases
import Derived.WalkSmall
import Derived.Lib.QuietBelow
namespace Go.Proofs.YtikpojnmaiplnaaGreatDoor
open Go.RowKit Go.Maps
set_option linter.unusedVariables false

section
variable {ops : Array Oper} {rest : List Oper} {o : Oper} {a : Act} {Q : Exit → Act → World → Prop} {w : World}
theorem wpList_add (hgd : o.guard = none) (sl x : Operand) (t1 t2 : TypeId) (ho : o.op = .call { callee := .builtin .append, args := #[sl, x], argTypes := #[t1, t2] })
    (v v' xv : Value) (w1 : World) (hs : a.eval sl = v) (hx : a.eval x = xv) (hr : (Builtin.append_ #[t1, t2] o.type #[v, xv]).run Tryz.prog w = .ok v' w1)
    (h : wpList Tryz.prog ops Q rest (a.put o.dst v') w1) : wpList Tryz.prog ops Q (o :: rest) a w := by
  refine wpList_plain hgd fun K hK => ?_
  unfold Oper.wp execOp
  simp only [ho, resolve, invoke, builtin, Sem.run_bind, Sem.run_pure, Result.andThen_ok, List.map_toArray, List.map_cons, List.map_nil, hs, hx, hr]
  exact hK _ _ h
end

theorem RowB.ge {w w' : World} {B : Nat} {v v' : Value} (h : ∀ k, v.ownBlock = some k → B ≤ k) (hB : B ≤ w.heap.size) (hv : ∀ k, v'.ownBlock = some k → v.ownBlock = some k ∨ k = w.heap.size) : ∀ k, v'.ownBlock = some k → B ≤ k := by
  intro k hk
  rcases hv k hk with e | e
  · exact h k e
  · omega

/-- A byte of one's own, laid ahead of an append. -/
theorem RowB.run_more {w : World} {v : Value} {l : List UInt8} (h : RowB w v l) (x : UInt8) (hlen : l.length + 1 ≤ 1000000000000) :
    ∃ A c w', (∀ ty, (Builtin.append_ #[65, 65] ty #[v, .slice (some ⟨w.heap.size, 0, none⟩) 1 1]).run Tryz.prog (w.alloc (.cells #[byteV x] 5)) = .ok (.slice A (l.length + 1) c) w') ∧ RowB w' (.slice A (l.length + 1) c) (l ++ [x]) ∧
      (∀ F : Nat → Prop, (∀ k, v.ownBlock = some k → F k) → (∀ k, w.heap.size ≤ k → F k) → Fr F w w') ∧ (∀ k, (Value.slice A (l.length + 1) c).ownBlock = some k → v.ownBlock = some k ∨ w.heap.size ≤ k) := by
  have hr : RowB (w.alloc (.cells #[byteV x] 5)) v l := h.of fun k hk => Below.heap_alloc w _ k (h.lt hk)
  have hc : (w.alloc (.cells #[byteV x] 5)).cell? ⟨w.heap.size, 0, none⟩ = some (byteV x) := (Blk.new w 5 #[byteV x]).cell 0
  obtain ⟨v', w', hr1, hr2, hr3, hr4⟩ := hr.run_add x 0 ⟨w.heap.size, 0, none⟩ 1 hc hlen
  obtain ⟨A, c, rfl⟩ := hr2.len
  have hl : (l ++ [x]).length = l.length + 1 := by simp
  rw [hl] at hr1 hr2 hr4
  refine ⟨A, c, w', fun ty => ?_, hr2, fun F h1 h2 => ?_, fun k hk => ?_⟩
  · exact hr1
  · exact ((Fr.refl F w).alloc _).grown hr3 fun k hk _ => h1 k hk
  · rcases hr4 k hk with e | e
    · exact .inl e
    · exact .inr (by simp at e; omega)

theorem byte_of (n j : Nat) : (.int .u8 ((((n / 256 ^ j : Nat) : Int)) % 256) : Value) = byteV (UInt8.ofNat (n / 256 ^ j % 256)) := by
  unfold byteV
  congr 1
  simp
theorem shift_div (n j : Nat) : ((n / 256 ^ j : Nat) : Int) / 256 = ((n / 256 ^ (j + 1) : Nat) : Int) := by
  rw [Nat.pow_succ, ← Nat.div_div_eq_div_mul]; omega

set_option maxRecDepth 100000 in
set_option maxHeartbeats 1000000 in
theorem Num_any (n k : Nat) (w : World) (hn : n < 2 ^ 64) (hk : k ≤ 8) :
    Calls Tryz.prog 38 #[.int .u64 (n : Int), .int .i64 (k : Int)] w (Low n k w) := by
  obtain ⟨s0, hs0⟩ : ∃ s0, w.heap.size = s0 := ⟨_, rfl⟩
  have HS := Lib.hid hs0
  clear hs0
  go_enter Tryz.func38, Tryz.ntmps38
  go_wp2
  go_loopw [0, 5, 6] (fun x v i wr => ∃ j : Nat, ∃ A c, j ≤ k ∧ i = .int .i64 j ∧ x = .int .u64 ((n / 256 ^ j : Nat) : Int) ∧ v = .slice A j c ∧ RowB wr (.slice A j c) (low n j) ∧ (∀ b, (Value.slice A j c).ownBlock = some b → w.heap.size ≤ b) ∧ Below w.heap.size w wr) (fun _ _ i _ => k - (intOf i).toNat)
  case atStart => exact ⟨0, none, 0, by omega, rfl, by simp, rfl, RowB.nil _, by simp [Value.ownBlock], Below.refl _ _⟩
  case round =>
    obtain ⟨j, A, c, hj, rfl, rfl, rfl, hrow, hown, hbl⟩ := hrel
    by_cases hlt : j < k
    · obtain ⟨A', c', w1, hr1, hr2, hr3, hr4⟩ := hrow.run_more (UInt8.ofNat (n / 256 ^ j % 256)) (by rw [low_len]; omega)
      rw [← low_snoc, low_len] at hr2
      rw [low_len] at hr1 hr4
      have hb1 : Below w.heap.size w w1 := by
        have hf : Fr (fun b => w.heap.size ≤ b) w w1 := (Fr.of_below hbl).any.trans (hr3 (fun b => w.heap.size ≤ b) hown fun b hb => Nat.le_trans hbl.size hb) fun _ _ h => h
        exact hf.below_of (Nat.le_refl _) fun _ h => h
      have HB := Lib.hid hb1
      have hown1 : ∀ b, (Value.slice A' (j + 1) c').ownBlock = some b → w.heap.size ≤ b := by
        intro b hb
        rcases hr4 b hb with e | e
        · exact hown b e
        · exact Nat.le_trans hbl.size e
      have HO := Lib.hid hown1
      have HR2 := Lib.hid hr2
      rw [← byte_of] at hr1
      have HR := Lib.hid hr1
      have HD := Lib.hid (shift_div n j)
      have hml : n / 256 ^ j < 2 ^ 64 := Nat.lt_of_le_of_lt (Nat.div_le_self _ _) hn
      clear hb1 hown1 hr2 hr3 hr4 hr1 hown hbl hrow
      generalize n / 256 ^ j = m at *
      go_wp2_with (at_builtin; refine wpList_add rfl _ _ _ _ rfl _ _ _ _ rfl rfl (HR.out _) ?_)
      go_roundw
      case rel => exact ⟨j + 1, A', c', by omega, by go_num, by rw [HD.out], by go_num, HR2.out, HO.out, HB.out⟩
      case measure => simp [intOf]; omega
    · obtain rfl : j = k := by omega
      have hcv := hrow.run_conv
      have HB := Lib.hid hbl
      clear hrow hbl hown
      go_wp2
      go_ret
      exact ⟨rfl, HB.out⟩

/-! ### the landed Sum -/
def SumB (l : List UInt8) (w : World) (e : Ending) (w' : World) : Prop := e = .returned (.int .u32 (crc l : Nat)) ∧ Below w.heap.size w w'
theorem fresh_alloc (w : World) : TabAt (w.alloc (.cells fresh 222)) w.heap.size := .inl (Blk.new w 222 _)
set_option maxRecDepth 100000 in
set_option maxHeartbeats 1000000 in
theorem sum_any (s : ByteArray) (w : World) (hs : s.size ≤ maxLen) :
    Calls Tryz.prog 150 #[.string s] w (SumB s.data.toList w) := by
  have HT := Lib.hid (tsum_any w.heap.size s (w.alloc (.cells fresh 222)) hs (fresh_alloc w))
  have HF : Hid (Fr (One w.heap.size) w (w.alloc (.cells fresh 222))) := Lib.hid ((Fr.refl _ w).alloc _)
  go_enter Tryz.func150, Tryz.ntmps150
  go_wp2_with (go_at_call 179; refine HT.out.mono ?_; rintro e w' ⟨rfl, hb, hf⟩)
  go_ret
  exact ⟨rfl, (HF.out.trans hf fun _ _ h => h).below_of (Nat.le_refl _) fun k hk => Nat.le_of_eq hk.symm⟩
end Go.Proofs.YtikpojnmaiplnaaGreatDoor
/- Frames made, both ways. -/
namespace Go.Proofs.YtikpojnmaiplnaaGreatDoor
open Go.RowKit Go.Maps
set_option linter.unusedVariables false

/-- A text of bytes. -/
abbrev sv (l : List UInt8) : Value := .string ⟨l.toArray⟩
theorem run_cat (l m : List UInt8) (h : l.length + m.length ≤ 9223372036854775807) (w : World) : (Op.stringOp .add ⟨l.toArray⟩ ⟨m.toArray⟩).run Tryz.prog w = .ok (.string ⟨(l ++ m).toArray⟩) w := by
  rw [run_string_add_sum w _ _ (by simpa [ByteArray.size] using h), ByteArray.mk_append_mk]
theorem sz (l : List UInt8) : (ByteArray.mk l.toArray).size = l.length := by simp [ByteArray.size]

def frameR (l : List UInt8) : List UInt8 := low l.length 4 ++ low (crc l) 4 ++ l
def frameV (l : List UInt8) : Value := if l.length > 65536 then .tuple #[.string ByteArray.empty, .int .i64 23] else .tuple #[sv (frameR l), .int .i64 0]
def Framed (l : List UInt8) (w : World) (e : Ending) (w' : World) : Prop := e = .returned (frameV l) ∧ Below w.heap.size w w'
theorem frameV_ok {l : List UInt8} (h : l.length ≤ 65536) : frameV l = .tuple #[sv (frameR l), .int .i64 0] := by unfold frameV; rw [if_neg (by omega)]
theorem frameV_no {l : List UInt8} (h : ¬ l.length ≤ 65536) : frameV l = .tuple #[.string ByteArray.empty, .int .i64 23] := by unfold frameV; rw [if_pos (by omega)]

set_option maxRecDepth 100000 in
set_option maxHeartbeats 1000000 in
theorem frame_ok (l : List UInt8) (w : World) (hs : l.length ≤ 65536) : Calls Tryz.prog 134 #[sv l] w (Framed l w) := by
  have hc := crc_lt l
  have HS : Hid (∀ w, Calls Tryz.prog 150 #[sv l] w (SumB l w)) := Lib.hid fun w => sum_any ⟨l.toArray⟩ w (by rw [sz]; unfold maxLen; omega)
  have HL : Hid (∀ w, Calls Tryz.prog 137 #[.int .u64 (l.length : Int), .int .i64 4] w (Low l.length 4 w)) := Lib.hid fun w => low_any l.length 4 w (by omega) (by omega)
  have HC : Hid (∀ w, Calls Tryz.prog 137 #[.int .u64 (crc l : Nat), .int .i64 4] w (Low (crc l) 4 w)) := Lib.hid fun w => low_any _ 4 w (by omega) (by omega)
  have HV := Lib.hid (frameV_ok hs)
  obtain ⟨A, hA⟩ : ∃ A, low l.length 4 = A := ⟨_, rfl⟩
  obtain ⟨B, hB⟩ : ∃ B, low (crc l) 4 = B := ⟨_, rfl⟩
  obtain ⟨X, hX⟩ : ∃ X, A ++ B = X := ⟨_, rfl⟩
  obtain ⟨Y, hY⟩ : ∃ Y, X ++ l = Y := ⟨_, rfl⟩
  have hla : A.length = 4 := by rw [← hA, low_len]
  have hlb : B.length = 4 := by rw [← hB, low_len]
  have hcat1 : ∀ w0, (Op.stringOp .add ⟨A.toArray⟩ ⟨B.toArray⟩).run Tryz.prog w0 = .ok (.string ⟨X.toArray⟩) w0 := fun w0 => by rw [run_cat _ _ (by omega), hX]
  have hcat2 : ∀ w0, (Op.stringOp .add ⟨X.toArray⟩ ⟨l.toArray⟩).run Tryz.prog w0 = .ok (.string ⟨Y.toArray⟩) w0 := fun w0 => by rw [run_cat _ _ (by rw [← hX]; simp; omega), hY]
  have HF : Hid (frameR l = Y) := Lib.hid (by unfold frameR; rw [hA, hB, hX, hY])
  unfold Low at HL HC
  unfold SumB at HS
  rw [hA] at HL
  rw [hB] at HC
  clear hA hB hX hY hla hlb
  generalize crc l = c at *
  go_enter Tryz.func134, Tryz.ntmps134
  go_wp2_with (first | (go_at_call 137; first | ((with_reducible refine (HL.out _).mono ?_); rintro e w1 ⟨rfl, hb1⟩; have B1 := Lib.hid hb1; clear hb1) | ((with_reducible refine (HC.out _).mono ?_); rintro e w3 ⟨rfl, hb3⟩; have B3 := Lib.hid hb3; clear hb3)) | (go_at_call 150; refine (HS.out _).mono ?_; rintro e w2 ⟨rfl, hb2⟩; have B2 := Lib.hid hb2; clear hb2))
  go_ret2
  exact ⟨by rw [HV.out, HF.out]; rfl, B1.out.trans (B2.out.mono B1.out.size) |>.trans (B3.out.mono (Nat.le_trans B1.out.size B2.out.size))⟩
set_option maxRecDepth 100000 in
theorem frame_no (l : List UInt8) (w : World) (hm : l.length ≤ maxLen) (hs : ¬ l.length ≤ 65536) : Calls Tryz.prog 134 #[sv l] w (Framed l w) := by
  have HV := Lib.hid (frameV_no hs)
  unfold maxLen at hm
  have hg : 65536 < l.length := by omega
  clear hs
  go_enter Tryz.func134, Tryz.ntmps134
  go_wp2
  go_ret2
  exact ⟨by rw [HV.out]; rfl, Below.refl _ _⟩
theorem frame_any (l : List UInt8) (w : World) (hm : l.length ≤ maxLen) : Calls Tryz.prog 134 #[sv l] w (Framed l w) := by
  by_cases hs : l.length ≤ 65536
  · exact frame_ok l w hs
  · exact frame_no l w hm hs
end Go.Proofs.YtikpojnmaiplnaaGreatDoor
/- The document's frames; frames taken apart, both ways. -/
namespace Go.Proofs.YtikpojnmaiplnaaGreatDoor
open Go.RowKit Go.Maps
set_option linter.unusedVariables false

set_option maxRecDepth 100000 in
set_option maxHeartbeats 1000000 in
theorem rframe_ok (l : List UInt8) (w : World) (hs : l.length ≤ 65536) : Calls Tryz.prog 32 #[sv l] w (Framed l w) := by
  have hc := crc_lt l
  have HS : Hid (∀ w, Calls Tryz.prog 76 #[sv l] w fun e w' => e = .returned (.int .u32 (crc l : Nat)) ∧ w = w') := Lib.hid fun w => rsum_any ⟨l.toArray⟩ w (by rw [sz]; unfold maxLen; omega)
  have HL : Hid (∀ w, Calls Tryz.prog 38 #[.int .u64 (l.length : Int), .int .i64 4] w (Low l.length 4 w)) := Lib.hid fun w => Num_any l.length 4 w (by omega) (by omega)
  have HC : Hid (∀ w, Calls Tryz.prog 38 #[.int .u64 (crc l : Nat), .int .i64 4] w (Low (crc l) 4 w)) := Lib.hid fun w => Num_any _ 4 w (by omega) (by omega)
  have HV := Lib.hid (frameV_ok hs)
  obtain ⟨A, hA⟩ : ∃ A, low l.length 4 = A := ⟨_, rfl⟩
  obtain ⟨B, hB⟩ : ∃ B, low (crc l) 4 = B := ⟨_, rfl⟩
  obtain ⟨X, hX⟩ : ∃ X, A ++ B = X := ⟨_, rfl⟩
  obtain ⟨Y, hY⟩ : ∃ Y, X ++ l = Y := ⟨_, rfl⟩
  have hla : A.length = 4 := by rw [← hA, low_len]
  have hlb : B.length = 4 := by rw [← hB, low_len]
  have hcat1 : ∀ w0, (Op.stringOp .add ⟨A.toArray⟩ ⟨B.toArray⟩).run Tryz.prog w0 = .ok (.string ⟨X.toArray⟩) w0 := fun w0 => by rw [run_cat _ _ (by omega), hX]
  have hcat2 : ∀ w0, (Op.stringOp .add ⟨X.toArray⟩ ⟨l.toArray⟩).run Tryz.prog w0 = .ok (.string ⟨Y.toArray⟩) w0 := fun w0 => by rw [run_cat _ _ (by rw [← hX]; simp; omega), hY]
  have HF : Hid (frameR l = Y) := Lib.hid (by unfold frameR; rw [hA, hB, hX, hY])
  unfold Low at HL HC
  rw [hA] at HL
  rw [hB] at HC
  clear hA hB hX hY hla hlb
  generalize crc l = c at *
  go_enter Tryz.func32, Tryz.ntmps32
  go_wp2_with (first | (go_at_call 38; first | ((with_reducible refine (HL.out _).mono ?_); rintro e w1 ⟨rfl, hb1⟩; have B1 := Lib.hid hb1; clear hb1) | ((with_reducible refine (HC.out _).mono ?_); rintro e w3 ⟨rfl, hb3⟩; have B3 := Lib.hid hb3; clear hb3)) | (go_at_call 76; refine (HS.out _).mono ?_; rintro e w2 ⟨rfl, rfl⟩))
  go_ret2
  exact ⟨by rw [HV.out, HF.out]; rfl, B1.out.trans (B3.out.mono B1.out.size)⟩
set_option maxRecDepth 100000 in
theorem rframe_no (l : List UInt8) (w : World) (hm : l.length ≤ maxLen) (hs : ¬ l.length ≤ 65536) : Calls Tryz.prog 32 #[sv l] w (Framed l w) := by
  have HV := Lib.hid (frameV_no hs)
  unfold maxLen at hm
  have hg : 65536 < l.length := by omega
  clear hs
  go_enter Tryz.func32, Tryz.ntmps32
  go_wp2
  go_ret2
  exact ⟨by rw [HV.out]; rfl, Below.refl _ _⟩
theorem rframe_any (l : List UInt8) (w : World) (hm : l.length ≤ maxLen) : Calls Tryz.prog 32 #[sv l] w (Framed l w) := by
  by_cases hs : l.length ≤ 65536
  · exact rframe_ok l w hs
  · exact rframe_no l w hm hs

/-! ### frames taken apart -/
/-- body, how many bytes, the error -/
def unfR (l : List UInt8) : List UInt8 × Nat × Int :=
  if l.length < 8 then ([], 0, 20)
  else if num (l.take 4) > 65536 then ([], 0, 23)
  else if l.length < 8 + num (l.take 4) then ([], 0, 20)
  else if crc ((l.drop 8).take (num (l.take 4))) ≠ num ((l.drop 4).take 4) then ([], 0, 21)
  else ((l.drop 8).take (num (l.take 4)), 8 + num (l.take 4), 0)
def Unf (l : List UInt8) (w : World) (e : Ending) (w' : World) : Prop := e = .returned (.tuple #[sv (unfR l).1, .int .i64 ((unfR l).2.1 : Nat), .int .i64 (unfR l).2.2]) ∧ Below w.heap.size w w'
theorem ext_list (l : List UInt8) (a b : Nat) : (ByteArray.mk l.toArray).extract a b = ⟨((l.take b).drop a).toArray⟩ := by
  apply ByteArray.ext
  apply Array.ext'
  rw [ByteArray.data_extract, Array.toList_extract]
  simp [List.extract, List.drop_take]
set_option maxRecDepth 100000 in
theorem runf_short (l : List UInt8) (w : World) (hs : l.length < 8) : Calls Tryz.prog 47 #[sv l] w (Unf l w) := by
  have HV : Hid (unfR l = ([], 0, 20)) := Lib.hid (by unfold unfR; rw [if_pos hs])
  go_enter Tryz.func47, Tryz.ntmps47
  go_wp2
  exact bodyPost_ret (v := .tuple #[sv [], .int .i64 0, .int .i64 20]) (by simp [results, Tryz.results47, go_sem]) rfl ⟨by rw [HV.out]; rfl, Below.refl _ _⟩
theorem ext_size (l : List UInt8) (a b : Nat) : ((ByteArray.mk l.toArray).extract a b).size = ((l.take b).drop a).length := by rw [ext_list, sz]
theorem ext_data (l : List UInt8) (a b : Nat) : ((ByteArray.mk l.toArray).extract a b).data.toList = (l.take b).drop a := by rw [ext_list]
/-- What the walks need of a text of eight bytes at least. -/
theorem of_ext (l : List UInt8) (a b : Nat) (hab : b ≤ a + 4) (w : World) : Calls Tryz.prog 97 #[.string ((ByteArray.mk l.toArray).extract a b)] w fun e w' => e = .returned (.int .u64 (num ((l.take b).drop a) : Nat)) ∧ w = w' := by
  have h := of_any ((ByteArray.mk l.toArray).extract a b) w (by rw [ext_size]; simp; omega)
  rwa [ext_data] at h
theorem num4 (l : List UInt8) : num (l.take 4) < 4294967296 := by
  have h1 := num_lt (l.take 4)
  have h2 : 256 ^ (l.take 4).length ≤ 256 ^ 4 := Nat.pow_le_pow_right (by decide) (by simp; omega)
  omega
theorem num4' (l : List UInt8) : num ((l.drop 4).take 4) < 4294967296 := num4 _
theorem drop4 (l : List UInt8) : (l.take 8).drop 4 = (l.drop 4).take 4 := by rw [List.drop_take]

set_option maxRecDepth 100000 in
theorem runf_size (l : List UInt8) (w : World) (hm : l.length ≤ maxLen) (hs : 8 ≤ l.length) (hn : 65536 < num (l.take 4)) : Calls Tryz.prog 47 #[sv l] w (Unf l w) := by
  have HV : Hid (unfR l = ([], 0, 23)) := Lib.hid (by unfold unfR; rw [if_neg (by omega), if_pos hn])
  have H4 := Lib.hid (of_ext l 0 4 (by omega) w)
  rw [List.drop_zero] at H4
  have hb := num4 l
  generalize num (l.take 4) = n at *
  unfold maxLen at hm
  go_enter Tryz.func47, Tryz.ntmps47
  go_wp2_with (go_at_call 97; refine H4.out.mono ?_; rintro e w' ⟨rfl, rfl⟩)
  exact bodyPost_ret (v := .tuple #[sv [], .int .i64 0, .int .i64 23]) (by simp [results, Tryz.results47, go_sem]) rfl ⟨by rw [HV.out]; rfl, Below.refl _ _⟩
set_option maxRecDepth 100000 in
theorem runf_cut (l : List UInt8) (w : World) (hm : l.length ≤ maxLen) (hs : 8 ≤ l.length) (hn : num (l.take 4) ≤ 65536) (hc : l.length < 8 + num (l.take 4)) : Calls Tryz.prog 47 #[sv l] w (Unf l w) := by
  have HV : Hid (unfR l = ([], 0, 20)) := Lib.hid (by unfold unfR; rw [if_neg (by omega), if_neg (by omega), if_pos hc])
  have H4 := Lib.hid (of_ext l 0 4 (by omega) w)
  rw [List.drop_zero] at H4
  generalize num (l.take 4) = n at *
  unfold maxLen at hm
  go_enter Tryz.func47, Tryz.ntmps47
  go_wp2_with (go_at_call 97; refine H4.out.mono ?_; rintro e w' ⟨rfl, rfl⟩)
  exact bodyPost_ret (v := .tuple #[sv [], .int .i64 0, .int .i64 20]) (by simp [results, Tryz.results47, go_sem]) rfl ⟨by rw [HV.out]; rfl, Below.refl _ _⟩
set_option maxRecDepth 100000 in
set_option maxHeartbeats 1000000 in
theorem runf_full (l : List UInt8) (w : World) (hm : l.length ≤ maxLen) (hs : 8 ≤ l.length) (hn : num (l.take 4) ≤ 65536) (hc : ¬ l.length < 8 + num (l.take 4)) : Calls Tryz.prog 47 #[sv l] w (Unf l w) := by
  have H4 := Lib.hid (of_ext l 0 4 (by omega) w)
  rw [List.drop_zero] at H4
  have HC : Hid (∀ w, Calls Tryz.prog 97 #[.string ((ByteArray.mk l.toArray).extract 4 8)] w fun e w' => e = .returned (.int .u64 (num ((l.take 8).drop 4) : Nat)) ∧ w = w') := Lib.hid fun w => of_ext l 4 8 (by omega) w
  have HS : Hid (∀ w, Calls Tryz.prog 76 #[.string ((ByteArray.mk l.toArray).extract 8 (8 + num (l.take 4)))] w fun e w' => e = .returned (.int .u32 (crc ((l.drop 8).take (num (l.take 4))) : Nat)) ∧ w = w') := Lib.hid fun w => by
    have h := rsum_any ((ByteArray.mk l.toArray).extract 8 (8 + num (l.take 4))) w (by rw [ext_size]; unfold maxLen; simp; omega)
    rwa [ext_data, List.drop_take, Nat.add_sub_cancel_left] at h
  rw [drop4] at HC
  have hk := num4' l
  have hcl := crc_lt ((l.drop 8).take (num (l.take 4)))
  have HX : Hid ((ByteArray.mk l.toArray).extract 8 (8 + num (l.take 4)) = ⟨((l.drop 8).take (num (l.take 4))).toArray⟩) := Lib.hid (by rw [ext_list, List.drop_take, Nat.add_sub_cancel_left])
  have HU : Hid (unfR l = if crc ((l.drop 8).take (num (l.take 4))) ≠ num ((l.drop 4).take 4) then ([], 0, 21) else ((l.drop 8).take (num (l.take 4)), 8 + num (l.take 4), 0)) := Lib.hid (by unfold unfR; rw [if_neg (by omega), if_neg (by omega), if_neg hc])
  generalize crc ((l.drop 8).take (num (l.take 4))) = c at *
  generalize num ((l.drop 4).take 4) = d at *
  generalize (l.drop 8).take (num (l.take 4)) = B at *
  generalize num (l.take 4) = n at *
  unfold maxLen at hm
  by_cases he : c = d
  · have HV : Hid (unfR l = (B, 8 + n, 0)) := Lib.hid (by rw [HU.out, if_neg (by simpa using he)])
    subst he
    clear HU
    go_enter Tryz.func47, Tryz.ntmps47
    go_wp2_with (go_at_call 97; refine H4.out.mono ?_; rintro e w' ⟨rfl, rfl⟩)
    go_quiet ((first | (go_at_call 76; exact Calls.quiet_of_same ((HS.out _).mono fun _ _ h => ⟨h.1, h.2.symm⟩)) | (go_at_call 97; exact Calls.quiet_of_same ((HC.out _).mono fun _ _ h => ⟨h.1, h.2.symm⟩))))
    go_wp2
    exact bodyPost_ret (v := .tuple #[.string ((ByteArray.mk l.toArray).extract 8 (8 + n)), .int .i64 (8 + (n : Int)), .int .i64 0]) (by simp [results, Tryz.results47, go_sem]) rfl ⟨by rw [HV.out, HX.out]; rfl, Fr.below ((Fr.refl _ w).drewN nq)⟩
  · have HV : Hid (unfR l = ([], 0, 21)) := Lib.hid (by rw [HU.out, if_pos he])
    have h1 : ((c : Int) == (d : Int)) = false := by simpa using (fun h => he (by omega) : ¬ (c : Int) = d)
    have h2 : ((c : Int) != (d : Int)) = true := by simpa using (fun h => he (by omega) : ¬ (c : Int) = d)
    clear HU he
    go_enter Tryz.func47, Tryz.ntmps47
    go_wp2_with (go_at_call 97; refine H4.out.mono ?_; rintro e w' ⟨rfl, rfl⟩)
    go_quiet ((first | (go_at_call 76; exact Calls.quiet_of_same ((HS.out _).mono fun _ _ h => ⟨h.1, h.2.symm⟩)) | (go_at_call 97; exact Calls.quiet_of_same ((HC.out _).mono fun _ _ h => ⟨h.1, h.2.symm⟩))))
    go_wp2
    exact bodyPost_ret (v := .tuple #[sv [], .int .i64 0, .int .i64 21]) (by simp [results, Tryz.results47, go_sem]) rfl ⟨by rw [HV.out]; rfl, Fr.below ((Fr.refl _ w).drewN nq)⟩
theorem runf_any (l : List UInt8) (w : World) (hm : l.length ≤ maxLen) : Calls Tryz.prog 47 #[sv l] w (Unf l w) := by
  by_cases h1 : l.length < 8
  · exact runf_short l w h1
  by_cases h2 : num (l.take 4) ≤ 65536
  · by_cases h3 : l.length < 8 + num (l.take 4)
    · exact runf_cut l w hm (by omega) h2 h3
    · exact runf_full l w hm (by omega) h2 h3
  · exact runf_size l w hm (by omega) (by omega)

/-! ### the landed Unframe -/
set_option maxRecDepth 100000 in
theorem unf_short (l : List UInt8) (w : World) (hs : l.length < 8) : Calls Tryz.prog 86 #[sv l] w (Unf l w) := by
  have HV : Hid (unfR l = ([], 0, 20)) := Lib.hid (by unfold unfR; rw [if_pos hs])
  go_enter Tryz.func86, Tryz.ntmps86
  go_wp2
  exact bodyPost_ret (v := .tuple #[sv [], .int .i64 0, .int .i64 20]) (by simp [results, Tryz.results86, go_sem]) rfl ⟨by rw [HV.out]; rfl, Below.refl _ _⟩
theorem num_ext (l : List UInt8) (a b : Nat) (hab : b ≤ a + 4) (w : World) : Calls Tryz.prog 92 #[.string ((ByteArray.mk l.toArray).extract a b)] w fun e w' => e = .returned (.int .u64 (num ((l.take b).drop a) : Nat)) ∧ w' = w := by
  have h := number_any ((ByteArray.mk l.toArray).extract a b) w (by rw [ext_size]; simp; omega)
  rw [ext_data] at h
  exact h.mono fun _ _ h => ⟨h.1, h.2.symm⟩
set_option maxRecDepth 100000 in
set_option maxHeartbeats 1000000 in
theorem unf_long (l : List UInt8) (w : World) (hm : l.length ≤ maxLen) (hs : 8 ≤ l.length) : Calls Tryz.prog 86 #[sv l] w (Unf l w) := by
  have H4 : Hid (∀ w, Calls Tryz.prog 92 #[.string ((ByteArray.mk l.toArray).extract 0 4)] w fun e w' => e = .returned (.int .u64 (num ((l.take 4).drop 0) : Nat)) ∧ w' = w) := Lib.hid fun w => num_ext l 0 4 (by omega) w
  have HC : Hid (∀ w, Calls Tryz.prog 92 #[.string ((ByteArray.mk l.toArray).extract 4 8)] w fun e w' => e = .returned (.int .u64 (num ((l.take 8).drop 4) : Nat)) ∧ w' = w) := Lib.hid fun w => num_ext l 4 8 (by omega) w
  rw [List.drop_zero] at H4
  rw [drop4] at HC
  have hb := num4 l
  have HU : Hid (unfR l = if num (l.take 4) > 65536 then ([], 0, 23) else if l.length < 8 + num (l.take 4) then ([], 0, 20) else if crc ((l.drop 8).take (num (l.take 4))) ≠ num ((l.drop 4).take 4) then ([], 0, 21) else ((l.drop 8).take (num (l.take 4)), 8 + num (l.take 4), 0)) := Lib.hid (by unfold unfR; rw [if_neg (by omega)])
  have hk := num4' l
  obtain ⟨n, hn⟩ : ∃ n, num (l.take 4) = n := ⟨_, rfl⟩
  obtain ⟨d, hd⟩ : ∃ d, num ((l.drop 4).take 4) = d := ⟨_, rfl⟩
  rw [hn] at H4 hb HU
  rw [hd] at HC HU hk
  have hrest : (ByteArray.mk l.toArray).extract 8 l.length = ⟨(l.drop 8).toArray⟩ := by rw [ext_list, List.take_length]
  clear hn hd
  unfold maxLen at hm
  go_enter Tryz.func86, Tryz.ntmps86
  go_wp2
  go_quiet ((first | (go_at_call 92; with_reducible exact Calls.quiet_of_same (H4.out _)) | (go_at_call 92; with_reducible exact Calls.quiet_of_same (HC.out _))))
  have hf : Fr No w (w.drewN nq) := (Fr.refl _ w).drewN nq
  obtain ⟨w1, hw1⟩ : ∃ w1, w.drewN nq = w1 := ⟨_, rfl⟩
  rw [hw1] at hf ⊢
  have HF := Lib.hid hf.below
  clear hw1 hf H4 HC hrest hb
  have hlen : (l.drop 8).length = l.length - 8 := by simp
  by_cases h2 : 65536 < n
  · have HV : Hid (unfR l = ([], 0, 23)) := Lib.hid (by rw [HU.out, if_pos h2])
    clear HU hk hlen
    go_wp2
    exact bodyPost_ret (v := .tuple #[sv [], .int .i64 0, .int .i64 23]) (by simp [results, Tryz.results86, go_sem]) rfl ⟨by rw [HV.out]; rfl, HF.out⟩
  by_cases h3 : l.length < 8 + n
  · have HV : Hid (unfR l = ([], 0, 20)) := Lib.hid (by rw [HU.out, if_neg h2, if_pos h3])
    have h3' : (l.drop 8).length < n := by omega
    have hb8 : (l.drop 8).length ≤ 9223372036854775807 := by omega
    clear HU hk hlen
    generalize l.drop 8 = R at *
    go_wp2
    exact bodyPost_ret (v := .tuple #[sv [], .int .i64 0, .int .i64 20]) (by simp [results, Tryz.results86, go_sem]) rfl ⟨by rw [HV.out]; rfl, HF.out⟩
  have hbody : (ByteArray.mk (l.drop 8).toArray).extract 0 n = ⟨((l.drop 8).take n).toArray⟩ := by rw [ext_list, List.drop_zero]
  have h3' : n ≤ (l.drop 8).length := by omega
  have hb8 : (l.drop 8).length ≤ 9223372036854775807 := by omega
  have hlb : ((l.drop 8).take n).length = n := by rw [List.length_take]; omega
  have HS : Hid (∀ w, Calls Tryz.prog 150 #[sv ((l.drop 8).take n)] w fun e w' => e = .returned (.int .u32 (crc ((l.drop 8).take n) : Nat)) ∧ Below w.heap.size w w') := Lib.hid fun w => sum_any ⟨((l.drop 8).take n).toArray⟩ w (by rw [sz, hlb]; unfold maxLen; omega)
  have hcl := crc_lt ((l.drop 8).take n)
  rw [if_neg h2, if_neg h3] at HU
  generalize crc ((l.drop 8).take n) = c at *
  generalize (l.drop 8).take n = B at *
  generalize l.drop 8 = R at *
  have h2' : n ≤ 65536 := by omega
  clear hlen h2 h3
  by_cases he : c = d
  · have HV : Hid (unfR l = (B, 8 + n, 0)) := Lib.hid (by rw [HU.out, if_neg (by simpa using he)])
    have HLB := Lib.hid hlb
    have hlB : B.length ≤ 65536 := by omega
    subst he
    clear HU hlb
    go_wp2_with (go_at_call 150; refine (HS.out _).mono ?_; rintro e w2 ⟨rfl, hb2⟩; have B2 := Lib.hid hb2; clear hb2)
    exact bodyPost_ret (v := .tuple #[sv B, .int .i64 (8 + (B.length : Int)), .int .i64 0]) (by simp [results, Tryz.results86, go_sem]) rfl ⟨by rw [HV.out, HLB.out]; rfl, HF.out.trans (B2.out.mono HF.out.size)⟩
  · have HV : Hid (unfR l = ([], 0, 21)) := Lib.hid (by rw [HU.out, if_pos he])
    have h1 : ((c : Int) == (d : Int)) = false := by simpa using (fun h => he (by omega) : ¬ (c : Int) = d)
    have h2 : ((c : Int) != (d : Int)) = true := by simpa using (fun h => he (by omega) : ¬ (c : Int) = d)
    clear HU he hlb
    go_wp2_with (go_at_call 150; refine (HS.out _).mono ?_; rintro e w2 ⟨rfl, hb2⟩; have B2 := Lib.hid hb2; clear hb2)
    exact bodyPost_ret (v := .tuple #[sv [], .int .i64 0, .int .i64 21]) (by simp [results, Tryz.results86, go_sem]) rfl ⟨by rw [HV.out]; rfl, HF.out.trans (B2.out.mono HF.out.size)⟩
theorem unf_any (l : List UInt8) (w : World) (hm : l.length ≤ maxLen) : Calls Tryz.prog 86 #[sv l] w (Unf l w) := by
  by_cases h1 : l.length < 8
  · exact unf_short l w h1
  · exact unf_long l w hm (by omega)
end Go.Proofs.YtikpojnmaiplnaaGreatDoor
/- A writer in memory, nil too: stopped, fail, lay, Done. -/
namespace Go.Proofs.YtikpojnmaiplnaaGreatDoor
open Go.RowKit Go.Maps
set_option linter.unusedVariables false

/-- A writer: what was laid down, what was first wrong. -/
structure WS where
  data : List UInt8
  fault : Int
def WS.zero : WS := ⟨[], 0⟩
/-- as of a nil one nothing comes -/
def WS.none : WS := ⟨[], 1⟩
def WS.fail (S : WS) (e : Int) : WS := if S.fault = 0 then ⟨[], e⟩ else S
def WS.lay (S : WS) (m : List UInt8) : WS := if S.fault = 0 then (if m.length + S.data.length > 65536 then ⟨[], 23⟩ else ⟨S.data ++ m, 0⟩) else S

/-- a writer's pointer -/
def wpt (p : Option Nat) : Value := .pointer (p.map fun g => ⟨g, 0, Option.none⟩)
theorem wpt_some (g : Nat) : wpt (some g) = .pointer (some ⟨g, 0, Option.none⟩) := rfl
/-- How it lies: v is its row. -/
structure WAt (w : World) (p : Option Nat) (v : Value) (S : WS) : Prop where
  blk : ∀ g, p = some g → Blk w g 78 #[v, .int .i64 S.fault]
  row : RowB w v S.data
  nil : p = none → S = WS.none ∧ v = .slice none 0 0
  len : S.data.length ≤ 65536
/-- the blocks that are its own -/
def WFt (p : Option Nat) (v : Value) (k : Nat) : Prop := p = some k ∨ v.ownBlock = some k
/-- What a call may do beside it: nothing. -/
structure WL (p : Option Nat) (v : Value) (w : World) (v' : Value) (w' : World) : Prop where
  fr : Fr (WFt p v) w w'
  own : ∀ k, v'.ownBlock = some k → v.ownBlock = some k ∨ w.heap.size ≤ k

theorem WL.refl (p : Option Nat) (v : Value) (w : World) : WL p v w v w := ⟨Fr.refl _ _, fun _ h => .inl h⟩
theorem WL.trans {p : Option Nat} {v v1 v2 : Value} {w w1 w2 : World} (h : WL p v w v1 w1) (k : WL p v1 w1 v2 w2) : WL p v w v2 w2 :=
  ⟨h.fr.trans k.fr fun j hj hf => by
      rcases hf with e | e
      · exact .inl e
      · rcases h.own j e with e' | e'
        · exact .inr e'
        · omega,
   fun j hj => by
      rcases k.own j hj with e | e
      · exact h.own j e
      · exact .inr (Nat.le_trans h.fr.size e)⟩
theorem WL.below {p : Option Nat} {v : Value} {w w' : World} (h : Below w.heap.size w w') : WL p v w v w' := ⟨(Fr.of_below h).any, fun _ h => .inl h⟩
theorem WL.alloc {p : Option Nat} {v v' : Value} {w w' : World} (h : WL p v w v' w') (o : Obj) : WL p v w v' (w'.alloc o) := ⟨h.fr.alloc o, h.own⟩
theorem WL.alloc0 (p : Option Nat) (v : Value) (w : World) (o : Obj) : WL p v w v (w.alloc o) := (WL.refl p v w).alloc o
theorem WL.drewN {p : Option Nat} {v v' : Value} {w w' : World} (h : WL p v w v' w') (n : Nat) : WL p v w v' (w'.drewN n) := ⟨h.fr.drewN n, h.own⟩

theorem WAt.of {w w' : World} {p : Option Nat} {v : Value} {S : WS} (h : WAt w p v S) (hk : ∀ k, WFt p v k → w'.heap[k]? = w.heap[k]?) : WAt w' p v S :=
  ⟨fun g e => (h.blk g e).of (hk g (.inl e)), h.row.of fun k e => hk k (.inr e), h.nil, h.len⟩
theorem WAt.lt {w : World} {p : Option Nat} {v : Value} {S : WS} (h : WAt w p v S) : ∀ k, WFt p v k → k < w.heap.size := by
  rintro k (e | e)
  · exact (h.blk k e).lt
  · exact h.row.lt e
theorem WAt.below {w w' : World} {p : Option Nat} {v : Value} {S : WS} (h : WAt w p v S) (hb : Below w.heap.size w w') : WAt w' p v S := h.of fun k hk => hb.block k (h.lt k hk)
theorem WAt.keep {w w' : World} {p : Option Nat} {v : Value} {S : WS} (h : WAt w p v S) (hb : Fr No w w') : WAt w' p v S := h.of fun k hk => hb.block k (h.lt k hk) id
theorem WAt.alloc {w : World} {p : Option Nat} {v : Value} {S : WS} (h : WAt w p v S) (o : Obj) : WAt (w.alloc o) p v S := h.keep ((Fr.refl _ w).alloc o)
theorem WAt.new (w : World) : WAt (w.alloc (.cells #[.slice none 0 0, .int .i64 0] 78)) (some w.heap.size) (.slice none 0 0) WS.zero :=
  ⟨fun g e => by injection e with e; subst e; exact Blk.new w 78 _, RowB.nil _, fun e => (by cases e), by simp [WS.zero]⟩
theorem WAt.nilw (w : World) : WAt w none (.slice none 0 0) WS.none := ⟨fun g e => (by cases e), RowB.nil _, fun _ => ⟨rfl, rfl⟩, by simp [WS.none]⟩

/-- A call of a writer. -/
def WP (p : Option Nat) (v : Value) (w : World) (S' : WS) (e : Ending) (w' : World) : Prop := e = .returned (.tuple #[]) ∧ ∃ v', WAt w' p v' S' ∧ WL p v w v' w'

/-! ### stopped -/
theorem wstop_any (p : Option Nat) (v : Value) (S : WS) (w : World) (h : WAt w p v S) :
    Calls Tryz.prog 140 #[wpt p] w fun e w' => e = .returned (.bool (S.fault != 0)) ∧ w = w' := by
  cases p with
  | none =>
    obtain ⟨rfl, _⟩ := h.nil rfl
    unfold wpt
    go_enter Tryz.func140, Tryz.ntmps140
    go_wp2
    go_ret
    exact ⟨rfl, rfl⟩
  | some g =>
    have c1 : w.cell? ⟨g, 1, none⟩ = some (.int .i64 S.fault) := (h.blk g rfl).cell 1
    clear h
    rw [wpt_some]
    go_enter Tryz.func140, Tryz.ntmps140
    go_wp2
    go_ret
    exact ⟨rfl, rfl⟩
theorem wstop_no (p : Option Nat) (v : Value) (S : WS) (w : World) (h : WAt w p v S) (h0 : S.fault = 0) : Calls Tryz.prog 140 #[wpt p] w fun e w' => e = .returned (.bool false) ∧ w = w' := by
  have := wstop_any p v S w h
  rwa [h0] at this
theorem wstop_yes (p : Option Nat) (v : Value) (S : WS) (w : World) (h : WAt w p v S) (h0 : S.fault ≠ 0) : Calls Tryz.prog 140 #[wpt p] w fun e w' => e = .returned (.bool true) ∧ w = w' := by
  have := wstop_any p v S w h
  rwa [show (S.fault != 0) = true by simpa using h0] at this

/-! ### fail -/
theorem wfail_any (p : Option Nat) (v : Value) (S : WS) (n : Int) (w : World) (h : WAt w p v S) : Calls Tryz.prog 139 #[wpt p, .int .i64 n] w (WP p v w (S.fail n)) := by
  have hnot : ∀ (x : Bool) (w : World), (Op.unary .not (.bool x)).run Tryz.prog w = .ok (.bool (!x)) w := fun _ _ => rfl
  by_cases h0 : S.fault = 0
  · have HS := Lib.hid (wstop_no p v S w h h0)
    have HV : Hid (S.fail n = ⟨[], n⟩) := Lib.hid (by unfold WS.fail; rw [if_pos h0])
    obtain ⟨g, rfl⟩ : ∃ g, p = some g := by
      cases p with
      | none => obtain ⟨rfl, _⟩ := h.nil rfl; cases h0
      | some g => exact ⟨g, rfl⟩
    have hb := h.blk g rfl
    have c0 : w.cell? ⟨g, 0, none⟩ = some v := hb.cell 0
    have c1 : w.cell? ⟨g, 1, none⟩ = some (.int .i64 S.fault) := hb.cell 1
    have f0 := hb.frozen 0
    have f1 := hb.frozen 1
    have HB := Lib.hid hb
    clear h hb h0
    rw [wpt_some] at HS ⊢
    go_enter Tryz.func139, Tryz.ntmps139
    go_wp2_with (go_at_call 140; refine HS.out.mono ?_; rintro e w' ⟨rfl, rfl⟩)
    go_end0
    refine ⟨rfl, .slice none 0 0, ?_, ?_⟩
    · rw [HV.out]
      exact ⟨fun k e => by injection e with e; subst e; exact (HB.out.set_ 0 _).set_ 1 _, RowB.nil _, fun e => by (cases e), by simp⟩
    · exact ⟨((Fr.refl _ w).setCell (p := ⟨g, 0, none⟩) (fun _ => .inl rfl) _).setCell (p := ⟨g, 1, none⟩) (fun _ => .inl rfl) _, fun k e => by simp [Value.ownBlock] at e⟩
  · have HS := Lib.hid (wstop_yes p v S w h h0)
    have HV : Hid (S.fail n = S) := Lib.hid (by unfold WS.fail; rw [if_neg h0])
    have H := Lib.hid h
    clear h h0
    generalize wpt p = P at *
    go_enter Tryz.func139, Tryz.ntmps139
    go_wp2_with (go_at_call 140; refine HS.out.mono ?_; rintro e w' ⟨rfl, rfl⟩)
    go_end0
    exact ⟨rfl, v, by rw [HV.out]; exact H.out, WL.refl _ _ _⟩

/-! ### lay -/
theorem lay_no (p : Option Nat) (v : Value) (S : WS) (m : List UInt8) (w : World) (h : WAt w p v S) (h0 : S.fault ≠ 0) : Calls Tryz.prog 136 #[wpt p, sv m] w (WP p v w (S.lay m)) := by
  have HS := Lib.hid (wstop_yes p v S w h h0)
  have HV : Hid (S.lay m = S) := Lib.hid (by unfold WS.lay; rw [if_neg h0])
  have H := Lib.hid h
  clear h h0
  generalize wpt p = P at *
  go_enter Tryz.func136, Tryz.ntmps136
  go_wp2_with (go_at_call 140; refine HS.out.mono ?_; rintro e w' ⟨rfl, rfl⟩)
  go_end0
  exact ⟨rfl, v, by rw [HV.out]; exact H.out, WL.refl _ _ _⟩

set_option maxHeartbeats 400000 in
theorem lay_full (g : Nat) (v : Value) (S : WS) (m : List UInt8) (w : World) (h : WAt w (some g) v S) (h0 : S.fault = 0) (hm : m.length ≤ maxLen) (hf : 65536 < m.length + S.data.length) : Calls Tryz.prog 136 #[wpt (some g), sv m] w (WP (some g) v w (S.lay m)) := by
  have HS := Lib.hid (wstop_no _ v S w h h0)
  have HV : Hid (S.lay m = S.fail 23) := Lib.hid (by unfold WS.lay WS.fail; rw [if_pos h0, if_pos h0, if_pos (by omega)])
  have HF := Lib.hid (wfail_any _ v S 23 w h)
  have hl := h.len
  obtain ⟨A, c, rfl⟩ := h.row.len
  have c0 : w.cell? ⟨g, 0, none⟩ = some (.slice A S.data.length c) := (h.blk g rfl).cell 0
  clear h h0
  unfold maxLen at hm
  rw [wpt_some] at HS HF ⊢
  generalize S.data.length = n at *
  go_enter Tryz.func136, Tryz.ntmps136
  go_wp2_with (first | (go_at_call 140; refine HS.out.mono ?_; rintro e w' ⟨rfl, rfl⟩) | (go_at_call 139; refine HF.out.mono ?_; rintro e w' ⟨rfl, v', h1, h2⟩))
  go_end0
  exact ⟨rfl, v', by rw [HV.out]; exact h1, h2⟩
set_option maxHeartbeats 400000 in
theorem lay_ok (g : Nat) (v : Value) (S : WS) (m : List UInt8) (w : World) (h : WAt w (some g) v S) (h0 : S.fault = 0) (hf : m.length + S.data.length ≤ 65536) : Calls Tryz.prog 136 #[wpt (some g), sv m] w (WP (some g) v w (S.lay m)) := by
  have HS := Lib.hid (wstop_no _ v S w h h0)
  have HV : Hid (S.lay m = ⟨S.data ++ m, 0⟩) := Lib.hid (by unfold WS.lay; rw [if_pos h0, if_neg (by omega)])
  obtain ⟨v', w', hr, hrow, hgr, hown⟩ := h.row.run_put m 0 (by omega)
  obtain ⟨A', c', rfl⟩ := hrow.len
  have hb := h.blk g rfl
  have hne : ∀ k, v.ownBlock = some k → k ≠ g := by
    rintro k hk rfl
    obtain ⟨cur, hc⟩ := h.row.block hk
    exact Blk.ne_ (w := w) (t := 5) hc hb (by decide) rfl
  have hb' : Blk w' g 78 #[v, .int .i64 S.fault] := hb.of (hgr.block g hb.lt fun e => hne g e.symm rfl)
  have hfr : Fr (WFt (some g) v) w w' := (Fr.refl _ w).grown hgr fun k hk _ => .inr hk
  have hrow' : RowB (w'.setCell ⟨g, 0, none⟩ (.slice A' (S.data ++ m).length c')) (.slice A' (S.data ++ m).length c') (S.data ++ m) := hrow.of fun k hk => Below.heap_setCell w' ⟨g, 0, none⟩ (.slice A' (S.data ++ m).length c') k (by
    rcases hown k hk with e | e
    · exact hne k e
    · intro e2
      have e3 : k = g := e2
      have := hb.lt; omega)
  have hb0 : Blk (w'.setCell ⟨g, 0, none⟩ (.slice A' (S.data ++ m).length c')) g 78 #[.slice A' (S.data ++ m).length c', .int .i64 0] := by have := hb'.set_ 0 (.slice A' (S.data ++ m).length c'); rw [h0] at this; exact this
  have hle : (S.data ++ m).length ≤ 65536 := by rw [List.length_append]; omega
  obtain ⟨w2, hw2⟩ : ∃ w2, w'.setCell ⟨g, 0, none⟩ (.slice A' (S.data ++ m).length c') = w2 := ⟨_, rfl⟩
  have hfr2 : Fr (WFt (some g) v) w w2 := by rw [← hw2]; exact hfr.setCell (p := ⟨g, 0, none⟩) (fun _ => .inl rfl) _
  rw [hw2] at hrow' hb0
  have hwat : WAt w2 (some g) (.slice A' (S.data ++ m).length c') ⟨S.data ++ m, 0⟩ := by
    refine ⟨?_, ?_, ?_, ?_⟩
    · intro k e
      obtain rfl : g = k := Option.some.inj e
      exact hb0
    · exact hrow'
    · intro e; cases e
    · exact hle
  have H1 := Lib.hid hwat
  have H2 : Hid (WL (some g) v w (.slice A' (S.data ++ m).length c') w2) := Lib.hid ⟨hfr2, hown⟩
  have HW := Lib.hid hw2
  have hl := h.len
  obtain ⟨A, c, rfl⟩ := h.row.len
  have HR : Hid (∀ ty, (Builtin.append_ #[65, 9] ty #[.slice A S.data.length c, .string ⟨m.toArray⟩]).run Tryz.prog w = .ok (.slice A' (S.data ++ m).length c') w') := Lib.hid fun ty => hr
  have c0 : w.cell? ⟨g, 0, none⟩ = some (.slice A S.data.length c) := hb.cell 0
  have d0 : w'.cell? ⟨g, 0, none⟩ = some (.slice A S.data.length c) := hb'.cell 0
  have z0 := hb'.frozen 0
  clear h h0 hr hrow hgr hown hb hne hb' hfr hrow' hb0 hle hfr2 hw2 hwat
  rw [wpt_some] at HS ⊢
  generalize S.data.length = n at *
  generalize (S.data ++ m).length = n' at *
  go_enter Tryz.func136, Tryz.ntmps136
  go_wp2_with (first | (go_at_call 140; refine HS.out.mono ?_; rintro e w' ⟨rfl, rfl⟩) | (at_builtin; refine wpList_add rfl _ _ _ _ rfl _ _ _ _ rfl rfl (HR.out _) ?_; clear c0))
  go_end0
  exact ⟨rfl, _, by rw [HV.out, HW.out]; exact H1.out, by rw [HW.out]; exact H2.out⟩
theorem wlay_any (p : Option Nat) (v : Value) (S : WS) (m : List UInt8) (w : World) (h : WAt w p v S) (hm : m.length ≤ maxLen) : Calls Tryz.prog 136 #[wpt p, sv m] w (WP p v w (S.lay m)) := by
  by_cases h0 : S.fault = 0
  · obtain ⟨g, rfl⟩ : ∃ g, p = some g := by
      cases p with
      | none => obtain ⟨rfl, _⟩ := h.nil rfl; cases h0
      | some g => exact ⟨g, rfl⟩
    by_cases hf : m.length + S.data.length ≤ 65536
    · exact lay_ok g v S m w h h0 hf
    · exact lay_full g v S m w h h0 hm (by omega)
  · exact lay_no p v S m w h h0

/-! ### Done -/
def WDone (S : WS) (w : World) (e : Ending) (w' : World) : Prop := e = .returned (.tuple #[sv S.data, .int .i64 S.fault]) ∧ Fr No w w'
set_option maxHeartbeats 400000 in
theorem wdone_any (p : Option Nat) (v : Value) (S : WS) (w : World) (h : WAt w p v S) : Calls Tryz.prog 133 #[wpt p] w (WDone S w) := by
  cases p with
  | none =>
    obtain ⟨rfl, _⟩ := h.nil rfl
    unfold wpt
    go_enter Tryz.func133, Tryz.ntmps133
    go_wp2
    go_ret2
    exact ⟨rfl, Fr.refl _ _⟩
  | some g =>
    have hb := h.blk g rfl
    have c0 : w.cell? ⟨g, 0, none⟩ = some v := hb.cell 0
    have c1 : w.cell? ⟨g, 1, none⟩ = some (.int .i64 S.fault) := hb.cell 1
    have hcv : ∀ n, (convert 65 9 v).run Tryz.prog (w.drewN n) = .ok (sv S.data) (w.drewN n) := fun n => (h.row.of (w' := w.drewN n) fun _ _ => rfl).run_conv
    clear h hb
    rw [wpt_some]
    go_enter Tryz.func133, Tryz.ntmps133
    go_wp2
    go_quiet (fail)
    go_wp2
    go_ret2
    exact ⟨rfl, (Fr.refl _ w).drewN nq⟩
end Go.Proofs.YtikpojnmaiplnaaGreatDoor
/- A writer lays down bytes, numbers, counts, texts, cells. -/
namespace Go.Proofs.YtikpojnmaiplnaaGreatDoor
open Go.RowKit Go.Maps
set_option linter.unusedVariables false

/-- an int64's eight bytes -/
def enc8 (n : Int) : List UInt8 := low (n % 18446744073709551616).toNat 8
def WS.int (S : WS) (n : Int) : WS := S.lay (enc8 n)
def WS.byte (S : WS) (b : Nat) : WS := S.lay (low b 1)
def WS.count (S : WS) (n : Int) : WS := if n < 0 ∨ n > 4294967295 then S.fail 1 else S.lay (low n.toNat 4)
def WS.text (S : WS) (m : List UInt8) : WS := (S.count m.length).lay m

theorem WP.then {p : Option Nat} {v v1 : Value} {w w1 : World} {S' : WS} {e : Ending} {w' : World} (h : WL p v w v1 w1) (k : WP p v1 w1 S' e w') : WP p v w S' e w' := by
  obtain ⟨he, v', h1, h2⟩ := k
  exact ⟨he, v', h1, h.trans h2⟩
theorem low_max (n k : Nat) (hk : k ≤ 8) : (low n k).length ≤ maxLen := by rw [low_len]; unfold maxLen; omega

set_option maxHeartbeats 400000 in
theorem wint_any (p : Option Nat) (v : Value) (S : WS) (n : Int) (w : World) (h : WAt w p v S) : Calls Tryz.prog 79 #[wpt p, .int .i64 n] w (WP p v w (S.int n)) := by
  have hk : IntKind.u64.wrap n = (((n % 18446744073709551616).toNat : Nat) : Int) := by rw [IntKind.wrap_u64]; omega
  have HL := Lib.hid (low_any (n % 18446744073709551616).toNat 8 w (by omega) (by omega))
  have H := Lib.hid h
  have HV : Hid (S.int n = S.lay (low (n % 18446744073709551616).toNat 8)) := Lib.hid rfl
  clear h
  generalize (n % 18446744073709551616).toNat = k at *
  generalize hP : wpt p = P at *
  have HP := Lib.hid hP
  clear hP
  go_enter Tryz.func79, Tryz.ntmps79
  go_wp2_with (first
    | (go_at_call 137; refine HL.out.mono ?_; rintro e w1 ⟨rfl, hb1⟩; have B1 := Lib.hid hb1; clear hb1)
    | (go_at_call 136; rw [← HP.out]; refine (wlay_any p v S (low k 8) _ (H.out.below B1.out) (low_max _ _ (by omega))).mono ?_; rintro e w2 ⟨rfl, v', h1, h2⟩))
  go_end0
  exact ⟨rfl, v', by rw [HV.out]; exact h1, (WL.below B1.out).trans h2⟩
set_option maxHeartbeats 400000 in
theorem wcount_ok (p : Option Nat) (v : Value) (S : WS) (n : Int) (w : World) (h : WAt w p v S) (h0 : 0 ≤ n) (h1 : n ≤ 4294967295) : Calls Tryz.prog 81 #[wpt p, .int .i64 n] w (WP p v w (S.count n)) := by
  obtain ⟨k, rfl⟩ := Int.eq_ofNat_of_zero_le h0
  have hk : k ≤ 4294967295 := by omega
  have HL := Lib.hid (low_any k 4 w (by omega) (by omega))
  have H := Lib.hid h
  have HV : Hid (S.count (k : Int) = S.lay (low k 4)) := Lib.hid (by unfold WS.count; rw [if_neg (by omega)]; rfl)
  have hd : decide ((k : Int) < 0) = false := by simp
  clear h h0 h1
  generalize hP : wpt p = P at *
  have HP := Lib.hid hP
  clear hP
  go_enter Tryz.func81, Tryz.ntmps81
  go_wp2_with (first
    | (go_at_call 137; refine HL.out.mono ?_; rintro e w1 ⟨rfl, hb1⟩; have B1 := Lib.hid hb1; clear hb1)
    | (go_at_call 136; rw [← HP.out]; refine (wlay_any p v S (low k 4) _ (H.out.below B1.out) (low_max _ _ (by omega))).mono ?_; rintro e w2 ⟨rfl, v', h1, h2⟩))
  go_end0
  exact ⟨rfl, v', by rw [HV.out]; exact h1, (WL.below B1.out).trans h2⟩
set_option maxHeartbeats 400000 in
theorem wcount_no (p : Option Nat) (v : Value) (S : WS) (n : Int) (w : World) (h : WAt w p v S) (hn : n < 0 ∨ n > 4294967295) : Calls Tryz.prog 81 #[wpt p, .int .i64 n] w (WP p v w (S.count n)) := by
  have HF := Lib.hid (wfail_any p v S 1 w h)
  have HV : Hid (S.count n = S.fail 1) := Lib.hid (by unfold WS.count; rw [if_pos hn])
  clear h
  generalize wpt p = P at *
  rcases hn with hn | hn
  · have hd : decide (n < 0) = true := by simpa using hn
    clear hn
    go_enter Tryz.func81, Tryz.ntmps81
    go_wp2_with (go_at_call 139; refine HF.out.mono ?_; rintro e w' ⟨rfl, v', h1, h2⟩)
    go_end0
    exact ⟨rfl, v', by rw [HV.out]; exact h1, h2⟩
  · have hd : decide (n < 0) = false := by simp; omega
    have hd2 : decide (4294967295 < n) = true := by simpa using hn
    clear hn
    go_enter Tryz.func81, Tryz.ntmps81
    go_wp2_with (go_at_call 139; refine HF.out.mono ?_; rintro e w' ⟨rfl, v', h1, h2⟩)
    go_end0
    exact ⟨rfl, v', by rw [HV.out]; exact h1, h2⟩
theorem wcount_any (p : Option Nat) (v : Value) (S : WS) (n : Int) (w : World) (h : WAt w p v S) : Calls Tryz.prog 81 #[wpt p, .int .i64 n] w (WP p v w (S.count n)) := by
  by_cases hn : n < 0 ∨ n > 4294967295
  · exact wcount_no p v S n w h hn
  · exact wcount_ok p v S n w h (by omega) (by omega)
set_option maxHeartbeats 400000 in
theorem wtext_any (p : Option Nat) (v : Value) (S : WS) (m : List UInt8) (w : World) (h : WAt w p v S) (hm : m.length ≤ maxLen) : Calls Tryz.prog 168 #[wpt p, sv m] w (WP p v w (S.text m)) := by
  have HC := Lib.hid (wcount_any p v S (m.length : Int) w h)
  have HM := Lib.hid hm
  clear h hm
  generalize hP : wpt p = P at *
  have HP := Lib.hid hP
  clear hP
  go_enter Tryz.func168, Tryz.ntmps168
  go_wp2_with (first
    | (go_at_call 81; refine HC.out.mono ?_; rintro e w1 ⟨rfl, v1, h1, h2⟩; have H1 := Lib.hid h1; have H2 := Lib.hid h2; clear h1 h2)
    | (go_at_call 136; rw [← HP.out]; refine (wlay_any p v1 (S.count m.length) m _ H1.out HM.out).mono ?_; rintro e w2 ⟨rfl, v', h1, h2⟩))
  go_end0
  exact ⟨rfl, v', h1, H2.out.trans h2⟩
end Go.Proofs.YtikpojnmaiplnaaGreatDoor
/- Rows of things that came in; cells laid down; texts and numbers in a row. -/
namespace Go.Proofs.YtikpojnmaiplnaaGreatDoor
open Go.RowKit Go.Maps
set_option linter.unusedVariables false

/-! ### rows of anything -/
theorem cell_of_heap {w w' : World} {g o : Nat} (h : w'.heap[g]? = w.heap[g]?) : w'.cell? ⟨g, o, none⟩ = w.cell? ⟨g, o, none⟩ := by
  simp [World.cell?, h]
/-- v reads as l: elements of so many cells, in blocks of which K speaks. -/
def RowE {α : Type} (K : Nat → Prop) (w : World) (size : Nat) (E : α → List Value → Prop) (v : Value) (l : List α) : Prop :=
  ∃ A c, v = .slice A l.length c ∧ l.length ≤ maxLen ∧ (0 < l.length → ∃ g off, A = some ⟨g, off, none⟩ ∧ K g ∧ ∀ j (h : j < l.length), ∃ cs : List Value, cs.length = size ∧ (∀ i, i < size → w.cell? ⟨g, off + j * size + i, none⟩ = cs[i]?) ∧ E l[j] cs)
theorem RowE.of {α : Type} {K : Nat → Prop} {w w' : World} {size : Nat} {E E' : α → List Value → Prop} {v : Value} {l : List α} (h : RowE K w size E v l) (hk : ∀ k, K k → w'.heap[k]? = w.heap[k]?) (hE : ∀ x cs, E x cs → E' x cs) : RowE K w' size E' v l := by
  obtain ⟨A, c, e, hm, h⟩ := h
  refine ⟨A, c, e, hm, fun hl => ?_⟩
  obtain ⟨g, off, e1, hg, h⟩ := h hl
  refine ⟨g, off, e1, hg, fun j hj => ?_⟩
  obtain ⟨cs, h1, h2, h3⟩ := h j hj
  exact ⟨cs, h1, fun i hi => by rw [cell_of_heap (hk g hg)]; exact h2 i hi, hE _ _ h3⟩
theorem RowE.mono {α : Type} {K K' : Nat → Prop} {w : World} {size : Nat} {E : α → List Value → Prop} {v : Value} {l : List α} (h : RowE K w size E v l) (hk : ∀ k, K k → K' k) : RowE K' w size E v l := by
  obtain ⟨A, c, e, hm, h⟩ := h
  refine ⟨A, c, e, hm, fun hl => ?_⟩
  obtain ⟨g, off, e1, hg, h⟩ := h hl
  exact ⟨g, off, e1, hk g hg, h⟩
theorem RowE.nil {α : Type} (K : Nat → Prop) (w : World) (size : Nat) (E : α → List Value → Prop) (c : Nat) : RowE K w size E (.slice none 0 c) [] := ⟨none, c, rfl, by simp, fun h => absurd h (by simp)⟩

def strE (s : List UInt8) (cs : List Value) : Prop := cs = [sv s] ∧ s.length ≤ maxLen
def i64 (n : Int) : Prop := -9223372036854775808 ≤ n ∧ n ≤ 9223372036854775807
def intE (n : Int) (cs : List Value) : Prop := cs = [.int .i64 n] ∧ i64 n
structure CellP where
  kind : Int
  int : Int
  text : List UInt8
def CellP.val (c : CellP) : Value := .agg #[.int .i64 c.kind, .int .i64 c.int, sv c.text]
def CellP.Ok (c : CellP) : Prop := i64 c.kind ∧ i64 c.int ∧ c.text.length ≤ maxLen
def cellE (c : CellP) (cs : List Value) : Prop := cs = [.int .i64 c.kind, .int .i64 c.int, sv c.text] ∧ c.Ok
/-- A cell that may be. -/
def CellP.may (c : CellP) : Bool := (c.kind == 0 && c.int == 0 && c.text.isEmpty) || (c.kind == 1 && c.text.isEmpty) || (c.kind == 2 && c.int == 0)

/-! ### a cell laid down -/
def WS.cell (S : WS) (c : CellP) : WS :=
  if c.may then (if c.kind = 1 then (S.byte 1).int c.int else if c.kind = 2 then (S.byte 2).text c.text else S.byte 0) else S.fail 1
theorem may_kind {c : CellP} (h : c.may = true) : c.kind = 0 ∨ c.kind = 1 ∨ c.kind = 2 := by
  unfold CellP.may at h
  simp only [Bool.or_eq_true, Bool.and_eq_true, beq_iff_eq] at h
  omega
end Go.Proofs.YtikpojnmaiplnaaGreatDoor
/- A writer lays down rows: texts, numbers, cells, facts; a schema. -/
namespace Go.Proofs.YtikpojnmaiplnaaGreatDoor
open Go.RowKit Go.Maps
set_option linter.unusedVariables false

/-! ### behind the first error nothing more is laid down -/
theorem WS.lay_stop {S : WS} (h : S.fault ≠ 0) (m : List UInt8) : S.lay m = S := by unfold WS.lay; rw [if_neg h]
theorem WS.fail_stop {S : WS} (h : S.fault ≠ 0) (n : Int) : S.fail n = S := by unfold WS.fail; rw [if_neg h]
theorem WS.count_stop {S : WS} (h : S.fault ≠ 0) (n : Int) : S.count n = S := by unfold WS.count; split; exact WS.fail_stop h _; exact WS.lay_stop h _
theorem WS.text_stop {S : WS} (h : S.fault ≠ 0) (m : List UInt8) : S.text m = S := by unfold WS.text; rw [WS.count_stop h, WS.lay_stop h]
theorem WS.int_stop {S : WS} (h : S.fault ≠ 0) (n : Int) : S.int n = S := WS.lay_stop h _
theorem WS.byte_stop {S : WS} (h : S.fault ≠ 0) (n : Nat) : S.byte n = S := WS.lay_stop h _
theorem WS.cell_stop {S : WS} (h : S.fault ≠ 0) (c : CellP) : S.cell c = S := by
  unfold WS.cell
  rw [WS.byte_stop h, WS.byte_stop h, WS.byte_stop h, WS.fail_stop h, WS.int_stop h, WS.text_stop h]
  split <;> (try split) <;> (try split) <;> rfl
theorem fold_stop {α : Type} (f : WS → α → WS) (hf : ∀ S x, S.fault ≠ 0 → f S x = S) {S : WS} (h : S.fault ≠ 0) : ∀ l : List α, l.foldl f S = S
  | [] => rfl
  | x :: l => by rw [List.foldl_cons, hf S x h]; exact fold_stop f hf h l
/-- A row laid down. -/
def WS.row {α : Type} (f : WS → α → WS) (S : WS) (l : List α) : WS := l.foldl f (S.count l.length)
theorem row_stop {α : Type} (f : WS → α → WS) (hf : ∀ S x, S.fault ≠ 0 → f S x = S) {S : WS} (h : S.fault ≠ 0) (l : List α) : S.row f l = S := by
  unfold WS.row; rw [WS.count_stop h]; exact fold_stop f hf h l
/-- what is left of a row once it was stopped -/
theorem row_cut {α : Type} (f : WS → α → WS) (hf : ∀ S x, S.fault ≠ 0 → f S x = S) (S : WS) (l : List α) (j : Nat) (h : ((l.take j).foldl f (S.count l.length)).fault ≠ 0) : S.row f l = (l.take j).foldl f (S.count l.length) := by
  unfold WS.row
  conv => lhs; rw [← List.take_append_drop j l]
  rw [List.foldl_append, fold_stop f hf (by simpa using h)]
  simp
theorem fold_snoc {α : Type} (f : WS → α → WS) (S : WS) (l : List α) (j : Nat) (h : j < l.length) : (l.take (j + 1)).foldl f S = f ((l.take j).foldl f S) l[j] := by
  rw [List.take_succ_eq_append_getElem h, List.foldl_append]; rfl

/-- Blocks that were there, and are none of the writer's. -/
def Off (p : Option Nat) (v : Value) (w : World) (K : Nat → Prop) : Prop := ∀ k, K k → k < w.heap.size ∧ ¬ WFt p v k
theorem Off.wl {p : Option Nat} {v v1 : Value} {w w1 : World} {K : Nat → Prop} (h : Off p v w K) (l : WL p v w v1 w1) : Off p v1 w1 K := fun k hk => by
  obtain ⟨h1, h2⟩ := h k hk
  refine ⟨Nat.lt_of_lt_of_le h1 l.fr.size, fun e => ?_⟩
  rcases e with e | e
  · exact h2 (.inl e)
  · rcases l.own k e with e' | e'
    · exact h2 (.inr e')
    · omega
theorem Off.same {p : Option Nat} {v v1 : Value} {w w1 : World} {K : Nat → Prop} (h : Off p v w K) (l : WL p v w v1 w1) : ∀ k, K k → w1.heap[k]? = w.heap[k]? := fun k hk => l.fr.block k (h k hk).1 (h k hk).2

set_option maxRecDepth 100000 in
set_option maxHeartbeats 1000000 in
theorem wtexts_row (p : Option Nat) (v : Value) (S : WS) (K : Nat → Prop) (vl : Value) (l : List (List UInt8)) (w : World) (h : WAt w p v S) (hr : RowE K w 1 strE vl l) (hk : Off p v w K) :
    Calls Tryz.prog 174 #[wpt p, vl, .func (.func 168) #[wpt p] #[]] w (WP p v w (S.row WS.text l)) := by
  obtain ⟨A, c, rfl, hm, hel⟩ := hr
  have HC := Lib.hid (wcount_any p v S (l.length : Int) w h)
  have HK := Lib.hid hk
  have HE := Lib.hid hel
  unfold maxLen at hm
  clear h hk hel
  obtain ⟨n, hn⟩ : ∃ n, l.length = n := ⟨_, rfl⟩
  rw [hn] at hm
  have HN := Lib.hid hn
  have hcs : Hid (S.count (l.length : Int) = S.count (n : Int)) := Lib.hid (by rw [hn])
  rw [hn] at HC ⊢
  clear hn
  generalize hP : wpt p = P at *
  have HP := Lib.hid hP
  clear hP
  go_enter Tryz.func174, Tryz.ntmps174
  go_wp2_with fail
  refine HC.out.mono ?_
  rintro e w1 ⟨rfl, v1, h1, l1⟩
  have H1 := Lib.hid h1
  have L1 := Lib.hid l1
  clear h1 l1
  go_wp2
  go_loopw [14] (fun i wr => ∃ j : Nat, ∃ v2, j ≤ n ∧ i = .int .i64 j ∧ WAt wr p v2 ((l.take j).foldl WS.text (S.count n)) ∧ WL p v w v2 wr) (fun i _ => n - (intOf i).toNat)
  case atStart => exact ⟨0, v1, by omega, rfl, H1.out, L1.out⟩
  case round =>
    obtain ⟨j, v2, hj, rfl, h2, l2⟩ := hrel
    by_cases hlt : j < n
    · have hjl : j < l.length := by rw [HN.out]; exact hlt
      obtain ⟨g, off, rfl, hg, hcell⟩ := HE.out (by omega)
      obtain ⟨cs, hlen, hcs2, rfl, hmx⟩ := hcell j hjl
      have hc : _ = some (sv l[j]) := (cell_of_heap ((HK.out.same l2) g hg)).trans (hcs2 0 (by omega))
      simp only [Nat.mul_one, Nat.add_zero] at hc
      have H2 := Lib.hid h2
      have L2 := Lib.hid l2
      have HM := Lib.hid hmx
      clear hcell hcs2 h2 l2 hlen hmx
      by_cases hz : ((l.take j).foldl WS.text (S.count n)).fault = 0
      · have HZ := Lib.hid hz
        clear hz
        go_wp2_with fail
        rw [← HP.out]
        refine (wstop_no p v2 _ _ H2.out HZ.out).mono ?_
        rintro e w' ⟨rfl, rfl⟩
        go_wp2_with fail
        refine (wtext_any p v2 _ l[j] _ H2.out HM.out).mono ?_
        rintro e w3 ⟨rfl, v3, h3, l3⟩
        have H3 := Lib.hid h3
        have L3 := Lib.hid l3
        clear h3 l3
        rw [HP.out]
        go_wp2
        go_roundw
        case rel => exact ⟨j + 1, v3, by omega, by go_num, by rw [fold_snoc _ _ _ _ hjl]; exact H3.out, L2.out.trans L3.out⟩
        case measure => simp [intOf]; omega
      · have HZ := Lib.hid hz
        clear hz
        go_wp2_with fail
        rw [← HP.out]
        refine (wstop_yes p v2 _ _ H2.out HZ.out).mono ?_
        rintro e w' ⟨rfl, rfl⟩
        go_wp2
        refine bodyPost_ret (results_none rfl _ _ _) rfl ?_
        exact ⟨rfl, v2, by rw [row_cut WS.text (fun _ _ h => WS.text_stop h _) S l j (by rw [hcs.out]; exact HZ.out), hcs.out]; exact H2.out, L2.out⟩
    · obtain rfl : j = n := by omega
      have H2 := Lib.hid h2
      have L2 := Lib.hid l2
      clear h2 l2
      go_wp2
      go_end0
      exact ⟨rfl, v2, by unfold WS.row; rw [hcs.out, ← HN.out]; have := H2.out; rw [← HN.out, List.take_length] at this; exact this, L2.out⟩
end Go.Proofs.YtikpojnmaiplnaaGreatDoor
/- Numbers, cells, facts in a row; a schema. -/
namespace Go.Proofs.YtikpojnmaiplnaaGreatDoor
open Go.RowKit Go.Maps
set_option linter.unusedVariables false

set_option maxRecDepth 100000 in
set_option maxHeartbeats 1000000 in
theorem wints_row (p : Option Nat) (v : Value) (S : WS) (K : Nat → Prop) (vl : Value) (l : List Int) (w : World) (h : WAt w p v S) (hr : RowE K w 1 intE vl l) (hk : Off p v w K) :
    Calls Tryz.prog 141 #[wpt p, vl, .func (.func 79) #[wpt p] #[]] w (WP p v w (S.row WS.int l)) := by
  obtain ⟨A, c, rfl, hm, hel⟩ := hr
  have HC := Lib.hid (wcount_any p v S (l.length : Int) w h)
  have HK := Lib.hid hk
  have HE := Lib.hid hel
  unfold maxLen at hm
  clear h hk hel
  obtain ⟨n, hn⟩ : ∃ n, l.length = n := ⟨_, rfl⟩
  rw [hn] at hm
  have HN := Lib.hid hn
  have hcs : Hid (S.count (l.length : Int) = S.count (n : Int)) := Lib.hid (by rw [hn])
  rw [hn] at HC ⊢
  clear hn
  generalize hP : wpt p = P at *
  have HP := Lib.hid hP
  clear hP
  go_enter Tryz.func141, Tryz.ntmps141
  go_wp2_with fail
  refine HC.out.mono ?_
  rintro e w1 ⟨rfl, v1, h1, l1⟩
  have H1 := Lib.hid h1
  have L1 := Lib.hid l1
  clear h1 l1
  go_wp2
  go_loopw [14] (fun i wr => ∃ j : Nat, ∃ v2, j ≤ n ∧ i = .int .i64 j ∧ WAt wr p v2 ((l.take j).foldl WS.int (S.count n)) ∧ WL p v w v2 wr) (fun i _ => n - (intOf i).toNat)
  case atStart => exact ⟨0, v1, by omega, rfl, H1.out, L1.out⟩
  case round =>
    obtain ⟨j, v2, hj, rfl, h2, l2⟩ := hrel
    by_cases hlt : j < n
    · have hjl : j < l.length := by rw [HN.out]; exact hlt
      obtain ⟨g, off, rfl, hg, hcell⟩ := HE.out (by omega)
      obtain ⟨cs, hlen, hcs2, rfl, hmx⟩ := hcell j hjl
      have hc : _ = some (Value.int .i64 l[j]) := (cell_of_heap ((HK.out.same l2) g hg)).trans (hcs2 0 (by omega))
      simp only [Nat.mul_one, Nat.add_zero] at hc
      have H2 := Lib.hid h2
      have L2 := Lib.hid l2
      have HM := Lib.hid hmx
      clear hcell hcs2 h2 l2 hlen hmx
      by_cases hz : ((l.take j).foldl WS.int (S.count n)).fault = 0
      · have HZ := Lib.hid hz
        clear hz
        go_wp2_with fail
        rw [← HP.out]
        refine (wstop_no p v2 _ _ H2.out HZ.out).mono ?_
        rintro e w' ⟨rfl, rfl⟩
        go_wp2_with fail
        refine (wint_any p v2 _ l[j] _ H2.out).mono ?_
        rintro e w3 ⟨rfl, v3, h3, l3⟩
        have H3 := Lib.hid h3
        have L3 := Lib.hid l3
        clear h3 l3
        rw [HP.out]
        go_wp2
        go_roundw
        case rel => exact ⟨j + 1, v3, by omega, by go_num, by rw [fold_snoc _ _ _ _ hjl]; exact H3.out, L2.out.trans L3.out⟩
        case measure => simp [intOf]; omega
      · have HZ := Lib.hid hz
        clear hz
        go_wp2_with fail
        rw [← HP.out]
        refine (wstop_yes p v2 _ _ H2.out HZ.out).mono ?_
        rintro e w' ⟨rfl, rfl⟩
        go_wp2
        refine bodyPost_ret (results_none rfl _ _ _) rfl ?_
        exact ⟨rfl, v2, by rw [row_cut WS.int (fun _ _ h => WS.int_stop h _) S l j (by rw [hcs.out]; exact HZ.out), hcs.out]; exact H2.out, L2.out⟩
    · obtain rfl : j = n := by omega
      have H2 := Lib.hid h2
      have L2 := Lib.hid l2
      clear h2 l2
      go_wp2
      go_end0
      exact ⟨rfl, v2, by unfold WS.row; rw [hcs.out, ← HN.out]; have := H2.out; rw [← HN.out, List.take_length] at this; exact this, L2.out⟩
end Go.Proofs.YtikpojnmaiplnaaGreatDoor
/- The rows by their calls; facts; a schema. -/
namespace Go.Proofs.YtikpojnmaiplnaaGreatDoor
open Go.RowKit Go.Maps
set_option linter.unusedVariables false

def WS.texts (S : WS) (l : List (List UInt8)) : WS := S.row WS.text l
def WS.ints (S : WS) (l : List Int) : WS := S.row WS.int l
def WS.cells (S : WS) (l : List CellP) : WS := S.row WS.cell l
theorem WS.texts_stop {S : WS} (h : S.fault ≠ 0) (l : List (List UInt8)) : S.texts l = S := row_stop _ (fun _ _ h => WS.text_stop h _) h l
theorem WS.ints_stop {S : WS} (h : S.fault ≠ 0) (l : List Int) : S.ints l = S := row_stop _ (fun _ _ h => WS.int_stop h _) h l
theorem WS.cells_stop {S : WS} (h : S.fault ≠ 0) (l : List CellP) : S.cells l = S := row_stop _ (fun _ _ h => WS.cell_stop h _) h l
theorem mkf (fn : Fn) (first cap : Array Value) (w : World) : (Instr.makeFunc fn first cap).run Tryz.prog w = .ok (.func fn first cap) w := rfl

set_option maxHeartbeats 400000 in
theorem wtexts_any (p : Option Nat) (v : Value) (S : WS) (K : Nat → Prop) (vl : Value) (l : List (List UInt8)) (w : World) (h : WAt w p v S) (hr : RowE K w 1 strE vl l) (hk : Off p v w K) :
    Calls Tryz.prog 138 #[wpt p, vl] w (WP p v w (S.texts l)) := by
  have HR := Lib.hid (wtexts_row p v S K vl l w h hr hk)
  have hmf := mkf
  clear h hr hk
  generalize hP : wpt p = P at *
  clear hP
  go_enter Tryz.func138, Tryz.ntmps138
  go_wp2_with fail
  refine HR.out.mono ?_
  rintro e w1 ⟨rfl, v1, h1, l1⟩
  go_wp2
  go_end0
  exact ⟨rfl, v1, h1, l1⟩
/-! ### facts -/
structure FactP where
  dims : List (List UInt8)
  meas : List Int
def factE (K : Nat → Prop) (w : World) (f : FactP) (cs : List Value) : Prop := ∃ dv mv, cs = [dv, mv] ∧ RowE K w 1 strE dv f.dims ∧ RowE K w 1 intE mv f.meas
theorem factE.of {K : Nat → Prop} {w w' : World} {f : FactP} {cs : List Value} (h : factE K w f cs) (hk : ∀ k, K k → w'.heap[k]? = w.heap[k]?) : factE K w' f cs := by
  obtain ⟨dv, mv, e, h1, h2⟩ := h
  exact ⟨dv, mv, e, h1.of hk fun _ _ h => h, h2.of hk fun _ _ h => h⟩
def WS.fact (S : WS) (f : FactP) : WS := (S.texts f.dims).ints f.meas
theorem WS.fact_stop {S : WS} (h : S.fault ≠ 0) (f : FactP) : S.fact f = S := by unfold WS.fact; rw [WS.texts_stop h, WS.ints_stop h]
def WS.facts (S : WS) (l : List FactP) : WS := S.row WS.fact l
theorem WS.facts_stop {S : WS} (h : S.fault ≠ 0) (l : List FactP) : S.facts l = S := row_stop _ (fun _ _ h => WS.fact_stop h _) h l
def WS.schema (S : WS) (d m : List (List UInt8)) : WS := (S.texts d).texts m

theorem RowE.slice {α : Type} {K : Nat → Prop} {w : World} {size : Nat} {E : α → List Value → Prop} {v : Value} {l : List α} (h : RowE K w size E v l) : ∃ A n c, v = .slice A n c := by
  obtain ⟨A, c, e, _⟩ := h; exact ⟨_, _, _, e⟩

set_option maxHeartbeats 1000000 in
theorem wfact_any (p : Option Nat) (v : Value) (S : WS) (K : Nat → Prop) (dv mv : Value) (f : FactP) (w : World) (h : WAt w p v S) (hd : RowE K w 1 strE dv f.dims) (hm : RowE K w 1 intE mv f.meas) (hk : Off p v w K) :
    Calls Tryz.prog 83 #[wpt p, .agg #[dv, mv]] w (WP p v w (S.fact f)) := by
  obtain ⟨wa, hwa⟩ : ∃ wa, w.alloc (.cells #[dv, mv] 139) = wa := ⟨_, rfl⟩
  obtain ⟨gb, hgb⟩ : ∃ gb, w.heap.size = gb := ⟨_, rfl⟩
  have hbx : Blk wa gb 139 #[dv, mv] := by rw [← hwa, ← hgb]; exact Blk.new w 139 _
  have hat : WAt wa p v S := by rw [← hwa]; exact h.alloc _
  have hwl : WL p v w v wa := by rw [← hwa]; exact WL.alloc0 p v w _
  have hng : ¬ WFt p v gb := fun e => by have := h.lt gb e; omega
  have H1 := Lib.hid (wtexts_any p v S K dv f.dims wa hat (hd.of (hk.same hwl) fun _ _ h => h) (hk.wl hwl))
  have c0 : wa.cell? ⟨gb, 0, none⟩ = some dv := hbx.cell 0
  have HX := Lib.hid hbx
  have HW := Lib.hid hwl
  have HN := Lib.hid hng
  have HK := Lib.hid hk
  have HM := Lib.hid hm
  obtain ⟨A1, n1, k1, rfl⟩ := hd.slice
  obtain ⟨A2, n2, k2, rfl⟩ := hm.slice
  have hmf := mkf
  clear hbx hat hwl hng hk hd hm h
  generalize hP : wpt p = P at *
  have HP := Lib.hid hP
  clear hP
  go_enter Tryz.func83, Tryz.ntmps83
  go_wp2_with fail
  refine H1.out.mono ?_
  rintro e w1 ⟨rfl, v1, h1, l1⟩
  have hx1 := HX.out.of (l1.fr.block gb HX.out.lt HN.out)
  have d1 : w1.cell? ⟨gb, 1, none⟩ = some (.slice A2 n2 k2) := hx1.cell 1
  have L1 := Lib.hid (HW.out.trans l1)
  have H2 := Lib.hid (wints_row p v1 _ K _ f.meas w1 h1 (HM.out.of (HK.out.same L1.out) fun _ _ h => h) (HK.out.wl L1.out))
  rw [HP.out] at H2
  clear hx1 h1 l1 c0 hwa hgb
  go_wp2_with fail
  refine H2.out.mono ?_
  rintro e w2 ⟨rfl, v2, h2, l2⟩
  go_wp2
  go_end0
  exact ⟨rfl, v2, h2, L1.out.trans l2⟩
set_option maxHeartbeats 1000000 in
theorem wschema_any (p : Option Nat) (v : Value) (S : WS) (K : Nat → Prop) (dv mv : Value) (d m : List (List UInt8)) (w : World) (h : WAt w p v S) (hd : RowE K w 1 strE dv d) (hm : RowE K w 1 strE mv m) (hk : Off p v w K) :
    Calls Tryz.prog 80 #[wpt p, .agg #[dv, mv]] w (WP p v w (S.schema d m)) := by
  obtain ⟨wa, hwa⟩ : ∃ wa, w.alloc (.cells #[dv, mv] 24) = wa := ⟨_, rfl⟩
  obtain ⟨gb, hgb⟩ : ∃ gb, w.heap.size = gb := ⟨_, rfl⟩
  have hbx : Blk wa gb 24 #[dv, mv] := by rw [← hwa, ← hgb]; exact Blk.new w 24 _
  have hat : WAt wa p v S := by rw [← hwa]; exact h.alloc _
  have hwl : WL p v w v wa := by rw [← hwa]; exact WL.alloc0 p v w _
  have hng : ¬ WFt p v gb := fun e => by have := h.lt gb e; omega
  have H1 := Lib.hid (wtexts_any p v S K dv d wa hat (hd.of (hk.same hwl) fun _ _ h => h) (hk.wl hwl))
  have c0 : wa.cell? ⟨gb, 0, none⟩ = some dv := hbx.cell 0
  have HX := Lib.hid hbx
  have HW := Lib.hid hwl
  have HN := Lib.hid hng
  have HK := Lib.hid hk
  have HM := Lib.hid hm
  obtain ⟨A1, n1, k1, rfl⟩ := hd.slice
  obtain ⟨A2, n2, k2, rfl⟩ := hm.slice
  have hmf := mkf
  clear hbx hat hwl hng hk hd hm h
  generalize hP : wpt p = P at *
  have HP := Lib.hid hP
  clear hP
  go_enter Tryz.func80, Tryz.ntmps80
  go_wp2_with fail
  refine H1.out.mono ?_
  rintro e w1 ⟨rfl, v1, h1, l1⟩
  have hx1 := HX.out.of (l1.fr.block gb HX.out.lt HN.out)
  have d1 : w1.cell? ⟨gb, 1, none⟩ = some (.slice A2 n2 k2) := hx1.cell 1
  have L1 := Lib.hid (HW.out.trans l1)
  have H2 := Lib.hid (wtexts_any p v1 _ K _ m w1 h1 (HM.out.of (HK.out.same L1.out) fun _ _ h => h) (HK.out.wl L1.out))
  rw [HP.out] at H2
  clear hx1 h1 l1 c0 hwa hgb
  go_wp2_with fail
  refine H2.out.mono ?_
  rintro e w2 ⟨rfl, v2, h2, l2⟩
  go_wp2
  go_end0
  exact ⟨rfl, v2, h2, L1.out.trans l2⟩

set_option maxRecDepth 100000 in
set_option maxHeartbeats 1000000 in
theorem wfacts_row (p : Option Nat) (v : Value) (S : WS) (K : Nat → Prop) (vl : Value) (l : List FactP) (w : World) (h : WAt w p v S) (hr : RowE K w 2 (factE K w) vl l) (hk : Off p v w K) :
    Calls Tryz.prog 82 #[wpt p, vl, .func (.func 83) #[wpt p] #[]] w (WP p v w (S.row WS.fact l)) := by
  obtain ⟨A, c, rfl, hm, hel⟩ := hr
  have HC := Lib.hid (wcount_any p v S (l.length : Int) w h)
  have HK := Lib.hid hk
  have HE := Lib.hid hel
  unfold maxLen at hm
  clear h hk hel
  obtain ⟨n, hn⟩ : ∃ n, l.length = n := ⟨_, rfl⟩
  rw [hn] at hm
  have HN := Lib.hid hn
  have hcs : Hid (S.count (l.length : Int) = S.count (n : Int)) := Lib.hid (by rw [hn])
  rw [hn] at HC ⊢
  clear hn
  generalize hP : wpt p = P at *
  have HP := Lib.hid hP
  clear hP
  go_enter Tryz.func82, Tryz.ntmps82
  go_wp2_with fail
  refine HC.out.mono ?_
  rintro e w1 ⟨rfl, v1, h1, l1⟩
  have H1 := Lib.hid h1
  have L1 := Lib.hid l1
  clear h1 l1
  go_wp2
  go_loopw [14] (fun i wr => ∃ j : Nat, ∃ v2, j ≤ n ∧ i = .int .i64 j ∧ WAt wr p v2 ((l.take j).foldl WS.fact (S.count n)) ∧ WL p v w v2 wr) (fun i _ => n - (intOf i).toNat)
  case atStart => exact ⟨0, v1, by omega, rfl, H1.out, L1.out⟩
  case round =>
    obtain ⟨j, v2, hj, rfl, h2, l2⟩ := hrel
    by_cases hlt : j < n
    · have hjl : j < l.length := by rw [HN.out]; exact hlt
      obtain ⟨g, off, rfl, hg, hcell⟩ := HE.out (by omega)
      obtain ⟨cs, hlen, hcs2, dv, mv, rfl, hdv, hmv⟩ := hcell j hjl
      have hc0 : _ = some dv := (cell_of_heap ((HK.out.same l2) g hg)).trans (hcs2 0 (by omega))
      have hc1 : _ = some mv := (cell_of_heap ((HK.out.same l2) g hg)).trans (hcs2 1 (by omega))
      simp only [Nat.add_zero] at hc0
      have hmx := And.intro hdv hmv
      obtain ⟨A1, n1, k1, rfl⟩ := hdv.slice
      obtain ⟨A2, n2, k2, rfl⟩ := hmv.slice
      have H2 := Lib.hid h2
      have L2 := Lib.hid l2
      have HM := Lib.hid hmx
      clear hcell hcs2 h2 l2 hlen hmx hdv hmv
      by_cases hz : ((l.take j).foldl WS.fact (S.count n)).fault = 0
      · have HZ := Lib.hid hz
        clear hz
        obtain ⟨wx, hwx⟩ : ∃ wx, wr.alloc (.cells #[.slice A1 n1 k1, .slice A2 n2 k2] 139) = wx := ⟨_, rfl⟩
        obtain ⟨gx, hgx⟩ : ∃ gx, wr.heap.size = gx := ⟨_, rfl⟩
        have hbx : Blk wx gx 139 #[.slice A1 n1 k1, .slice A2 n2 k2] := by rw [← hwx, ← hgx]; exact Blk.new wr 139 _
        have b0 : wx.cell? ⟨gx, 0, none⟩ = some (.slice A1 n1 k1) := hbx.cell 0
        have b1 : wx.cell? ⟨gx, 1, none⟩ = some (.slice A2 n2 k2) := hbx.cell 1
        have HX : Hid (WAt wx p v2 ((l.take j).foldl WS.fact (S.count n))) := Lib.hid (by rw [← hwx]; exact H2.out.alloc _)
        have LX : Hid (WL p v w v2 wx) := Lib.hid (by rw [← hwx]; exact L2.out.alloc _)
        clear hbx
        go_wp2_with fail
        rw [← HP.out]
        refine (wstop_no p v2 _ _ HX.out HZ.out).mono ?_
        rintro e w' ⟨rfl, rfl⟩
        go_wp2_with fail
        refine (wfact_any p v2 _ K _ _ l[j] _ HX.out (HM.out.1.of (HK.out.same LX.out) fun _ _ h => h) (HM.out.2.of (HK.out.same LX.out) fun _ _ h => h) (HK.out.wl LX.out)).mono ?_
        rintro e w3 ⟨rfl, v3, h3, l3⟩
        have H3 := Lib.hid h3
        have L3 := Lib.hid l3
        clear h3 l3 b0 b1 hc0 hc1 hwx hgx
        rw [HP.out]
        go_wp2
        go_roundw
        case rel => exact ⟨j + 1, v3, by omega, by go_num, by rw [fold_snoc _ _ _ _ hjl]; exact H3.out, LX.out.trans L3.out⟩
        case measure => simp [intOf]; omega
      · have HZ := Lib.hid hz
        clear hz
        obtain ⟨wx, hwx⟩ : ∃ wx, wr.alloc (.cells #[.slice A1 n1 k1, .slice A2 n2 k2] 139) = wx := ⟨_, rfl⟩
        obtain ⟨gx, hgx⟩ : ∃ gx, wr.heap.size = gx := ⟨_, rfl⟩
        have hbx : Blk wx gx 139 #[.slice A1 n1 k1, .slice A2 n2 k2] := by rw [← hwx, ← hgx]; exact Blk.new wr 139 _
        have b0 : wx.cell? ⟨gx, 0, none⟩ = some (.slice A1 n1 k1) := hbx.cell 0
        have b1 : wx.cell? ⟨gx, 1, none⟩ = some (.slice A2 n2 k2) := hbx.cell 1
        have HX : Hid (WAt wx p v2 ((l.take j).foldl WS.fact (S.count n))) := Lib.hid (by rw [← hwx]; exact H2.out.alloc _)
        have LX : Hid (WL p v w v2 wx) := Lib.hid (by rw [← hwx]; exact L2.out.alloc _)
        clear hbx
        go_wp2_with fail
        rw [← HP.out]
        refine (wstop_yes p v2 _ _ HX.out HZ.out).mono ?_
        rintro e w' ⟨rfl, rfl⟩
        go_wp2
        refine bodyPost_ret (results_none rfl _ _ _) rfl ?_
        exact ⟨rfl, v2, by rw [row_cut WS.fact (fun _ _ h => WS.fact_stop h _) S l j (by rw [hcs.out]; exact HZ.out), hcs.out]; exact HX.out, LX.out⟩
    · obtain rfl : j = n := by omega
      have H2 := Lib.hid h2
      have L2 := Lib.hid l2
      clear h2 l2
      go_wp2
      go_end0
      exact ⟨rfl, v2, by unfold WS.row; rw [hcs.out, ← HN.out]; have := H2.out; rw [← HN.out, List.take_length] at this; exact this, L2.out⟩
set_option maxHeartbeats 400000 in
theorem wfacts_any (p : Option Nat) (v : Value) (S : WS) (K : Nat → Prop) (vl : Value) (l : List FactP) (w : World) (h : WAt w p v S) (hr : RowE K w 2 (factE K w) vl l) (hk : Off p v w K) :
    Calls Tryz.prog 36 #[wpt p, vl] w (WP p v w (S.facts l)) := by
  have HR := Lib.hid (wfacts_row p v S K vl l w h hr hk)
  have hmf := mkf
  clear h hr hk
  generalize hP : wpt p = P at *
  clear hP
  go_enter Tryz.func36, Tryz.ntmps36
  go_wp2_with fail
  refine HR.out.mono ?_
  rintro e w1 ⟨rfl, v1, h1, l1⟩
  go_wp2
  go_end0
  exact ⟨rfl, v1, h1, l1⟩
end Go.Proofs.YtikpojnmaiplnaaGreatDoor
/- A reader in memory, nil too: stopped, Fail, Left, Done, take, many. -/
namespace Go.Proofs.YtikpojnmaiplnaaGreatDoor
open Go.RowKit Go.Maps
set_option linter.unusedVariables false

/-- A reader: what is left, what was first wrong. -/
structure RS where
  rest : List UInt8
  fault : Int
def RS.none : RS := ⟨[], 1⟩
def RS.fail (S : RS) (e : Int) : RS := if e ≠ 0 ∧ S.fault = 0 then ⟨[], e⟩ else S
def RS.take (S : RS) (n : Nat) : List UInt8 × RS := if S.fault = 0 then (if S.rest.length < n then ([], ⟨[], 20⟩) else (S.rest.take n, ⟨S.rest.drop n, 0⟩)) else ([], S)
def RS.many (S : RS) (least : Nat) : Nat × RS := if num (S.take 4).1 > (S.take 4).2.rest.length / least then (0, (S.take 4).2.fail 20) else (num (S.take 4).1, (S.take 4).2)

/-- How it lies. -/
structure RAt (w : World) (p : Option Nat) (S : RS) : Prop where
  blk : ∀ g, p = some g → Blk w g 159 #[sv S.rest, .int .i64 S.fault]
  nil : p = Option.none → S = RS.none
  len : S.rest.length ≤ 1073741824
def RFt (p : Option Nat) (k : Nat) : Prop := p = some k
theorem RAt.of {w w' : World} {p : Option Nat} {S : RS} (h : RAt w p S) (hk : ∀ k, RFt p k → w'.heap[k]? = w.heap[k]?) : RAt w' p S :=
  ⟨fun g e => (h.blk g e).of (hk g e), h.nil, h.len⟩
theorem RAt.lt {w : World} {p : Option Nat} {S : RS} (h : RAt w p S) : ∀ k, RFt p k → k < w.heap.size := fun k e => (h.blk k e).lt
theorem RAt.below {w w' : World} {p : Option Nat} {S : RS} (h : RAt w p S) (hb : Below w.heap.size w w') : RAt w' p S := h.of fun k hk => hb.block k (h.lt k hk)
theorem RAt.keep {w w' : World} {p : Option Nat} {S : RS} (h : RAt w p S) (hb : Fr No w w') : RAt w' p S := h.of fun k hk => hb.block k (h.lt k hk) id
theorem RAt.alloc {w : World} {p : Option Nat} {S : RS} (h : RAt w p S) (o : Obj) : RAt (w.alloc o) p S := h.keep ((Fr.refl _ w).alloc o)
theorem RAt.new (w : World) (l : List UInt8) (hl : l.length ≤ 1073741824) : RAt (w.alloc (.cells #[sv l, .int .i64 0] 159)) (some w.heap.size) ⟨l, 0⟩ :=
  ⟨fun g e => by obtain rfl := Option.some.inj e; exact Blk.new w 159 _, fun e => (by cases e), hl⟩
theorem RAt.nilr (w : World) : RAt w Option.none RS.none := ⟨fun g e => (by cases e), fun _ => rfl, by simp [RS.none]⟩
theorem RAt.some_of {w : World} {p : Option Nat} {S : RS} (h : RAt w p S) (h0 : S.fault = 0) : ∃ g, p = some g := by
  cases p with
  | none => have := h.nil rfl; subst this; cases h0
  | some g => exact ⟨g, rfl⟩

/-- A call of a reader that tells v. -/
def RP (p : Option Nat) (w : World) (v : Value) (S' : RS) (e : Ending) (w' : World) : Prop := e = .returned v ∧ RAt w' p S' ∧ Fr (RFt p) w w'

theorem rstop_any (p : Option Nat) (S : RS) (w : World) (h : RAt w p S) :
    Calls Tryz.prog 151 #[wpt p] w fun e w' => e = .returned (.bool (S.fault != 0)) ∧ w = w' := by
  cases p with
  | none =>
    obtain rfl := h.nil rfl
    unfold wpt
    go_enter Tryz.func151, Tryz.ntmps151
    go_wp2
    go_ret
    exact ⟨rfl, rfl⟩
  | some g =>
    have c1 : w.cell? ⟨g, 1, none⟩ = some (.int .i64 S.fault) := (h.blk g rfl).cell 1
    clear h
    rw [wpt_some]
    go_enter Tryz.func151, Tryz.ntmps151
    go_wp2
    go_ret
    exact ⟨rfl, rfl⟩
theorem rstop_no (p : Option Nat) (S : RS) (w : World) (h : RAt w p S) (h0 : S.fault = 0) : Calls Tryz.prog 151 #[wpt p] w fun e w' => e = .returned (.bool false) ∧ w = w' := by
  have := rstop_any p S w h
  rwa [h0] at this
theorem rstop_yes (p : Option Nat) (S : RS) (w : World) (h : RAt w p S) (h0 : S.fault ≠ 0) : Calls Tryz.prog 151 #[wpt p] w fun e w' => e = .returned (.bool true) ∧ w = w' := by
  have := rstop_any p S w h
  rwa [show (S.fault != 0) = true by simpa using h0] at this

/-! ### Fail -/
theorem rfail_any (p : Option Nat) (S : RS) (n : Int) (w : World) (h : RAt w p S) : Calls Tryz.prog 88 #[wpt p, .int .i64 n] w (RP p w (.tuple #[]) (S.fail n)) := by
  have hnot : ∀ (x : Bool) (w : World), (Op.unary .not (.bool x)).run Tryz.prog w = .ok (.bool (!x)) w := fun _ _ => rfl
  by_cases hn : n = 0
  · have HV : Hid (S.fail n = S) := Lib.hid (by unfold RS.fail; rw [if_neg (by simp [hn])])
    have H := Lib.hid h
    have hd : (n != 0) = false := by simp [hn]
    clear h hn
    generalize wpt p = P at *
    go_enter Tryz.func88, Tryz.ntmps88
    go_wp2
    go_end0
    exact ⟨rfl, by rw [HV.out]; exact H.out, Fr.refl _ _⟩
  · have hd : (n != 0) = true := by simpa using hn
    by_cases h0 : S.fault = 0
    · have HS := Lib.hid (rstop_no p S w h h0)
      have HV : Hid (S.fail n = ⟨[], n⟩) := Lib.hid (by unfold RS.fail; rw [if_pos ⟨hn, h0⟩])
      obtain ⟨g, rfl⟩ := h.some_of h0
      have hb := h.blk g rfl
      have c0 : w.cell? ⟨g, 0, none⟩ = some (sv S.rest) := hb.cell 0
      have c1 : w.cell? ⟨g, 1, none⟩ = some (.int .i64 S.fault) := hb.cell 1
      have f0 := hb.frozen 0
      have f1 := hb.frozen 1
      have HB := Lib.hid hb
      clear h hb h0 hn
      rw [wpt_some] at HS ⊢
      go_enter Tryz.func88, Tryz.ntmps88
      go_wp2_with (go_at_call 151; refine HS.out.mono ?_; rintro e w' ⟨rfl, rfl⟩)
      go_end0
      refine ⟨rfl, ?_, ((Fr.refl (RFt (some g)) w).setCell (p := ⟨g, 0, none⟩) (fun _ => (rfl : some g = some g)) _).setCell (p := ⟨g, 1, none⟩) (fun _ => (rfl : some g = some g)) _⟩
      rw [HV.out]
      exact ⟨fun k e => by obtain rfl := Option.some.inj e; exact (HB.out.set_ 0 _).set_ 1 _, fun e => (by cases e), by simp⟩
    · have HS := Lib.hid (rstop_yes p S w h h0)
      have HV : Hid (S.fail n = S) := Lib.hid (by unfold RS.fail; rw [if_neg (by simp [h0])])
      have H := Lib.hid h
      clear h h0 hn
      generalize wpt p = P at *
      go_enter Tryz.func88, Tryz.ntmps88
      go_wp2_with (go_at_call 151; refine HS.out.mono ?_; rintro e w' ⟨rfl, rfl⟩)
      go_end0
      exact ⟨rfl, by rw [HV.out]; exact H.out, Fr.refl _ _⟩

/-! ### Left, Done, Read -/
theorem rleft_any (p : Option Nat) (S : RS) (w : World) (h : RAt w p S) : Calls Tryz.prog 91 #[wpt p] w fun e w' => e = .returned (.int .i64 (S.rest.length : Nat)) ∧ w = w' := by
  cases p with
  | none =>
    obtain rfl := h.nil rfl
    unfold wpt
    go_enter Tryz.func91, Tryz.ntmps91
    go_wp2
    go_ret
    exact ⟨rfl, rfl⟩
  | some g =>
    have c0 : w.cell? ⟨g, 0, none⟩ = some (sv S.rest) := (h.blk g rfl).cell 0
    have hl := h.len
    clear h
    rw [wpt_some]
    generalize S.rest = R at *
    go_enter Tryz.func91, Tryz.ntmps91
    go_wp2
    go_ret
    exact ⟨rfl, rfl⟩
def RS.done (S : RS) : Int := if S.fault = 0 ∧ S.rest ≠ [] then 22 else S.fault
theorem rdone_any (p : Option Nat) (S : RS) (w : World) (h : RAt w p S) : Calls Tryz.prog 45 #[wpt p] w fun e w' => e = .returned (.int .i64 S.done) ∧ w = w' := by
  cases p with
  | none =>
    obtain rfl := h.nil rfl
    unfold wpt
    go_enter Tryz.func45, Tryz.ntmps45
    go_wp2
    go_ret
    exact ⟨rfl, rfl⟩
  | some g =>
    have c0 : w.cell? ⟨g, 0, none⟩ = some (sv S.rest) := (h.blk g rfl).cell 0
    have c1 : w.cell? ⟨g, 1, none⟩ = some (.int .i64 S.fault) := (h.blk g rfl).cell 1
    clear h
    rw [wpt_some]
    obtain ⟨R, f⟩ := S
    by_cases h0 : f = 0
    · subst h0
      cases hr : R.isEmpty with
      | true =>
        have HV : Hid (RS.done ⟨R, 0⟩ = 0) := Lib.hid (by unfold RS.done; rw [if_neg (by simpa using hr)])
        go_enter Tryz.func45, Tryz.ntmps45
        go_wp2
        go_ret
        exact ⟨ret_int HV.out.symm, rfl⟩
      | false =>
        have HV : Hid (RS.done ⟨R, 0⟩ = 22) := Lib.hid (by unfold RS.done; rw [if_pos (by simpa using hr)])
        go_enter Tryz.func45, Tryz.ntmps45
        go_wp2
        go_ret
        exact ⟨ret_int HV.out.symm, rfl⟩
    · have HV : Hid (RS.done ⟨R, f⟩ = f) := Lib.hid (by unfold RS.done; rw [if_neg (by simp [h0])])
      have hd : (f == 0) = false := by simpa using h0
      clear h0
      go_enter Tryz.func45, Tryz.ntmps45
      go_wp2
      go_ret
      exact ⟨ret_int HV.out.symm, rfl⟩
theorem read_any (l : List UInt8) (w : World) : Calls Tryz.prog 87 #[sv l] w fun e w' => e = .returned (.pointer (some ⟨w.heap.size, 0, none⟩)) ∧ w.alloc (.cells #[sv l, .int .i64 0] 159) = w' := by
  go_enter Tryz.func87, Tryz.ntmps87
  go_wp2
  go_ret
  exact ⟨rfl, rfl⟩

/-! ### take -/
theorem rtake_stop (p : Option Nat) (S : RS) (n : Int) (w : World) (h : RAt w p S) (h0 : S.fault ≠ 0) : Calls Tryz.prog 93 #[wpt p, .int .i64 n] w (RP p w (sv []) S) := by
  have HS := Lib.hid (rstop_yes p S w h h0)
  have H := Lib.hid h
  clear h h0
  generalize wpt p = P at *
  go_enter Tryz.func93, Tryz.ntmps93
  go_wp2_with (go_at_call 151; refine HS.out.mono ?_; rintro e w' ⟨rfl, rfl⟩)
  go_ret
  exact ⟨rfl, H.out, Fr.refl _ _⟩
set_option maxHeartbeats 400000 in
theorem rtake_short (p : Option Nat) (S : RS) (n : Nat) (w : World) (h : RAt w p S) (h0 : S.fault = 0) (hl : S.rest.length < n) : Calls Tryz.prog 93 #[wpt p, .int .i64 n] w (RP p w (sv []) ⟨[], 20⟩) := by
  have HS := Lib.hid (rstop_no p S w h h0)
  have HF := Lib.hid (rfail_any p S 20 w h)
  have HV : Hid (S.fail 20 = ⟨[], 20⟩) := Lib.hid (by unfold RS.fail; rw [if_pos ⟨by decide, h0⟩])
  obtain ⟨g, rfl⟩ := h.some_of h0
  have c0 : w.cell? ⟨g, 0, none⟩ = some (sv S.rest) := (h.blk g rfl).cell 0
  have hm := h.len
  clear h h0
  rw [wpt_some] at HS HF ⊢
  generalize S.rest = R at *
  go_enter Tryz.func93, Tryz.ntmps93
  go_wp2_with (first | (go_at_call 151; refine HS.out.mono ?_; rintro e w' ⟨rfl, rfl⟩) | (go_at_call 88; refine HF.out.mono ?_; rintro e w' ⟨rfl, h1, h2⟩))
  go_ret
  exact ⟨rfl, by rw [← HV.out]; exact h1, h2⟩
set_option maxHeartbeats 400000 in
theorem rtake_ok (p : Option Nat) (S : RS) (n : Nat) (w : World) (h : RAt w p S) (h0 : S.fault = 0) (hl : n ≤ S.rest.length) : Calls Tryz.prog 93 #[wpt p, .int .i64 n] w (RP p w (sv (S.rest.take n)) ⟨S.rest.drop n, 0⟩) := by
  have HS := Lib.hid (rstop_no p S w h h0)
  obtain ⟨g, rfl⟩ := h.some_of h0
  have hb := h.blk g rfl
  have c0 : w.cell? ⟨g, 0, none⟩ = some (sv S.rest) := hb.cell 0
  have f0 := hb.frozen 0
  have hm := h.len
  rw [h0] at hb
  have hs := hb.set_ 0 (sv (S.rest.drop n))
  have HW : Hid (RAt (w.setCell ⟨g, 0, none⟩ (sv (S.rest.drop n))) (some g) ⟨S.rest.drop n, 0⟩) := Lib.hid ⟨fun k e => by obtain rfl := Option.some.inj e; exact hs, fun e => (by cases e), by simp; omega⟩
  clear h h0 hb hs
  rw [wpt_some] at HS ⊢
  generalize S.rest = R at *
  have ht : (ByteArray.mk R.toArray).extract 0 n = ⟨(R.take n).toArray⟩ := by rw [ext_list, List.drop_zero]
  have hd : (ByteArray.mk R.toArray).extract n R.length = ⟨(R.drop n).toArray⟩ := by rw [ext_list, List.take_length]
  go_enter Tryz.func93, Tryz.ntmps93
  go_wp2_with (go_at_call 151; refine HS.out.mono ?_; rintro e w' ⟨rfl, rfl⟩)
  go_ret
  exact ⟨rfl, HW.out, (Fr.refl (RFt (some g)) w).setCell (p := ⟨g, 0, none⟩) (fun _ => (rfl : some g = some g)) _⟩
theorem rtake_any (p : Option Nat) (S : RS) (n : Nat) (w : World) (h : RAt w p S) : Calls Tryz.prog 93 #[wpt p, .int .i64 n] w (RP p w (sv (S.take n).1) (S.take n).2) := by
  unfold RS.take
  by_cases h0 : S.fault = 0
  · rw [if_pos h0]
    by_cases hl : S.rest.length < n
    · rw [if_pos hl]; exact rtake_short p S n w h h0 hl
    · rw [if_neg hl]; exact rtake_ok p S n w h h0 (by omega)
  · rw [if_neg h0]; exact rtake_stop p S n w h h0
theorem take_len (S : RS) (n : Nat) : (S.take n).1.length ≤ n := by
  unfold RS.take
  split
  · split
    · simp
    · simp; omega
  · simp
theorem take_rest (S : RS) (n : Nat) : (S.take n).2.rest.length ≤ S.rest.length := by
  unfold RS.take
  split
  · split
    · simp
    · simp
  · simp
theorem number_l (l : List UInt8) (hl : l.length ≤ 8) (w : World) : Calls Tryz.prog 92 #[sv l] w fun e w' => e = .returned (.int .u64 (num l : Nat)) ∧ w = w' := number_any ⟨l.toArray⟩ w (by rw [sz]; exact hl)

/-! ### many -/
set_option maxHeartbeats 1000000 in
theorem rmany_any (p : Option Nat) (S : RS) (k : Nat) (hk : 0 < k) (hk8 : k ≤ 8) (w : World) (h : RAt w p S) : Calls Tryz.prog 154 #[wpt p, .int .i64 k] w (RP p w (.int .i64 (S.many k).1) (S.many k).2) := by
  have HT : Hid (Calls Tryz.prog 93 #[wpt p, .int .i64 4] w (RP p w (sv (S.take 4).1) (S.take 4).2)) := Lib.hid (rtake_any p S 4 w h)
  have hl4 := take_len S 4
  have HN : Hid (∀ w, Calls Tryz.prog 92 #[sv (S.take 4).1] w fun e w' => e = .returned (.int .u64 (num (S.take 4).1 : Nat)) ∧ w = w') := Lib.hid fun w => number_l _ (by omega) w
  have hn : num (S.take 4).1 < 4294967296 := by
    have h1 := num_lt (S.take 4).1
    have h2 : 256 ^ (S.take 4).1.length ≤ 256 ^ 4 := Nat.pow_le_pow_right (by decide) hl4
    omega
  have hr : (S.take 4).2.rest.length ≤ 1073741824 := Nat.le_trans (take_rest S 4) h.len
  have HV : Hid (S.many k = if num (S.take 4).1 > (S.take 4).2.rest.length / k then (0, (S.take 4).2.fail 20) else (num (S.take 4).1, (S.take 4).2)) := Lib.hid rfl
  clear h hl4
  generalize (S.take 4).1 = B at *
  generalize (S.take 4).2 = S1 at *
  obtain ⟨q, hq⟩ : ∃ q, S1.rest.length / k = q := ⟨_, rfl⟩
  have hqq : ((S1.rest.length : Nat) : Int) / (k : Int) = (q : Int) := by rw [← hq]; omega
  have hqr : q ≤ 1073741824 := by rw [← hq]; exact Nat.le_trans (Nat.div_le_self _ _) hr
  rw [hq] at HV
  have HQ := Lib.hid hq
  generalize num B = n at *
  generalize hP : wpt p = P at *
  have HP := Lib.hid hP
  clear hP hq
  by_cases hgt : q < n
  · have HV2 : Hid (S.many k = (0, S1.fail 20)) := Lib.hid (by rw [HV.out, if_pos hgt])
    clear HV
    go_enter Tryz.func154, Tryz.ntmps154
    go_wp2_with fail
    refine HT.out.mono ?_
    rintro e w1 ⟨rfl, h1, f1⟩
    have H1 := Lib.hid h1
    have F1 := Lib.hid f1
    clear h1 f1
    go_wp2_with (first
      | (go_at_call 92; refine (HN.out _).mono ?_; rintro e w' ⟨rfl, rfl⟩)
      | (go_at_call 91; rw [← HP.out]; refine (rleft_any p S1 _ H1.out).mono ?_; rintro e w' ⟨rfl, rfl⟩)
      | (go_at_call 88; refine (rfail_any p S1 20 _ H1.out).mono ?_; rintro e w2 ⟨rfl, h2, f2⟩))
    go_ret
    exact ⟨by rw [HV2.out]; rfl, by rw [HV2.out]; exact h2, F1.out.trans f2 fun _ _ h => h⟩
  · have HV2 : Hid (S.many k = (n, S1)) := Lib.hid (by rw [HV.out, if_neg hgt])
    clear HV
    go_enter Tryz.func154, Tryz.ntmps154
    go_wp2_with fail
    refine HT.out.mono ?_
    rintro e w1 ⟨rfl, h1, f1⟩
    have H1 := Lib.hid h1
    have F1 := Lib.hid f1
    clear h1 f1
    go_wp2_with (first
      | (go_at_call 92; refine (HN.out _).mono ?_; rintro e w' ⟨rfl, rfl⟩)
      | (go_at_call 91; rw [← HP.out]; refine (rleft_any p S1 _ H1.out).mono ?_; rintro e w' ⟨rfl, rfl⟩))
    go_ret
    exact ⟨by rw [HV2.out]; rfl, by rw [HV2.out]; exact H1.out, F1.out⟩
end Go.Proofs.YtikpojnmaiplnaaGreatDoor
/- What a reader tells: plain things, and the zero one with an error. -/
namespace Go.Proofs.YtikpojnmaiplnaaGreatDoor
open Go.RowKit Go.Maps
set_option linter.unusedVariables false

theorem told88_ok (V : Value) (P : Value) (w : World) (HS : Hid (Calls Tryz.prog 151 #[P] w fun e w' => e = .returned (.bool false) ∧ w = w')) : Calls Tryz.prog 94 #[P, V] w fun e w' => e = .returned (V) ∧ w = w' := by
  go_enter Tryz.func94, Tryz.ntmps94
  go_wp2_with (go_at_call 151; refine HS.out.mono ?_; rintro e w' ⟨rfl, rfl⟩)
  go_ret
  exact ⟨rfl, rfl⟩
theorem told88_no (V : Value) (P : Value) (w : World) (HS : Hid (Calls Tryz.prog 151 #[P] w fun e w' => e = .returned (.bool true) ∧ w = w')) : Calls Tryz.prog 94 #[P, V] w fun e w' => e = .returned (.int .i64 0) ∧ w = w' := by
  go_enter Tryz.func94, Tryz.ntmps94
  go_wp2_with (go_at_call 151; refine HS.out.mono ?_; rintro e w' ⟨rfl, rfl⟩)
  go_ret
  exact ⟨rfl, rfl⟩
theorem told88 (p : Option Nat) (S : RS) (V : Value) (w : World) (h : RAt w p S) : Calls Tryz.prog 94 #[wpt p, V] w fun e w' => e = .returned (if S.fault = 0 then V else .int .i64 0) ∧ w = w' := by
  by_cases h0 : S.fault = 0
  · rw [if_pos h0]; exact told88_ok V _ w (Lib.hid (rstop_no p S w h h0))
  · rw [if_neg h0]; exact told88_no V _ w (Lib.hid (rstop_yes p S w h h0))
theorem told103_ok (V : Value) (P : Value) (w : World) (HS : Hid (Calls Tryz.prog 151 #[P] w fun e w' => e = .returned (.bool false) ∧ w = w')) : Calls Tryz.prog 200 #[P, V] w fun e w' => e = .returned (V) ∧ w = w' := by
  go_enter Tryz.func200, Tryz.ntmps200
  go_wp2_with (go_at_call 151; refine HS.out.mono ?_; rintro e w' ⟨rfl, rfl⟩)
  go_ret
  exact ⟨rfl, rfl⟩
theorem told103_no (V : Value) (P : Value) (w : World) (HS : Hid (Calls Tryz.prog 151 #[P] w fun e w' => e = .returned (.bool true) ∧ w = w')) : Calls Tryz.prog 200 #[P, V] w fun e w' => e = .returned (.slice none 0 0) ∧ w = w' := by
  go_enter Tryz.func200, Tryz.ntmps200
  go_wp2_with (go_at_call 151; refine HS.out.mono ?_; rintro e w' ⟨rfl, rfl⟩)
  go_ret
  exact ⟨rfl, rfl⟩
theorem told103 (p : Option Nat) (S : RS) (V : Value) (w : World) (h : RAt w p S) : Calls Tryz.prog 200 #[wpt p, V] w fun e w' => e = .returned (if S.fault = 0 then V else .slice none 0 0) ∧ w = w' := by
  by_cases h0 : S.fault = 0
  · rw [if_pos h0]; exact told103_ok V _ w (Lib.hid (rstop_no p S w h h0))
  · rw [if_neg h0]; exact told103_no V _ w (Lib.hid (rstop_yes p S w h h0))
theorem told105_ok (V : Value) (P : Value) (w : World) (HS : Hid (Calls Tryz.prog 151 #[P] w fun e w' => e = .returned (.bool false) ∧ w = w')) : Calls Tryz.prog 181 #[P, V] w fun e w' => e = .returned (V) ∧ w = w' := by
  go_enter Tryz.func181, Tryz.ntmps181
  go_wp2_with (go_at_call 151; refine HS.out.mono ?_; rintro e w' ⟨rfl, rfl⟩)
  go_ret
  exact ⟨rfl, rfl⟩
theorem told105_no (V : Value) (P : Value) (w : World) (HS : Hid (Calls Tryz.prog 151 #[P] w fun e w' => e = .returned (.bool true) ∧ w = w')) : Calls Tryz.prog 181 #[P, V] w fun e w' => e = .returned (.slice none 0 0) ∧ w = w' := by
  go_enter Tryz.func181, Tryz.ntmps181
  go_wp2_with (go_at_call 151; refine HS.out.mono ?_; rintro e w' ⟨rfl, rfl⟩)
  go_ret
  exact ⟨rfl, rfl⟩
theorem told105 (p : Option Nat) (S : RS) (V : Value) (w : World) (h : RAt w p S) : Calls Tryz.prog 181 #[wpt p, V] w fun e w' => e = .returned (if S.fault = 0 then V else .slice none 0 0) ∧ w = w' := by
  by_cases h0 : S.fault = 0
  · rw [if_pos h0]; exact told105_ok V _ w (Lib.hid (rstop_no p S w h h0))
  · rw [if_neg h0]; exact told105_no V _ w (Lib.hid (rstop_yes p S w h h0))
theorem told106_ok (V : Value) (P : Value) (w : World) (HS : Hid (Calls Tryz.prog 151 #[P] w fun e w' => e = .returned (.bool false) ∧ w = w')) : Calls Tryz.prog 155 #[P, V] w fun e w' => e = .returned (V) ∧ w = w' := by
  go_enter Tryz.func155, Tryz.ntmps155
  go_wp2_with (go_at_call 151; refine HS.out.mono ?_; rintro e w' ⟨rfl, rfl⟩)
  go_ret
  exact ⟨rfl, rfl⟩
theorem told106_no (V : Value) (P : Value) (w : World) (HS : Hid (Calls Tryz.prog 151 #[P] w fun e w' => e = .returned (.bool true) ∧ w = w')) : Calls Tryz.prog 155 #[P, V] w fun e w' => e = .returned (.slice none 0 0) ∧ w = w' := by
  go_enter Tryz.func155, Tryz.ntmps155
  go_wp2_with (go_at_call 151; refine HS.out.mono ?_; rintro e w' ⟨rfl, rfl⟩)
  go_ret
  exact ⟨rfl, rfl⟩
theorem told106 (p : Option Nat) (S : RS) (V : Value) (w : World) (h : RAt w p S) : Calls Tryz.prog 155 #[wpt p, V] w fun e w' => e = .returned (if S.fault = 0 then V else .slice none 0 0) ∧ w = w' := by
  by_cases h0 : S.fault = 0
  · rw [if_pos h0]; exact told106_ok V _ w (Lib.hid (rstop_no p S w h h0))
  · rw [if_neg h0]; exact told106_no V _ w (Lib.hid (rstop_yes p S w h h0))
set_option maxHeartbeats 400000 in
theorem told93_ok (P : Value) (A1 A2 : Option Addr) (n1 n2 c1 c2 : Nat) (w : World) (HS : Hid (∀ w1, Below w.heap.size w w1 → Calls Tryz.prog 151 #[P] w1 fun e w' => e = .returned (.bool false) ∧ w1 = w')) : Calls Tryz.prog 157 #[P, .agg #[.slice A1 n1 c1, .slice A2 n2 c2]] w fun e w' => e = .returned (.agg #[.slice A1 n1 c1, .slice A2 n2 c2]) ∧ Below w.heap.size w w' := by
  go_enter Tryz.func157, Tryz.ntmps157
  go_wp2_with (go_at_call 151; refine (HS.out _ (((Below.refl _ _).alloc (Nat.le_refl _) _).alloc (by simp) _)).mono ?_; rintro e w' ⟨rfl, rfl⟩)
  refine bodyPost_ret (v := .agg #[.slice A1 n1 c1, .slice A2 n2 c2]) (by simp [results, Tryz.results157, go_sem]) rfl ⟨rfl, ?_⟩
  first | exact Fr.below (((Fr.refl No w).alloc _).alloc _) | exact Fr.below ((((Fr.refl No w).alloc _).alloc _).alloc _)
set_option maxHeartbeats 400000 in
theorem told93_no (P : Value) (A1 A2 : Option Addr) (n1 n2 c1 c2 : Nat) (w : World) (HS : Hid (∀ w1, Below w.heap.size w w1 → Calls Tryz.prog 151 #[P] w1 fun e w' => e = .returned (.bool true) ∧ w1 = w')) : Calls Tryz.prog 157 #[P, .agg #[.slice A1 n1 c1, .slice A2 n2 c2]] w fun e w' => e = .returned (.agg #[.slice none 0 0, .slice none 0 0]) ∧ Below w.heap.size w w' := by
  go_enter Tryz.func157, Tryz.ntmps157
  go_wp2_with (go_at_call 151; refine (HS.out _ (((Below.refl _ _).alloc (Nat.le_refl _) _).alloc (by simp) _)).mono ?_; rintro e w' ⟨rfl, rfl⟩)
  refine bodyPost_ret (v := .agg #[.slice none 0 0, .slice none 0 0]) (by simp [results, Tryz.results157, go_sem]) rfl ⟨rfl, ?_⟩
  first | exact Fr.below (((Fr.refl No w).alloc _).alloc _) | exact Fr.below ((((Fr.refl No w).alloc _).alloc _).alloc _)
theorem told93 (p : Option Nat) (S : RS) (A1 A2 : Option Addr) (n1 n2 c1 c2 : Nat) (w : World) (h : RAt w p S) : Calls Tryz.prog 157 #[wpt p, .agg #[.slice A1 n1 c1, .slice A2 n2 c2]] w fun e w' => e = .returned (.agg (if S.fault = 0 then #[.slice A1 n1 c1, .slice A2 n2 c2] else #[.slice none 0 0, .slice none 0 0])) ∧ Below w.heap.size w w' := by
  by_cases h0 : S.fault = 0
  · rw [if_pos h0]; exact told93_ok _ A1 A2 n1 n2 c1 c2 w (Lib.hid fun w1 hb => rstop_no p S w1 (h.below hb) h0)
  · rw [if_neg h0]; exact told93_no _ A1 A2 n1 n2 c1 c2 w (Lib.hid fun w1 hb => rstop_yes p S w1 (h.below hb) h0)
set_option maxHeartbeats 400000 in
theorem told95_ok (P : Value) (A1 A2 : Option Addr) (n1 n2 c1 c2 : Nat) (w : World) (HS : Hid (∀ w1, Below w.heap.size w w1 → Calls Tryz.prog 151 #[P] w1 fun e w' => e = .returned (.bool false) ∧ w1 = w')) : Calls Tryz.prog 153 #[P, .agg #[.slice A1 n1 c1, .slice A2 n2 c2]] w fun e w' => e = .returned (.agg #[.slice A1 n1 c1, .slice A2 n2 c2]) ∧ Below w.heap.size w w' := by
  go_enter Tryz.func153, Tryz.ntmps153
  go_wp2_with (go_at_call 151; refine (HS.out _ (((Below.refl _ _).alloc (Nat.le_refl _) _).alloc (by simp) _)).mono ?_; rintro e w' ⟨rfl, rfl⟩)
  refine bodyPost_ret (v := .agg #[.slice A1 n1 c1, .slice A2 n2 c2]) (by simp [results, Tryz.results153, go_sem]) rfl ⟨rfl, ?_⟩
  first | exact Fr.below (((Fr.refl No w).alloc _).alloc _) | exact Fr.below ((((Fr.refl No w).alloc _).alloc _).alloc _)
set_option maxHeartbeats 400000 in
theorem told95_no (P : Value) (A1 A2 : Option Addr) (n1 n2 c1 c2 : Nat) (w : World) (HS : Hid (∀ w1, Below w.heap.size w w1 → Calls Tryz.prog 151 #[P] w1 fun e w' => e = .returned (.bool true) ∧ w1 = w')) : Calls Tryz.prog 153 #[P, .agg #[.slice A1 n1 c1, .slice A2 n2 c2]] w fun e w' => e = .returned (.agg #[.slice none 0 0, .slice none 0 0]) ∧ Below w.heap.size w w' := by
  go_enter Tryz.func153, Tryz.ntmps153
  go_wp2_with (go_at_call 151; refine (HS.out _ (((Below.refl _ _).alloc (Nat.le_refl _) _).alloc (by simp) _)).mono ?_; rintro e w' ⟨rfl, rfl⟩)
  refine bodyPost_ret (v := .agg #[.slice none 0 0, .slice none 0 0]) (by simp [results, Tryz.results153, go_sem]) rfl ⟨rfl, ?_⟩
  first | exact Fr.below (((Fr.refl No w).alloc _).alloc _) | exact Fr.below ((((Fr.refl No w).alloc _).alloc _).alloc _)
theorem told95 (p : Option Nat) (S : RS) (A1 A2 : Option Addr) (n1 n2 c1 c2 : Nat) (w : World) (h : RAt w p S) : Calls Tryz.prog 153 #[wpt p, .agg #[.slice A1 n1 c1, .slice A2 n2 c2]] w fun e w' => e = .returned (.agg (if S.fault = 0 then #[.slice A1 n1 c1, .slice A2 n2 c2] else #[.slice none 0 0, .slice none 0 0])) ∧ Below w.heap.size w w' := by
  by_cases h0 : S.fault = 0
  · rw [if_pos h0]; exact told95_ok _ A1 A2 n1 n2 c1 c2 w (Lib.hid fun w1 hb => rstop_no p S w1 (h.below hb) h0)
  · rw [if_neg h0]; exact told95_no _ A1 A2 n1 n2 c1 c2 w (Lib.hid fun w1 hb => rstop_yes p S w1 (h.below hb) h0)
end Go.Proofs.YtikpojnmaiplnaaGreatDoor
/- A reader takes up bytes, numbers, counts, texts. -/
namespace Go.Proofs.YtikpojnmaiplnaaGreatDoor
open Go.RowKit Go.Maps
set_option linter.unusedVariables false

def RS.byte (S : RS) : Nat × RS := (num (S.take 1).1, (S.take 1).2)
def RS.int (S : RS) : Int × RS := (IntKind.i64.wrap (num (S.take 8).1 : Nat), (S.take 8).2)
def RS.count (S : RS) (most : Int) : Nat × RS := if ((num (S.take 4).1 : Nat) : Int) > most then (0, (S.take 4).2.fail 23) else (if (S.take 4).2.fault = 0 then num (S.take 4).1 else 0, (S.take 4).2)
def RS.text (S : RS) : List UInt8 × RS := (S.many 1).2.take (S.many 1).1
theorem num_le (l : List UInt8) (k : Nat) (h : l.length ≤ k) : num l < 256 ^ k := Nat.lt_of_lt_of_le (num_lt l) (Nat.pow_le_pow_right (by decide) h)
theorem Fr.then {F : Nat → Prop} {a b c : World} (h : Fr F a b) (k : Fr F b c) : Fr F a c := h.trans k fun _ _ h => h

set_option maxHeartbeats 400000 in
theorem rint_any (p : Option Nat) (S : RS) (w : World) (h : RAt w p S) : Calls Tryz.prog 89 #[wpt p] w (RP p w (.int .i64 S.int.1) S.int.2) := by
  have HT : Hid (Calls Tryz.prog 93 #[wpt p, .int .i64 8] w (RP p w (sv (S.take 8).1) (S.take 8).2)) := Lib.hid (rtake_any p S 8 w h)
  have hl := take_len S 8
  have HN : Hid (∀ w, Calls Tryz.prog 92 #[sv (S.take 8).1] w fun e w' => e = .returned (.int .u64 (num (S.take 8).1 : Nat)) ∧ w = w') := Lib.hid fun w => number_l _ (by omega) w
  have HV : Hid (S.int = (IntKind.i64.wrap (num (S.take 8).1 : Nat), (S.take 8).2)) := Lib.hid rfl
  clear h hl
  generalize (S.take 8).1 = B at *
  generalize (S.take 8).2 = S1 at *
  generalize num B = n at *
  obtain ⟨m, hm⟩ : ∃ m, IntKind.i64.wrap (n : Int) = m := ⟨_, rfl⟩
  rw [hm] at HV
  generalize wpt p = P at *
  go_enter Tryz.func89, Tryz.ntmps89
  go_wp2_with fail
  refine HT.out.mono ?_
  rintro e w1 ⟨rfl, h1, f1⟩
  have H1 := Lib.hid h1
  have F1 := Lib.hid f1
  clear h1 f1
  go_wp2_with (go_at_call 92; refine (HN.out _).mono ?_; rintro e w' ⟨rfl, rfl⟩)
  go_ret
  exact ⟨by rw [HV.out]; rfl, by rw [HV.out]; exact H1.out, F1.out⟩
set_option maxHeartbeats 1000000 in
theorem rcount_any (p : Option Nat) (S : RS) (most : Int) (w : World) (h : RAt w p S) : Calls Tryz.prog 44 #[wpt p, .int .i64 most] w (RP p w (.int .i64 ((S.count most).1 : Nat)) (S.count most).2) := by
  have HT : Hid (Calls Tryz.prog 93 #[wpt p, .int .i64 4] w (RP p w (sv (S.take 4).1) (S.take 4).2)) := Lib.hid (rtake_any p S 4 w h)
  have hl := take_len S 4
  have hn : num (S.take 4).1 < 4294967296 := num_le _ 4 hl
  have HN : Hid (∀ w, Calls Tryz.prog 92 #[sv (S.take 4).1] w fun e w' => e = .returned (.int .u64 (num (S.take 4).1 : Nat)) ∧ w = w') := Lib.hid fun w => number_l _ (by omega) w
  have HV : Hid (S.count most = if ((num (S.take 4).1 : Nat) : Int) > most then (0, (S.take 4).2.fail 23) else (if (S.take 4).2.fault = 0 then num (S.take 4).1 else 0, (S.take 4).2)) := Lib.hid rfl
  clear h hl
  generalize (S.take 4).1 = B at *
  generalize (S.take 4).2 = S1 at *
  generalize num B = n at *
  generalize hP : wpt p = P at *
  have HP := Lib.hid hP
  clear hP
  by_cases hgt : (n : Int) > most
  · have HV2 : Hid (S.count most = (0, S1.fail 23)) := Lib.hid (by rw [HV.out, if_pos hgt])
    have hd : decide (most < (n : Int)) = true := by simpa using hgt
    clear HV hgt
    go_enter Tryz.func44, Tryz.ntmps44
    go_wp2_with fail
    refine HT.out.mono ?_
    rintro e w1 ⟨rfl, h1, f1⟩
    have H1 := Lib.hid h1
    have F1 := Lib.hid f1
    clear h1 f1
    go_wp2_with (first
      | (go_at_call 92; refine (HN.out _).mono ?_; rintro e w' ⟨rfl, rfl⟩)
      | (go_at_call 88; rw [← HP.out]; refine (rfail_any p S1 23 _ H1.out).mono ?_; rintro e w2 ⟨rfl, h2, f2⟩))
    go_ret
    exact ⟨by rw [HV2.out]; rfl, by rw [HV2.out]; exact h2, F1.out.then f2⟩
  · have HV2 : Hid (S.count most = (if S1.fault = 0 then n else 0, S1)) := Lib.hid (by rw [HV.out, if_neg hgt])
    have hd : decide (most < (n : Int)) = false := by simpa using hgt
    have HI : Hid ((if S1.fault = 0 then (.int .i64 (n : Int) : Value) else .int .i64 0) = .int .i64 ((if S1.fault = 0 then n else 0 : Nat) : Int)) := Lib.hid (by split <;> rfl)
    clear HV hgt
    generalize (if S1.fault = 0 then n else 0) = m at *
    go_enter Tryz.func44, Tryz.ntmps44
    go_wp2_with fail
    refine HT.out.mono ?_
    rintro e w1 ⟨rfl, h1, f1⟩
    have H1 := Lib.hid h1
    have F1 := Lib.hid f1
    have HTO : Hid (Calls Tryz.prog 94 #[P, .int .i64 (n : Int)] w1 fun e w' => e = .returned (.int .i64 (m : Int)) ∧ w1 = w') := Lib.hid (by rw [← HP.out, ← HI.out]; exact told88 p S1 _ w1 h1)
    clear h1 f1
    go_wp2_with (first
      | (go_at_call 92; refine (HN.out _).mono ?_; rintro e w' ⟨rfl, rfl⟩)
      | (go_at_call 94; refine HTO.out.mono ?_; rintro e w2 ⟨rfl, rfl⟩))
    go_ret
    exact ⟨by rw [HV2.out]; rfl, by rw [HV2.out]; exact H1.out, F1.out⟩
set_option maxHeartbeats 400000 in
theorem rtext_any (p : Option Nat) (S : RS) (w : World) (h : RAt w p S) : Calls Tryz.prog 162 #[wpt p] w (RP p w (sv S.text.1) S.text.2) := by
  have HM : Hid (Calls Tryz.prog 154 #[wpt p, .int .i64 1] w (RP p w (.int .i64 ((S.many 1).1 : Nat)) (S.many 1).2)) := Lib.hid (rmany_any p S 1 (by omega) (by omega) w h)
  have HV : Hid (S.text = (S.many 1).2.take (S.many 1).1) := Lib.hid rfl
  clear h
  generalize (S.many 1).1 = n at *
  generalize (S.many 1).2 = S1 at *
  generalize hP : wpt p = P at *
  have HP := Lib.hid hP
  clear hP
  go_enter Tryz.func162, Tryz.ntmps162
  go_wp2_with fail
  refine HM.out.mono ?_
  rintro e w1 ⟨rfl, h1, f1⟩
  have F1 := Lib.hid f1
  have H2 := Lib.hid (rtake_any p S1 n w1 h1)
  rw [HP.out] at H2
  clear h1 f1
  go_wp2_with (go_at_call 93; refine H2.out.mono ?_; rintro e w2 ⟨rfl, h2, f2⟩)
  go_ret
  exact ⟨by rw [HV.out]; rfl, by rw [HV.out]; exact h2, F1.out.then f2⟩
end Go.Proofs.YtikpojnmaiplnaaGreatDoor
/- The library's variables; a checkpoint's file by its number, and the number of a file. -/
namespace Go.Proofs.YtikpojnmaiplnaaGreatDoor
open Go.RowKit Go.Maps Go.Lib
set_option linter.unusedVariables false

/-- The library's own variables, as the program's text lays them. -/
structure Vr (w : World) : Prop where
  tab : Lib.TabIs Tryz.prog w "internal/strconv.uint64pow10" .u64 Lib.pow10Tab
  syn : ∃ tp p, w.var? Tryz.prog "strconv.ErrSyntax" = some #[.iface tp p]
  rng : ∃ tp p, w.var? Tryz.prog "strconv.ErrRange" = some #[.iface tp p]
theorem gTab : Tryz.prog.globalNamed "internal/strconv.uint64pow10" = some 0 := by kernel_rfl
theorem gSyn : Tryz.prog.globalNamed "strconv.ErrSyntax" = some 1 := by kernel_rfl
theorem gRng : Tryz.prog.globalNamed "strconv.ErrRange" = some 2 := by kernel_rfl
theorem var_of {w w' : World} {n : String} {g : Nat} {cs : Array Value} (hg : Tryz.prog.globalNamed n = some g) (hk : w'.heap[g]? = w.heap[g]?) (hv : w.var? Tryz.prog n = some cs) : w'.var? Tryz.prog n = some cs := by
  unfold World.var? at hv ⊢
  simp only [hg, Option.bind_some] at hv ⊢
  rw [hk]; exact hv
theorem var_lt {w : World} {n : String} {g : Nat} {cs : Array Value} (hg : Tryz.prog.globalNamed n = some g) (hv : w.var? Tryz.prog n = some cs) : g < w.heap.size := by
  unfold World.var? at hv
  simp only [hg, Option.bind_some] at hv
  rcases Nat.lt_or_ge g w.heap.size with h | h
  · exact h
  · rw [Array.getElem?_eq_none h] at hv; cases hv
theorem Vr.of {w w' : World} (h : Vr w) (hk : ∀ k, k < 3 → w'.heap[k]? = w.heap[k]?) : Vr w' := by
  obtain ⟨t1, p1, h1⟩ := h.syn
  obtain ⟨t2, p2, h2⟩ := h.rng
  exact ⟨var_of gTab (hk 0 (by omega)) h.tab, ⟨t1, p1, var_of gSyn (hk 1 (by omega)) h1⟩, ⟨t2, p2, var_of gRng (hk 2 (by omega)) h2⟩⟩
theorem Vr.lt {w : World} (h : Vr w) : 3 ≤ w.heap.size := by
  obtain ⟨t2, p2, h2⟩ := h.rng
  have := var_lt gRng h2
  omega
/-- What lies from block B on is not theirs. -/
theorem Vr.below {w w' : World} {B : Nat} (h : Vr w) (hB : 3 ≤ B) (hb : Below B w w') : Vr w' := h.of fun k hk => hb.block k (by omega)
theorem Vr.keep {w w' : World} (h : Vr w) (hb : Fr No w w') : Vr w' := h.of fun k hk => hb.block k (by have := h.lt; omega) id


/-! ### File -/
theorem itoa_any (n : Int) (w : World) (hv : Vr w) (h0 : -9223372036854775808 ≤ n) (h1 : n ≤ 9223372036854775807) :
    Calls Tryz.prog 41 #[.int .i64 n] w fun e w' => e = .returned (sv (Lib.itoa n)) ∧ Fr No w w' := by
  refine (Tryz.strconv_Itoa n h0 h1 w hv.tab).mono ?_
  rintro e w' ⟨rfl, k, os, rfl⟩
  exact ⟨rfl, Fr.of_below (Lib.below_grow _ w (Nat.le_refl _) k os)⟩

def catL : List UInt8 := [99, 97, 116, 45]
def fileW (n : Int) : List UInt8 := if n < 1 ∨ 99999999 < n then [] else catL ++ (Lib.itoa (100000000 + n)).drop 1
theorem itoa9 {n : Int} (h0 : 1 ≤ n) (h1 : n ≤ 99999999) : (Lib.itoa (100000000 + n)).length = 9 := by
  unfold Lib.itoa
  rw [if_neg (by omega), Lib.decDigits_length]
  exact Lib.nDigits_unique 8 _ (by omega) (by omega)
set_option maxHeartbeats 1000000 in
theorem file_any (n : Int) (w : World) (hv : Vr w) (h0 : -9223372036854775808 ≤ n) (h1 : n ≤ 9223372036854775807) :
    Calls Tryz.prog 13 #[.int .i64 n] w fun e w' => e = .returned (sv (fileW n)) ∧ Fr No w w' := by
  by_cases hlo : n < 1
  · have HV : Hid (fileW n = []) := Lib.hid (by unfold fileW; rw [if_pos (.inl hlo)])
    have hlt : decide (n < 1) = true := by simpa using hlo
    go_enter Tryz.func13, Tryz.ntmps13
    go_wp2
    go_ret
    exact ⟨by rw [HV.out]; rfl, Fr.refl _ _⟩
  · have hge : 1 ≤ n := by omega
    have hlt : decide (n < 1) = false := by simpa using hge
    by_cases hhi : 99999999 < n
    · have HV : Hid (fileW n = []) := Lib.hid (by unfold fileW; rw [if_pos (.inr hhi)])
      have hgt : decide (99999999 < n) = true := by simpa using hhi
      go_enter Tryz.func13, Tryz.ntmps13
      go_wp2
      go_ret
      exact ⟨by rw [HV.out]; rfl, Fr.refl _ _⟩
    · have hle : n ≤ 99999999 := by omega
      have hgt : decide (99999999 < n) = false := by simpa using hle
      have HV : Hid (fileW n = [99, 97, 116, 45] ++ (Lib.itoa (100000000 + n)).drop 1) := Lib.hid (by unfold fileW; rw [if_neg (by omega)]; rfl)
      have hd := itoa9 hge hle
      have HI := Lib.hid (itoa_any (100000000 + n) w hv (by omega) (by omega))
      obtain ⟨l, hl⟩ : ∃ l, Lib.itoa (100000000 + n) = l := ⟨_, rfl⟩
      rw [hl] at HI hd HV
      have hrest : (ByteArray.mk l.toArray).extract 1 l.length = ⟨(l.drop 1).toArray⟩ := by rw [ext_list, List.take_length]
      have hl1 : 1 ≤ l.length := by omega
      have hl2 : l.length ≤ 9 := by omega
      have ht9 : (l.drop 1).length ≤ 9 := by simp; omega
      obtain ⟨t, ht⟩ : ∃ t, l.drop 1 = t := ⟨_, rfl⟩
      rw [ht] at HV hrest ht9
      have q1 := fun w' => run_cat [99, 97, 116, 45] t (by simp; omega) w'
      clear hl hv hd ht
      go_enter Tryz.func13, Tryz.ntmps13
      go_wp2_with fail
      refine HI.out.mono ?_
      rintro e w1 ⟨rfl, f1⟩
      have F1 := Lib.hid f1
      clear f1
      obtain ⟨y, hy⟩ : ∃ y, [99, 97, 116, 45] ++ t = y := ⟨_, rfl⟩
      rw [hy] at HV
      simp only [hy] at q1
      clear hy
      go_wp2
      go_ret
      exact ⟨by rw [HV.out]; rfl, F1.out⟩

/-! ### numberOf -/
def numW (s : List UInt8) : Int :=
  match Lib.atoiAll (Lib.trimPrefix s catL) with
  | .ok v => if fileW v = s then v else 0
  | _ => 0
theorem numW_bd (s : List UInt8) : i64 (numW s) := by
  unfold numW
  cases h : Lib.atoiAll (Lib.trimPrefix s catL) with
  | ok v =>
    simp only
    split
    · exact Lib.atoiAll_bounds h
    · unfold i64; omega
  | _ => simp only; unfold i64; omega
theorem trim_any (s : List UInt8) (w : World) : Calls Tryz.prog 169 #[sv s, sv catL] w fun e w' => e = .returned (sv (Lib.trimPrefix s catL)) ∧ w = w' := by
  refine (Tryz.strings_TrimPrefix ⟨s.toArray⟩ ⟨catL.toArray⟩ w).mono ?_
  rintro e w' ⟨h1, h2⟩
  exact ⟨h1, h2.symm⟩
theorem trim_len (s p : List UInt8) : (Lib.trimPrefix s p).length ≤ s.length := by
  unfold Lib.trimPrefix
  split
  · simp
  · exact Nat.le_refl _
theorem bytes_fr (w : World) (t : ByteArray) : Fr No w (Lib.bytesWorld w 5 t) :=
  ⟨rfl, rfl, rfl, by rw [Lib.bytesWorld_size]; omega, fun k hk _ => Lib.bytesWorld_at_old w 5 t k hk⟩
set_option maxHeartbeats 1000000 in
theorem numberOf_any (s : List UInt8) (w : World) (hv : Vr w) (hl : s.length ≤ 1000000) : Calls Tryz.prog 120 #[sv s] w fun e w' => e = .returned (.int .i64 (numW s)) ∧ Fr No w w' := by
  have HT := Lib.hid (trim_any s w)
  have htl := trim_len s catL
  obtain ⟨t, ht⟩ : ∃ t, Lib.trimPrefix s catL = t := ⟨_, rfl⟩
  have HNW : Hid (numW s = match Lib.atoiAll t with | .ok v => if fileW v = s then v else 0 | _ => 0) := Lib.hid (by unfold numW; rw [ht])
  rw [ht] at HT htl
  have HV := Lib.hid hv
  clear ht
  unfold catL at HT
  cases h : Lib.atoiAll t with
  | ok v =>
    have hbd := Lib.atoiAll_bounds h
    have HA := Lib.hid (Tryz.strconv_Atoi_ok ⟨t.toArray⟩ (by rw [sz]; omega) v h w)
    rw [h] at HNW
    clear h htl
    go_enter Tryz.func120, Tryz.ntmps120
    go_wp2_with fail
    refine HT.out.mono ?_
    rintro e w' ⟨rfl, rfl⟩
    go_wp2_with fail
    refine HA.out.mono ?_
    rintro e w1 ⟨rfl, hw1⟩
    have hf1 : Fr No w w1 := by
      rcases hw1 with rfl | ⟨t', rfl⟩
      · exact Fr.refl _ _
      · exact bytes_fr w t'
    have F1 := Lib.hid hf1
    have HN := Lib.hid (file_any v w1 (hv.keep hf1) hbd.1 hbd.2)
    obtain ⟨nv, hnv⟩ : ∃ nv, fileW v = nv := ⟨_, rfl⟩
    rw [hnv] at HN HNW
    clear hw1 hf1 hnv HA hv
    go_wp2_with fail
    refine HN.out.mono ?_
    rintro e w2 ⟨rfl, f2⟩
    have F2 := Lib.hid (F1.out.trans f2 fun _ _ h => h)
    clear f2
    by_cases hc : nv = s
    · have HE : Hid (numW s = v) := Lib.hid (by rw [HNW.out, if_pos hc])
      have hb : (nv == s) = true := by simpa using hc
      have hb2 : (nv != s) = false := by simpa using hc
      clear hc
      go_wp2
      go_ret
      exact ⟨by rw [HE.out]; rfl, F2.out⟩
    · have HE : Hid (numW s = 0) := Lib.hid (by rw [HNW.out, if_neg hc])
      have hb : (nv == s) = false := by simpa using hc
      have hb2 : (nv != s) = true := by simpa using hc
      clear hc
      go_wp2
      go_ret
      exact ⟨by rw [HE.out]; rfl, F2.out⟩
  | range =>
    obtain ⟨tp, p, hs⟩ := hv.rng
    have HA := Lib.hid (Tryz.strconv_Atoi_range_var ⟨t.toArray⟩ (by rw [sz]; omega) h tp p w hs)
    have HE : Hid (numW s = 0) := Lib.hid (by rw [HNW.out, h])
    clear h htl hs hv
    go_enter Tryz.func120, Tryz.ntmps120
    go_wp2_with fail
    refine HT.out.mono ?_
    rintro e w' ⟨rfl, rfl⟩
    go_wp2_with fail
    refine HA.out.mono ?_
    rintro e w1 ⟨NN, rfl, hN1, hN2, hbl⟩
    have F1 := Lib.hid (Fr.of_below hbl)
    clear hN1 hN2 hbl HA
    go_wp2
    go_ret
    exact ⟨by rw [HE.out]; rfl, F1.out⟩
  | _ =>
    obtain ⟨tp, p, hs⟩ := hv.syn
    have HA := Lib.hid (Tryz.strconv_Atoi_syntax_var ⟨t.toArray⟩ (by rw [sz]; omega) (h.trans rfl) tp p w hs)
    have HE : Hid (numW s = 0) := Lib.hid (by rw [HNW.out, h])
    clear h htl hs hv
    go_enter Tryz.func120, Tryz.ntmps120
    go_wp2_with fail
    refine HT.out.mono ?_
    rintro e w' ⟨rfl, rfl⟩
    go_wp2_with fail
    refine HA.out.mono ?_
    rintro e w1 ⟨NN, rfl, hN1, hN2, hbl⟩
    have F1 := Lib.hid (Fr.of_below hbl)
    clear hN1 hN2 hbl HA
    go_wp2
    go_ret
    exact ⟨by rw [HE.out]; rfl, F1.out⟩


end Go.Proofs.YtikpojnmaiplnaaGreatDoor
/- A reader takes up a cell. -/
namespace Go.Proofs.YtikpojnmaiplnaaGreatDoor
open Go.RowKit Go.Maps
set_option linter.unusedVariables false

def RS.cellV (S1 : RS) (k : Nat) : CellP × RS :=
  if k = 0 then (⟨0, 0, []⟩, S1) else if k = 1 then (⟨1, S1.int.1, []⟩, S1.int.2) else if k = 2 then (⟨2, 0, S1.text.1⟩, S1.text.2) else (⟨k, 0, []⟩, S1.fail 22)
def CellP.zero : CellP := ⟨0, 0, []⟩
def RS.cell (S : RS) : CellP × RS := (if (S.byte.2.cellV S.byte.1).2.fault = 0 then (S.byte.2.cellV S.byte.1).1 else CellP.zero, (S.byte.2.cellV S.byte.1).2)
theorem RAt.fr {w w' : World} {p : Option Nat} {S : RS} (h : RAt w p S) {F : Nat → Prop} (hf : Fr F w w') (hF : ∀ k, F k → ¬ RFt p k) : RAt w' p S := h.of fun k hk => hf.block k (h.lt k hk) fun hF' => hF k hF' hk

theorem byte_lt (S : RS) : S.byte.1 < 256 := num_le _ 1 (take_len S 1)
end Go.Proofs.YtikpojnmaiplnaaGreatDoor
/- A row of one's own that grows by what a reader tells. -/
namespace Go.Proofs.YtikpojnmaiplnaaGreatDoor
open Go.RowKit Go.Maps
set_option linter.unusedVariables false

section
variable {α : Type}
/-- What an element's cells mean may hang on blocks of its own: K says which. -/
structure Elem (E : (Nat → Prop) → World → α → List Value → Prop) : Prop where
  mono : ∀ K K' w w' x cs, E K w x cs → (∀ k, K k → k < w.heap.size → K' k ∧ w'.heap[k]? = w.heap[k]?) → E K' w' x cs

/-- v is a row of one's own in blocks from b on, and reads as l. -/
def Grow (b e size : Nat) (E : (Nat → Prop) → World → α → List Value → Prop) (w : World) (v : Value) (l : List α) : Prop :=
  ∃ (K : Nat → Prop) (xs : List Value), w.ownsRow b e size v l.length xs ∧ (∀ j (h : j < l.length), ∃ cs : List Value, cs.length = size ∧ (∀ i, i < size → xs[j * size + i]? = cs[i]?) ∧ E K w l[j] cs) ∧ (∀ k, K k → b ≤ k ∧ k < w.heap.size ∧ v.ownBlock ≠ some k)

theorem Grow.nil (b e size : Nat) (E : (Nat → Prop) → World → α → List Value → Prop) (w : World) (hb : b ≤ w.heap.size) : Grow b e size E (w.alloc (.cells #[] e)) (.slice (some ⟨w.heap.size, 0, none⟩) 0 0) ([] : List α) := by
  refine ⟨fun _ => False, [], ⟨by simp, .inr ⟨w.heap.size, 0, #[], rfl, hb, heap_alloc_new w _, Nat.le_refl _, by simp, by simp, by simp⟩⟩, fun j h => absurd h (by simp), fun k h => h.elim⟩

theorem Grow.len {b e size : Nat} {E : (Nat → Prop) → World → α → List Value → Prop} {w : World} {v : Value} {l : List α} (h : Grow b e size E w v l) : ∃ A c, v = .slice A l.length c := by
  obtain ⟨K, xs, ho, _⟩ := h
  rcases ho.2 with ⟨e1, h0⟩ | ⟨g, cap, cur, e1, _⟩
  · exact ⟨_, _, by rw [h0]; exact e1⟩
  · exact ⟨_, _, e1⟩

/-- The reader's block, and what is new, are none of the row's. -/
theorem Grow.keep {b e size : Nat} {E : (Nat → Prop) → World → α → List Value → Prop} (hE : Elem E) {w w' : World} {v : Value} {l : List α} (h : Grow b e size E w v l) {F : Nat → Prop} (hf : Fr F w w') (hF : ∀ k, F k → k < b) : Grow b e size E w' v l := by
  obtain ⟨K, xs, ho, hel, hK⟩ := h
  refine ⟨K, xs, own_of ho fun k hk => ?_, fun j hj => ?_, fun k hk => ?_⟩
  · have := ho.lt k hk
    exact hf.block k this.2 fun hF' => by have := hF k hF'; omega
  · obtain ⟨cs, h1, h2, h3⟩ := hel j hj
    exact ⟨cs, h1, h2, hE.mono _ _ _ _ _ _ h3 fun k hk hlt => ⟨hk, hf.block k hlt fun hF' => by have := hF k hF'; have := (hK k hk).1; omega⟩⟩
  · obtain ⟨h1, h2, h3⟩ := hK k hk
    exact ⟨h1, Nat.lt_of_lt_of_le h2 hf.size, h3⟩

/-- One more, laid ahead in a block of its own. -/
theorem Grow.more {b e size bytes : Nat} {E : (Nat → Prop) → World → α → List Value → Prop} (hE : Elem E) {w0 w : World} {v : Value} {l : List α} (h : Grow b e size E w v l) (hb : b ≤ w0.heap.size) (hw0 : w0.heap.size ≤ w.heap.size) (hv0 : ∀ k, v.ownBlock = some k → k < w0.heap.size)
    (t : TypeId) (ht : Tryz.prog.underlying t = some (.slice e)) (z : Value) (hinfo : (Tryz.prog.info? e).map (fun i => (i.zero, i.size, i.bytes)) = some (some z, size, bytes)) (hzs : z.cells.size = size) (hsz : 0 < size)
    (x : α) (cs : List Value) (hcs : cs.length = size) (hone : ∀ u ∈ cs, u.oneCell' = true) (hx : E (fun k => w0.heap.size ≤ k) w x cs) (hlen : (l.length + 1) * bytes ≤ 140737488355328) (hmax : l.length + 1 ≤ maxLen) :
    ∃ A c w', (∀ ty, (Builtin.append_ #[t, t] ty #[v, .slice (some ⟨w.heap.size, 0, none⟩) 1 1]).run Tryz.prog (w.alloc (.cells cs.toArray e)) = .ok (.slice A (l.length + 1) c) w') ∧ Grow b e size E w' (.slice A (l.length + 1) c) (l ++ [x]) ∧
      Fr (fun k => v.ownBlock = some k) w w' ∧ (∀ k, (Value.slice A (l.length + 1) c).ownBlock = some k → k < w'.heap.size) := by
  obtain ⟨K, xs, ho, hel, hK⟩ := h
  obtain ⟨i0, hi, hz0, hz1, hz2⟩ := info_parts hinfo
  have hfa : Fr No w (w.alloc (.cells cs.toArray e)) := (Fr.refl No w).alloc _
  have ho' : (w.alloc (.cells cs.toArray e)).ownsRow b e size v l.length xs := own_of ho fun k hk => hfa.block k (ho.lt k hk).2 id
  have hnews : ∀ j u, cs[j]? = some u → (w.alloc (.cells cs.toArray e)).cell? ((⟨w.heap.size, 0, none⟩ : Addr).add j) = some u := by
    intro j u hu
    rw [Addr.add_lit, Nat.zero_add]
    exact ((Blk.new w e cs.toArray).cell j).trans (by simpa using hu)
  obtain ⟨v', w', hr, how, hgr, hnil, hat⟩ := run_append_own_at (P := Tryz.prog) (w.alloc (.cells cs.toArray e)) b t 0 e i0 z size bytes ht hi hz0 hz1 hz2 hzs hsz v l.length xs ho' ⟨w.heap.size, 0, none⟩ 1 1 cs (by omega) hnews hone hmax hlen (by simp; omega)
  have hv' : ∃ A c, v' = .slice A (l.length + 1) c := by
    rcases how.2 with ⟨e1, h0⟩ | ⟨g, cap, cur, e1, _⟩
    · omega
    · exact ⟨_, _, e1⟩
  obtain ⟨A, c, rfl⟩ := hv'
  have hsize : w.heap.size < (w.alloc (.cells cs.toArray e)).heap.size := by simp
  have hfr : Fr (fun k => v.ownBlock = some k) w w' := hfa.any.grown hgr fun k hk _ => hk
  have hw' : w.heap.size < w'.heap.size := Nat.lt_of_lt_of_le hsize hgr.size
  refine ⟨A, c, w', fun ty => hr, ⟨fun k => K k ∨ (w0.heap.size ≤ k ∧ k < w.heap.size), xs ++ cs, by simpa using how, fun j hj => ?_, fun k hk => ?_⟩, hfr, fun k hk => ?_⟩
  · rw [List.length_append, List.length_singleton] at hj
    by_cases hjl : j < l.length
    · obtain ⟨cs', h1, h2, h3⟩ := hel j hjl
      refine ⟨cs', h1, fun i hi' => ?_, ?_⟩
      · have hlt : j * size + i < xs.length := by
          rw [ho.1]
          have := Nat.mul_le_mul_right size (show j + 1 ≤ l.length by omega)
          rw [Nat.add_mul, Nat.one_mul] at this
          omega
        rw [List.getElem?_append_left hlt]; exact h2 i hi'
      · rw [List.getElem_append_left hjl]
        exact hE.mono _ _ _ _ _ _ h3 fun k hk hlt => ⟨.inl hk, hfr.block k hlt (hK k hk).2.2⟩
    · obtain rfl : j = l.length := by omega
      refine ⟨cs, hcs, fun i hi' => ?_, ?_⟩
      · rw [List.getElem?_append_right (by rw [ho.1]; omega), ho.1, Nat.add_sub_cancel_left]
      · rw [List.getElem_append_right (by omega)]
        simp only [Nat.sub_self, List.getElem_cons_zero]
        exact hE.mono _ _ _ _ _ _ hx fun k hk hlt => ⟨.inr ⟨hk, hlt⟩, hfr.block k hlt fun e => by have := hv0 k e; omega⟩
  · have hatk : ∀ j, (Value.slice A (l.length + 1) c).ownBlock = some j → v.ownBlock = some j ∨ j = (w.alloc (.cells cs.toArray e)).heap.size := fun j hj => by
      rcases hat with e1 | e1
      · exact .inl (e1 ▸ hj)
      · rw [hj] at e1; exact .inr (Option.some.inj e1)
    rcases hk with hk | hk
    · obtain ⟨h1, h2, h3⟩ := hK k hk
      refine ⟨h1, by omega, fun e1 => ?_⟩
      rcases hatk k e1 with e2 | e2
      · exact h3 e2
      · omega
    · refine ⟨by omega, by omega, fun e1 => ?_⟩
      rcases hatk k e1 with e2 | e2
      · have := hv0 k e2; omega
      · omega
  · exact (how.lt k hk).2

/-- What was built, read as any row. -/
theorem Grow.row {b e size : Nat} {E : (Nat → Prop) → World → α → List Value → Prop} (hE : Elem E) {w : World} {v : Value} {l : List α} (h : Grow b e size E w v l) (hl : l.length ≤ maxLen) : RowE (fun k => b ≤ k) w size (E (fun k => b ≤ k) w) v l := by
  obtain ⟨A, c, rfl⟩ := h.len
  obtain ⟨K, xs, ho, hel, hK⟩ := h
  refine ⟨A, c, rfl, hl, fun h0 => ?_⟩
  rcases ho.2 with ⟨e1, h0'⟩ | ⟨g, cap, cur, e1, hg, hh, hn, hcm, hcs, htk⟩
  · omega
  · injection e1 with e1 _ e2
    subst e1; subst e2
    refine ⟨g, 0, rfl, hg, fun j hj => ?_⟩
    obtain ⟨cs, h1, h2, h3⟩ := hel j hj
    refine ⟨cs, h1, fun i hi => ?_, hE.mono _ _ _ _ _ _ h3 fun k hk hlt => ⟨(hK k hk).1, rfl⟩⟩
    rw [cell_of_row w g _ cur e (0, 0) hh, ← h2 i hi, ← htk, List.getElem?_take, Nat.zero_add]
    have hlt : j * size + i < l.length * size := by
      have := Nat.mul_le_mul_right size (show j + 1 ≤ l.length by omega)
      rw [Nat.add_mul, Nat.one_mul] at this
      omega
    rw [if_pos hlt]
    simp
theorem Grow.lt {b e size : Nat} {E : (Nat → Prop) → World → α → List Value → Prop} {w : World} {v : Value} {l : List α} (h : Grow b e size E w v l) : ∀ k, v.ownBlock = some k → b ≤ k ∧ k < w.heap.size := by
  obtain ⟨K, xs, ho, _⟩ := h
  intro k hk
  exact ho.lt k hk
end

def strG (_ : Nat → Prop) (_ : World) (s : List UInt8) (cs : List Value) : Prop := strE s cs
def intG (_ : Nat → Prop) (_ : World) (n : Int) (cs : List Value) : Prop := intE n cs
def cellG (_ : Nat → Prop) (_ : World) (c : CellP) (cs : List Value) : Prop := cellE c cs
theorem strG_elem : Elem strG := ⟨fun _ _ _ _ _ _ h _ => h⟩
theorem intG_elem : Elem intG := ⟨fun _ _ _ _ _ _ h _ => h⟩
theorem cellG_elem : Elem cellG := ⟨fun _ _ _ _ _ _ h _ => h⟩
end Go.Proofs.YtikpojnmaiplnaaGreatDoor
/- A reader takes up rows: texts, numbers, cells. -/
namespace Go.Proofs.YtikpojnmaiplnaaGreatDoor
open Go.RowKit Go.Maps
set_option linter.unusedVariables false

/-- so many things, one behind the other -/
def seq {α : Type} (f : RS → α × RS) : Nat → RS → List α × RS
  | 0, S => ([], S)
  | j + 1, S => ((seq f j S).1 ++ [(f (seq f j S).2).1], (f (seq f j S).2).2)
theorem seq_len {α : Type} (f : RS → α × RS) (S : RS) : ∀ j, (seq f j S).1.length = j
  | 0 => rfl
  | j + 1 => by simp [seq, seq_len f S j]
/-- behind an error nothing more is taken up -/
def Stops {α : Type} (f : RS → α × RS) : Prop := ∀ S : RS, S.fault ≠ 0 → (f S).2 = S
theorem seq_stop {α : Type} {f : RS → α × RS} (hf : Stops f) (S : RS) (j n : Nat) (hj : j ≤ n) (h : (seq f j S).2.fault ≠ 0) : (seq f n S).2 = (seq f j S).2 := by
  induction n with
  | zero => obtain rfl : j = 0 := by omega
            rfl
  | succ n ih =>
    rcases Nat.lt_or_ge n j with hlt | hge
    · obtain rfl : j = n + 1 := by omega
      rfl
    · have e := ih hge
      show (f (seq f n S).2).2 = _
      rw [e]; exact hf _ h
def RS.several {α : Type} (f : RS → α × RS) (S : RS) (least : Nat) : List α × RS :=
  (if (seq f (S.many least).1 (S.many least).2).2.fault = 0 then (seq f (S.many least).1 (S.many least).2).1 else [], (seq f (S.many least).1 (S.many least).2).2)
theorem take_stops (n : Nat) : Stops fun S => S.take n := fun S h => by
  show (S.take n).2 = S
  unfold RS.take; rw [if_neg h]
theorem many_stop {S : RS} (h : S.fault ≠ 0) (k : Nat) : S.many k = (0, S) := by
  have ht : S.take 4 = ([], S) := by unfold RS.take; rw [if_neg h]
  unfold RS.many
  rw [ht]
  simp [num]
theorem text_stops : Stops RS.text := fun S h => by unfold RS.text; rw [many_stop h]; exact take_stops 0 S h
theorem int_stops : Stops RS.int := fun S h => take_stops 8 S h
theorem byte_stops : Stops RS.byte := fun S h => take_stops 1 S h
theorem fail_stops {S : RS} (h : S.fault ≠ 0) (e : Int) : S.fail e = S := by unfold RS.fail; rw [if_neg (by simp [h])]
theorem cell_stops : Stops RS.cell := fun S h => by
  have hb : S.byte.2 = S := byte_stops S h
  show (S.byte.2.cellV S.byte.1).2 = S
  rw [hb]
  unfold RS.cellV
  split
  · rfl
  · split
    · exact int_stops S h
    · split
      · exact text_stops S h
      · exact fail_stops h 22
theorem several_stops {α : Type} {f : RS → α × RS} (hf : Stops f) (k : Nat) : Stops fun S => S.several f k := fun S h => by
  show (seq f (S.many k).1 (S.many k).2).2 = S
  rw [many_stop h]; rfl
/-- no reader has more left than ahead -/
def Shrinks {α : Type} (f : RS → α × RS) : Prop := ∀ S : RS, (f S).2.rest.length ≤ S.rest.length
theorem fail_rest (S : RS) (e : Int) : (S.fail e).rest.length ≤ S.rest.length := by unfold RS.fail; split <;> simp
theorem many_le (S : RS) (k : Nat) : (S.many k).1 ≤ S.rest.length := by
  unfold RS.many
  split
  · simp
  · have h1 := take_rest S 4
    have h2 : (S.take 4).2.rest.length / k ≤ (S.take 4).2.rest.length := Nat.div_le_self _ _
    simp only
    omega

/-- A call of a reader that tells a row. -/
def RPr {α : Type} (p : Option Nat) (w : World) (size : Nat) (E : (Nat → Prop) → World → α → List Value → Prop) (l : List α) (S' : RS) (e : Ending) (w' : World) : Prop :=
  ∃ V, e = .returned V ∧ RAt w' p S' ∧ Fr (RFt p) w w' ∧ RowE (fun k => w.heap.size ≤ k) w' size (E (fun k => w.heap.size ≤ k) w') V l

theorem take_le (S : RS) (n : Nat) : (S.take n).1.length ≤ S.rest.length := by
  unfold RS.take
  split
  · split
    · simp
    · simp only [List.length_take]; omega
  · simp
theorem many_rest (S : RS) (k : Nat) : (S.many k).2.rest.length ≤ S.rest.length := by
  unfold RS.many
  split
  · exact Nat.le_trans (fail_rest _ _) (take_rest S 4)
  · exact take_rest S 4
theorem text_le (S : RS) : S.text.1.length ≤ S.rest.length := Nat.le_trans (take_le _ _) (many_rest S 1)
theorem int_bd (S : RS) : i64 S.int.1 := by
  unfold RS.int i64
  rw [IntKind.wrap_i64]
  omega
theorem byte_lt' (S : RS) : S.byte.1 < 256 := num_le _ 1 (take_len S 1)
theorem i64_small (n : Nat) (h : n ≤ 1000) : i64 (n : Int) := by unfold i64; omega
theorem cellV_ok (S : RS) (k : Nat) (hk : k < 256) (h : S.rest.length ≤ 1073741824) : (S.cellV k).1.Ok := by
  have hb := int_bd S
  have ht : S.text.1.length ≤ maxLen := by have := text_le S; unfold maxLen; omega
  have hz : ([] : List UInt8).length ≤ maxLen := by simp
  unfold RS.cellV
  split
  · exact ⟨i64_small 0 (by omega), i64_small 0 (by omega), hz⟩
  · split
    · exact ⟨i64_small 1 (by omega), hb, hz⟩
    · split
      · exact ⟨i64_small 2 (by omega), i64_small 0 (by omega), ht⟩
      · exact ⟨i64_small k (by omega), i64_small 0 (by omega), hz⟩
theorem cell_ok (S : RS) (h : S.rest.length ≤ 1073741824) : S.cell.1.Ok := by
  show (if (S.byte.2.cellV S.byte.1).2.fault = 0 then (S.byte.2.cellV S.byte.1).1 else CellP.zero).Ok
  split
  · exact cellV_ok _ _ (byte_lt' S) (Nat.le_trans (take_rest S 1) h)
  · exact ⟨i64_small 0 (by omega), i64_small 0 (by omega), by simp [CellP.zero]⟩

theorem info9 : (Tryz.prog.info? 9).map (fun i => (i.zero, i.size, i.bytes)) = some (some (.string ⟨#[]⟩), 1, 16) := by kernel_rfl
set_option maxRecDepth 100000 in
set_option maxHeartbeats 4000000 in
theorem several_texts (p : Option Nat) (S : RS) (k : Nat) (hk : 0 < k) (hk8 : k ≤ 8) (w : World) (h : RAt w p S) :
    Calls Tryz.prog 180 #[wpt p, .int .i64 (k : Int), .func (.func 162) #[wpt p] #[]] w (RPr p w 1 strG (S.several RS.text k).1 (S.several RS.text k).2) := by
  obtain ⟨b, hb⟩ : ∃ b, w.heap.size = b := ⟨_, rfl⟩
  obtain ⟨w0, hw0⟩ : ∃ w0, w.alloc (.cells #[] 9) = w0 := ⟨_, rfl⟩
  have hpb : ∀ j, RFt p j → j < b := fun j hj => by have := h.lt j hj; omega
  have hg0 : Grow b 9 1 strG w0 (.slice (some ⟨b, 0, none⟩) 0 0) [] := by rw [← hw0, ← hb]; exact Grow.nil w.heap.size 9 1 strG w (Nat.le_refl _)
  have h0 : RAt w0 p S := by rw [← hw0]; exact h.alloc _
  have f0 : Fr (RFt p) w w0 := by rw [← hw0]; exact (Fr.refl _ w).alloc _
  have hml := many_le S k
  have hsl := h.len
  have HM := Lib.hid (rmany_any p S k hk hk8 w0 h0)
  have HV : Hid (S.several RS.text k = (if (seq RS.text (S.many k).1 (S.many k).2).2.fault = 0 then (seq RS.text (S.many k).1 (S.many k).2).1 else [], (seq RS.text (S.many k).1 (S.many k).2).2)) := Lib.hid rfl
  have HG0 := Lib.hid hg0
  have F0 := Lib.hid f0
  have PB := Lib.hid hpb
  have hn : (S.many k).1 ≤ 1073741824 := by omega
  have HBS := Lib.hid (show b = w.heap.size from hb.symm)
  have HW0 := Lib.hid hw0
  generalize (S.many k).1 = n at *
  generalize (S.many k).2 = S1 at *
  generalize hP : wpt p = P at *
  have HP := Lib.hid hP
  clear hP h h0 f0 hpb hg0 hml hsl hk hk8
  go_enter Tryz.func180, Tryz.ntmps180
  go_wp2_with fail
  refine HM.out.mono ?_
  rintro e w1 ⟨rfl, h1, f1⟩
  have hg1 := HG0.out.keep strG_elem f1 PB.out
  have H1 := Lib.hid h1
  have F1 := Lib.hid (F0.out.then f1)
  have G1 := Lib.hid hg1
  clear h1 f1 hg1 hb hw0
  go_wp2
  go_loopw [7, 12] (fun v i wr => ∃ j : Nat, ∃ A c, j ≤ n ∧ i = .int .i64 j ∧ v = .slice A j c ∧ Grow b 9 1 strG wr (.slice A j c) (seq RS.text j S1).1 ∧ RAt wr p (seq RS.text j S1).2 ∧ Fr (RFt p) w wr) (fun _ i _ => n - (intOf i).toNat)
  case atStart => exact ⟨0, _, _, by omega, rfl, rfl, G1.out, H1.out, F1.out⟩
  case round =>
    obtain ⟨j, A, c, hj, rfl, rfl, hg, hr, hf⟩ := hrel
    have HG := Lib.hid hg
    have HR0 := Lib.hid hr
    have HF := Lib.hid hf
    have HQ : Hid (seq RS.text (j + 1) S1 = ((seq RS.text j S1).1 ++ [(RS.text (seq RS.text j S1).2).1], (RS.text (seq RS.text j S1).2).2)) := Lib.hid rfl
    have HL := Lib.hid (seq_len RS.text S1 j)
    clear hg hr hf
    by_cases hlt : j < n
    · go_wp2_with fail
      rw [← HP.out]
      refine (rtext_any p (seq RS.text j S1).2 wr HR0.out).mono ?_
      rintro e w3 ⟨rfl, h3, f3⟩
      have hg3 := HG.out.keep strG_elem f3 PB.out
      have hel : strG (fun x => wr.heap.size ≤ x) w3 (RS.text (seq RS.text j S1).2).1 [sv (RS.text (seq RS.text j S1).2).1] := ⟨rfl, by have := text_le (seq RS.text j S1).2; have := HR0.out.len; unfold maxLen; omega⟩
      obtain ⟨A', c', w4, hap, hg4, f4, hlt4⟩ := hg3.more strG_elem (w0 := wr) (by rw [HBS.out]; exact HF.out.size) f3.size (fun x hx => (HG.out.lt x hx).2) 22 Tryz.underlying22 (.string ⟨#[]⟩) info9 rfl (by omega) _ [sv (RS.text (seq RS.text j S1).2).1] rfl (by simp [Value.oneCell']) hel (by rw [HL.out]; omega) (by rw [HL.out]; unfold maxLen; omega)
      rw [HL.out] at hap hg4
      have h4 : RAt w4 p (RS.text (seq RS.text j S1).2).2 := h3.fr f4 fun x hx hx' => by have := (HG.out.lt x hx).1; have := PB.out x hx'; omega
      have hf4 : Fr (RFt p) w w4 := (HF.out.then f3).trans f4 fun x hlx hx => by have := (HG.out.lt x hx).1; have := HBS.out; omega
      have HAP := Lib.hid hap
      have HG4 : Hid (Grow b 9 1 strG w4 (.slice A' (j + 1) c') (seq RS.text (j + 1) S1).1) := Lib.hid (by rw [HQ.out]; exact hg4)
      have HR4 : Hid (RAt w4 p (seq RS.text (j + 1) S1).2) := Lib.hid (by rw [HQ.out]; exact h4)
      have HF4 := Lib.hid hf4
      clear h3 f3 hg3 hel hap hg4 f4 hlt4 h4 hf4
      rw [HP.out]
      go_wp2_with (at_builtin; refine wpList_add rfl _ _ _ _ rfl _ _ _ _ rfl rfl (HAP.out _) ?_)
      by_cases hz : (seq RS.text (j + 1) S1).2.fault = 0
      · have HZ := Lib.hid hz
        clear hz
        rw [← HP.out]
        refine (rstop_no p _ w4 HR4.out HZ.out).mono ?_
        rintro e w' ⟨rfl, rfl⟩
        rw [HP.out]
        go_wp2
        go_roundw
        case rel => exact ⟨j + 1, A', c', by omega, by go_num, by go_num, HG4.out, HR4.out, HF4.out⟩
        case measure => simp [intOf]; omega
      · have HZ := Lib.hid hz
        clear hz
        rw [← HP.out]
        refine (rstop_yes p _ w4 HR4.out HZ.out).mono ?_
        rintro e w' ⟨rfl, rfl⟩
        rw [HP.out]
        go_wp2_with fail
        rw [← HP.out]
        refine (told103 p _ _ w4 HR4.out).mono ?_
        rw [if_neg HZ.out]
        rintro e w' ⟨rfl, rfl⟩
        have HE : Hid (S.several RS.text k = ([], (seq RS.text (j + 1) S1).2)) := Lib.hid (by rw [HV.out, seq_stop text_stops S1 (j + 1) n (by omega) HZ.out, if_neg HZ.out])
        go_wp2
        go_ret
        exact ⟨_, rfl, by rw [HE.out]; exact HR4.out, HF4.out, by rw [HE.out]; exact RowE.nil _ _ _ _ _⟩
    · obtain rfl : j = n := by omega
      go_wp2_with fail
      rw [← HP.out]
      refine (told103 p _ _ _ HR0.out).mono ?_
      by_cases hz : (seq RS.text j S1).2.fault = 0
      · rw [if_pos hz]
        rintro e w' ⟨rfl, rfl⟩
        have HE : Hid (S.several RS.text k = seq RS.text j S1) := Lib.hid (by rw [HV.out, if_pos hz])
        have hrow := HG.out.row strG_elem (by rw [HL.out]; unfold maxLen; omega)
        rw [HBS.out] at hrow
        have HROW := Lib.hid hrow
        clear hz hrow
        go_wp2
        go_ret
        exact ⟨_, rfl, by rw [HE.out]; exact HR0.out, HF.out, by rw [HE.out]; exact HROW.out⟩
      · rw [if_neg hz]
        rintro e w' ⟨rfl, rfl⟩
        have HE : Hid (S.several RS.text k = ([], (seq RS.text j S1).2)) := Lib.hid (by rw [HV.out, if_neg hz])
        clear hz
        go_wp2
        go_ret
        exact ⟨_, rfl, by rw [HE.out]; exact HR0.out, HF.out, by rw [HE.out]; exact RowE.nil _ _ _ _ _⟩
end Go.Proofs.YtikpojnmaiplnaaGreatDoor
/- A reader takes up rows of numbers, of cells. -/
namespace Go.Proofs.YtikpojnmaiplnaaGreatDoor
open Go.RowKit Go.Maps
set_option linter.unusedVariables false

theorem info2 : (Tryz.prog.info? 2).map (fun i => (i.zero, i.size, i.bytes)) = some (some (.int .i64 0), 1, 8) := by kernel_rfl
set_option maxRecDepth 100000 in
set_option maxHeartbeats 4000000 in
theorem several_ints (p : Option Nat) (S : RS) (k : Nat) (hk : 0 < k) (hk8 : k ≤ 8) (w : World) (h : RAt w p S) :
    Calls Tryz.prog 156 #[wpt p, .int .i64 (k : Int), .func (.func 89) #[wpt p] #[]] w (RPr p w 1 intG (S.several RS.int k).1 (S.several RS.int k).2) := by
  obtain ⟨b, hb⟩ : ∃ b, w.heap.size = b := ⟨_, rfl⟩
  obtain ⟨w0, hw0⟩ : ∃ w0, w.alloc (.cells #[] 2) = w0 := ⟨_, rfl⟩
  have hpb : ∀ j, RFt p j → j < b := fun j hj => by have := h.lt j hj; omega
  have hg0 : Grow b 2 1 intG w0 (.slice (some ⟨b, 0, none⟩) 0 0) [] := by rw [← hw0, ← hb]; exact Grow.nil w.heap.size 2 1 intG w (Nat.le_refl _)
  have h0 : RAt w0 p S := by rw [← hw0]; exact h.alloc _
  have f0 : Fr (RFt p) w w0 := by rw [← hw0]; exact (Fr.refl _ w).alloc _
  have hml := many_le S k
  have hsl := h.len
  have HM := Lib.hid (rmany_any p S k hk hk8 w0 h0)
  have HV : Hid (S.several RS.int k = (if (seq RS.int (S.many k).1 (S.many k).2).2.fault = 0 then (seq RS.int (S.many k).1 (S.many k).2).1 else [], (seq RS.int (S.many k).1 (S.many k).2).2)) := Lib.hid rfl
  have HG0 := Lib.hid hg0
  have F0 := Lib.hid f0
  have PB := Lib.hid hpb
  have hn : (S.many k).1 ≤ 1073741824 := by omega
  have HBS := Lib.hid (show b = w.heap.size from hb.symm)
  have HW0 := Lib.hid hw0
  generalize (S.many k).1 = n at *
  generalize (S.many k).2 = S1 at *
  generalize hP : wpt p = P at *
  have HP := Lib.hid hP
  clear hP h h0 f0 hpb hg0 hml hsl hk hk8
  go_enter Tryz.func156, Tryz.ntmps156
  go_wp2_with fail
  refine HM.out.mono ?_
  rintro e w1 ⟨rfl, h1, f1⟩
  have hg1 := HG0.out.keep intG_elem f1 PB.out
  have H1 := Lib.hid h1
  have F1 := Lib.hid (F0.out.then f1)
  have G1 := Lib.hid hg1
  clear h1 f1 hg1 hb hw0
  go_wp2
  go_loopw [7, 12] (fun v i wr => ∃ j : Nat, ∃ A c, j ≤ n ∧ i = .int .i64 j ∧ v = .slice A j c ∧ Grow b 2 1 intG wr (.slice A j c) (seq RS.int j S1).1 ∧ RAt wr p (seq RS.int j S1).2 ∧ Fr (RFt p) w wr) (fun _ i _ => n - (intOf i).toNat)
  case atStart => exact ⟨0, _, _, by omega, rfl, rfl, G1.out, H1.out, F1.out⟩
  case round =>
    obtain ⟨j, A, c, hj, rfl, rfl, hg, hr, hf⟩ := hrel
    have HG := Lib.hid hg
    have HR0 := Lib.hid hr
    have HF := Lib.hid hf
    have HQ : Hid (seq RS.int (j + 1) S1 = ((seq RS.int j S1).1 ++ [(RS.int (seq RS.int j S1).2).1], (RS.int (seq RS.int j S1).2).2)) := Lib.hid rfl
    have HL := Lib.hid (seq_len RS.int S1 j)
    clear hg hr hf
    by_cases hlt : j < n
    · go_wp2_with fail
      rw [← HP.out]
      refine (rint_any p (seq RS.int j S1).2 wr HR0.out).mono ?_
      rintro e w3 ⟨rfl, h3, f3⟩
      have hg3 := HG.out.keep intG_elem f3 PB.out
      have hel : intG (fun x => wr.heap.size ≤ x) w3 (RS.int (seq RS.int j S1).2).1 [.int .i64 (RS.int (seq RS.int j S1).2).1] := ⟨rfl, int_bd _⟩
      obtain ⟨A', c', w4, hap, hg4, f4, hlt4⟩ := hg3.more intG_elem (w0 := wr) (by rw [HBS.out]; exact HF.out.size) f3.size (fun x hx => (HG.out.lt x hx).2) 137 Tryz.underlying137 (.int .i64 0) info2 rfl (by omega) _ [.int .i64 (RS.int (seq RS.int j S1).2).1] rfl (by simp [Value.oneCell']) hel (by rw [HL.out]; omega) (by rw [HL.out]; unfold maxLen; omega)
      rw [HL.out] at hap hg4
      have h4 : RAt w4 p (RS.int (seq RS.int j S1).2).2 := h3.fr f4 fun x hx hx' => by have := (HG.out.lt x hx).1; have := PB.out x hx'; omega
      have hf4 : Fr (RFt p) w w4 := (HF.out.then f3).trans f4 fun x hlx hx => by have := (HG.out.lt x hx).1; have := HBS.out; omega
      have HAP := Lib.hid hap
      have HG4 : Hid (Grow b 2 1 intG w4 (.slice A' (j + 1) c') (seq RS.int (j + 1) S1).1) := Lib.hid (by rw [HQ.out]; exact hg4)
      have HR4 : Hid (RAt w4 p (seq RS.int (j + 1) S1).2) := Lib.hid (by rw [HQ.out]; exact h4)
      have HF4 := Lib.hid hf4
      clear h3 f3 hg3 hel hap hg4 f4 hlt4 h4 hf4
      rw [HP.out]
      go_wp2_with (at_builtin; refine wpList_add rfl _ _ _ _ rfl _ _ _ _ rfl rfl (HAP.out _) ?_)
      by_cases hz : (seq RS.int (j + 1) S1).2.fault = 0
      · have HZ := Lib.hid hz
        clear hz
        rw [← HP.out]
        refine (rstop_no p _ w4 HR4.out HZ.out).mono ?_
        rintro e w' ⟨rfl, rfl⟩
        rw [HP.out]
        go_wp2
        go_roundw
        case rel => exact ⟨j + 1, A', c', by omega, by go_num, by go_num, HG4.out, HR4.out, HF4.out⟩
        case measure => simp [intOf]; omega
      · have HZ := Lib.hid hz
        clear hz
        rw [← HP.out]
        refine (rstop_yes p _ w4 HR4.out HZ.out).mono ?_
        rintro e w' ⟨rfl, rfl⟩
        rw [HP.out]
        go_wp2_with fail
        rw [← HP.out]
        refine (told105 p _ _ w4 HR4.out).mono ?_
        rw [if_neg HZ.out]
        rintro e w' ⟨rfl, rfl⟩
        have HE : Hid (S.several RS.int k = ([], (seq RS.int (j + 1) S1).2)) := Lib.hid (by rw [HV.out, seq_stop int_stops S1 (j + 1) n (by omega) HZ.out, if_neg HZ.out])
        go_wp2
        go_ret
        exact ⟨_, rfl, by rw [HE.out]; exact HR4.out, HF4.out, by rw [HE.out]; exact RowE.nil _ _ _ _ _⟩
    · obtain rfl : j = n := by omega
      go_wp2_with fail
      rw [← HP.out]
      refine (told105 p _ _ _ HR0.out).mono ?_
      by_cases hz : (seq RS.int j S1).2.fault = 0
      · rw [if_pos hz]
        rintro e w' ⟨rfl, rfl⟩
        have HE : Hid (S.several RS.int k = seq RS.int j S1) := Lib.hid (by rw [HV.out, if_pos hz])
        have hrow := HG.out.row intG_elem (by rw [HL.out]; unfold maxLen; omega)
        rw [HBS.out] at hrow
        have HROW := Lib.hid hrow
        clear hz hrow
        go_wp2
        go_ret
        exact ⟨_, rfl, by rw [HE.out]; exact HR0.out, HF.out, by rw [HE.out]; exact HROW.out⟩
      · rw [if_neg hz]
        rintro e w' ⟨rfl, rfl⟩
        have HE : Hid (S.several RS.int k = ([], (seq RS.int j S1).2)) := Lib.hid (by rw [HV.out, if_neg hz])
        clear hz
        go_wp2
        go_ret
        exact ⟨_, rfl, by rw [HE.out]; exact HR0.out, HF.out, by rw [HE.out]; exact RowE.nil _ _ _ _ _⟩
theorem info93 : (Tryz.prog.info? 185).map (fun i => (i.zero, i.size, i.bytes)) = some (some (.agg #[.int .i64 0, .int .i64 0, .string ⟨#[]⟩]), 3, 32) := by kernel_rfl
end Go.Proofs.YtikpojnmaiplnaaGreatDoor
/- The rows by their calls; a fact, a schema taken up. -/
namespace Go.Proofs.YtikpojnmaiplnaaGreatDoor
open Go.RowKit Go.Maps
set_option linter.unusedVariables false

theorem RowE.bound {α : Type} {K : Nat → Prop} {w : World} {size : Nat} {E : α → List Value → Prop} {v : Value} {l : List α} (h : RowE K w size E v l) (hs : 0 < size) : RowE (fun k => K k ∧ k < w.heap.size) w size E v l := by
  obtain ⟨A, c, e, hm, h⟩ := h
  refine ⟨A, c, e, hm, fun hl => ?_⟩
  obtain ⟨g, off, e1, hg, h⟩ := h hl
  refine ⟨g, off, e1, ⟨hg, ?_⟩, h⟩
  obtain ⟨cs, h1, h2, _⟩ := h 0 hl
  have h3 := h2 0 hs
  rw [List.getElem?_eq_getElem (by omega)] at h3
  exact World.block_lt_of_cell? _ _ h3
def RS.texts (S : RS) : List (List UInt8) × RS := S.several RS.text 4
def RS.cells (S : RS) : List CellP × RS := S.several RS.cell 1
def RS.ints (S : RS) : List Int × RS := S.several RS.int 8
def FactP.zero : FactP := ⟨[], []⟩
def RS.fact (S : RS) : FactP × RS := (if S.texts.2.ints.2.fault = 0 then ⟨S.texts.1, S.texts.2.ints.1⟩ else FactP.zero, S.texts.2.ints.2)
def RS.schema (S : RS) : (List (List UInt8) × List (List UInt8)) × RS := (if S.texts.2.texts.2.fault = 0 then (S.texts.1, S.texts.2.texts.1) else ([], []), S.texts.2.texts.2)
theorem ints_any (p : Option Nat) (S : RS) (w : World) (h : RAt w p S) : Calls Tryz.prog 156 #[wpt p, .int .i64 8, .func (.func 89) #[wpt p] #[]] w (RPr p w 1 intG S.ints.1 S.ints.2) := several_ints p S 8 (by omega) (by omega) w h
set_option maxHeartbeats 400000 in
theorem rtexts_any (p : Option Nat) (S : RS) (w : World) (h : RAt w p S) : Calls Tryz.prog 152 #[wpt p] w (RPr p w 1 strG S.texts.1 S.texts.2) := by
  have HS : Hid (Calls Tryz.prog 180 #[wpt p, .int .i64 4, .func (.func 162) #[wpt p] #[]] w (RPr p w 1 strG S.texts.1 S.texts.2)) := Lib.hid (several_texts p S 4 (by omega) (by omega) w h)
  have hmf := mkf
  clear h
  generalize hP : wpt p = P at *
  clear hP
  go_enter Tryz.func152, Tryz.ntmps152
  go_wp2_with fail
  refine HS.out.mono ?_
  rintro e w1 ⟨V, rfl, h1, h2, h3⟩
  go_wp2
  go_ret
  exact ⟨V, rfl, h1, h2, h3⟩
/-- A call that tells two rows. -/
def RP2i (p : Option Nat) (w : World) (d : List (List UInt8)) (m : List Int) (S' : RS) (e : Ending) (w' : World) : Prop :=
  ∃ dv mv, e = .returned (.agg #[dv, mv]) ∧ RAt w' p S' ∧ Fr (RFt p) w w' ∧ RowE (fun k => w.heap.size ≤ k) w' 1 strE dv d ∧ RowE (fun k => w.heap.size ≤ k) w' 1 intE mv m
theorem told93i (p : Option Nat) (S : RS) (K : Nat → Prop) (dv mv : Value) (d : List (List UInt8)) (m : List Int) (w : World) (h : RAt w p S) (hd : RowE K w 1 strE dv d) (hm : RowE K w 1 intE mv m) :
    Calls Tryz.prog 157 #[wpt p, .agg #[dv, mv]] w fun e w' => ∃ A1 n1 c1 A2 n2 c2, e = .returned (.agg #[.slice A1 n1 c1, .slice A2 n2 c2]) ∧ Below w.heap.size w w' ∧ RowE K w 1 strE (.slice A1 n1 c1) (if S.fault = 0 then d else []) ∧ RowE K w 1 intE (.slice A2 n2 c2) (if S.fault = 0 then m else []) := by
  obtain ⟨A1, n1, c1, rfl⟩ := hd.slice
  obtain ⟨A2, n2, c2, rfl⟩ := hm.slice
  refine (told93 p S A1 A2 n1 n2 c1 c2 w h).mono ?_
  rintro e w' ⟨rfl, hb⟩
  by_cases h0 : S.fault = 0
  · rw [if_pos h0, if_pos h0, if_pos h0]; exact ⟨_, _, _, _, _, _, rfl, hb, hd, hm⟩
  · rw [if_neg h0, if_neg h0, if_neg h0]; exact ⟨_, _, _, _, _, _, rfl, hb, RowE.nil _ _ _ _ _, RowE.nil _ _ _ _ _⟩
set_option maxRecDepth 100000 in
set_option maxHeartbeats 2000000 in
theorem rfact_any (p : Option Nat) (S : RS) (w : World) (h : RAt w p S) : Calls Tryz.prog 96 #[wpt p] w (RP2i p w S.fact.1.dims S.fact.1.meas S.fact.2) := by
  obtain ⟨w0, hw0⟩ : ∃ w0, w.alloc (.cells #[.slice none 0 0, .slice none 0 0] 139) = w0 := ⟨_, rfl⟩
  obtain ⟨gr, hgr⟩ : ∃ gr, w.heap.size = gr := ⟨_, rfl⟩
  have h0 : RAt w0 p S := by rw [← hw0]; exact h.alloc _
  have hb0 : Blk w0 gr 139 #[.slice none 0 0, .slice none 0 0] := by rw [← hw0, ← hgr]; exact Blk.new w 139 _
  have hf0 : Fr (RFt p) w w0 := by rw [← hw0]; exact (Fr.refl _ w).alloc _
  have hs0 : gr < w0.heap.size := hb0.lt
  have hnr : ¬ RFt p gr := fun e => by have := h.lt gr e; omega
  have H0 := Lib.hid h0
  have X0 := Lib.hid hb0
  have F0 := Lib.hid hf0
  have S0 := Lib.hid hs0
  have NR := Lib.hid hnr
  have GR := Lib.hid hgr
  have PB : Hid (∀ k, RFt p k → k < gr) := Lib.hid fun k hk => hgr ▸ h.lt k hk
  have hmf := mkf
  have HV1 : Hid (S.fact.2 = S.texts.2.ints.2) := Lib.hid rfl
  have HV2 : Hid (S.fact.1.dims = if S.texts.2.ints.2.fault = 0 then S.texts.1 else []) := Lib.hid (by simp only [RS.fact]; split <;> rfl)
  have HV3 : Hid (S.fact.1.meas = if S.texts.2.ints.2.fault = 0 then S.texts.2.ints.1 else []) := Lib.hid (by simp only [RS.fact]; split <;> rfl)
  clear h h0 hb0 hf0 hnr hs0
  generalize hP : wpt p = P at *
  have HP := Lib.hid hP
  clear hP
  go_enter Tryz.func96, Tryz.ntmps96
  go_wp2_with fail
  rw [← HP.out]
  refine (rtexts_any p S w0 H0.out).mono ?_
  rintro e w1 ⟨dv, rfl, h1, f1, r1⟩
  have hx1 := X0.out.of (f1.block gr X0.out.lt NR.out)
  have H1 := Lib.hid h1
  have hr1 := (r1.bound (by omega)).mono (K' := fun k => gr < k ∧ k < w1.heap.size) fun k hk => ⟨by have := S0.out; have := hk.1; omega, hk.2⟩
  have R1 := Lib.hid hr1
  have X1 := Lib.hid hx1
  have F1 := Lib.hid (F0.out.then f1)
  clear h1 f1 r1 hx1 hw0 hgr hr1
  rw [HP.out]
  go_wp2_with fail
  rw [← HP.out]
  refine (ints_any p S.texts.2 w1 H1.out).mono ?_
  rintro e w2 ⟨mv, rfl, h2, f2, r2⟩
  have hx2 := X1.out.of (f2.block gr X1.out.lt NR.out)
  have H2 := Lib.hid h2
  have hr2 : RowE (fun k => gr < k ∧ k < w2.heap.size) w2 1 strE dv S.texts.1 := (R1.out.of (fun k hk => f2.block k hk.2 fun e => by have := PB.out k e; omega) fun _ _ h => h).mono fun k hk => ⟨hk.1, Nat.lt_of_lt_of_le hk.2 f2.size⟩
  have hr3 : RowE (fun k => gr < k ∧ k < w2.heap.size) w2 1 intE mv S.texts.2.ints.1 := (r2.bound (by omega)).mono fun k hk => ⟨by have := X1.out.lt; have := hk.1; omega, hk.2⟩
  have R2 := Lib.hid hr2
  have R3 := Lib.hid hr3
  have X2 := Lib.hid hx2
  have F2 := Lib.hid (F1.out.then f2)
  obtain ⟨A1, n1, c1, rfl⟩ := hr2.slice
  obtain ⟨A2, n2, c2, rfl⟩ := hr3.slice
  clear h2 f2 r2 hx2 hr2 hr3 R1 X1 F1 H1
  rw [HP.out]
  go_wp2_with fail
  rw [← HP.out]
  refine (told93i p S.texts.2.ints.2 _ _ _ _ _ w2 H2.out R2.out R3.out).mono ?_
  rintro e w3 ⟨B1, m1, k1, B2, m2, k2, rfl, hb3, q1, q2⟩
  have hx3 := X2.out.of (hb3.block gr X2.out.lt)
  have z0 : w3.cell? ⟨gr, 0, none⟩ = some (.slice none 0 0) := hx3.cell 0
  have z1 : w3.cell? ⟨gr, 1, none⟩ = some (.slice none 0 0) := hx3.cell 1
  have y0 := hx3.frozen 0
  have y1 := hx3.frozen 1
  have hfin : RAt ((w3.setCell ⟨gr, 0, none⟩ (.slice B1 m1 k1)).setCell ⟨gr, 1, none⟩ (.slice B2 m2 k2)) p S.texts.2.ints.2 ∧ Fr (RFt p) w ((w3.setCell ⟨gr, 0, none⟩ (.slice B1 m1 k1)).setCell ⟨gr, 1, none⟩ (.slice B2 m2 k2)) ∧
      (∀ k, gr < k ∧ k < w2.heap.size → ((w3.setCell ⟨gr, 0, none⟩ (.slice B1 m1 k1)).setCell ⟨gr, 1, none⟩ (.slice B2 m2 k2)).heap[k]? = w2.heap[k]?) := by
    have hset : ∀ k, k ≠ gr → ((w3.setCell ⟨gr, 0, none⟩ (.slice B1 m1 k1)).setCell ⟨gr, 1, none⟩ (.slice B2 m2 k2)).heap[k]? = w3.heap[k]? := fun k hk => by
      rw [Below.heap_setCell _ _ _ k hk, Below.heap_setCell _ _ _ k hk]
    refine ⟨(H2.out.below hb3).of fun k hk => hset k fun e => NR.out (e ▸ hk), ?_, fun k hk => ?_⟩
    · have hlt : ¬ gr < w.heap.size := by have := GR.out; omega
      exact ((F2.out.then (Fr.of_below hb3).any).setCell (p := ⟨gr, 0, none⟩) (fun h => absurd h hlt) _).setCell (p := ⟨gr, 1, none⟩) (fun h => absurd h hlt) _
    · rw [hset k (by omega)]; exact hb3.block k hk.2
  have HF := Lib.hid hfin
  have Q1 := Lib.hid q1
  have Q2 := Lib.hid q2
  clear hfin q1 q2 hb3 hx3
  go_wp2
  refine bodyPost_ret (v := .agg #[.slice B1 m1 k1, .slice B2 m2 k2]) (by simp [results, Tryz.results96, go_sem, z0, z1]) rfl ?_
  obtain ⟨e1, e2, e3⟩ := HF.out
  have hkw : ∀ k, gr < k ∧ k < w2.heap.size → w.heap.size ≤ k := fun k hk => by have := GR.out; omega
  exact ⟨_, _, rfl, by rw [HV1.out]; exact e1, e2, by rw [HV2.out]; exact (Q1.out.of e3 fun _ _ h => h).mono hkw, by rw [HV3.out]; exact (Q2.out.of e3 fun _ _ h => h).mono hkw⟩
/-- A call that tells two rows. -/
def RP2t (p : Option Nat) (w : World) (d : List (List UInt8)) (m : List (List UInt8)) (S' : RS) (e : Ending) (w' : World) : Prop :=
  ∃ dv mv, e = .returned (.agg #[dv, mv]) ∧ RAt w' p S' ∧ Fr (RFt p) w w' ∧ RowE (fun k => w.heap.size ≤ k) w' 1 strE dv d ∧ RowE (fun k => w.heap.size ≤ k) w' 1 strE mv m
theorem told95t (p : Option Nat) (S : RS) (K : Nat → Prop) (dv mv : Value) (d : List (List UInt8)) (m : List (List UInt8)) (w : World) (h : RAt w p S) (hd : RowE K w 1 strE dv d) (hm : RowE K w 1 strE mv m) :
    Calls Tryz.prog 153 #[wpt p, .agg #[dv, mv]] w fun e w' => ∃ A1 n1 c1 A2 n2 c2, e = .returned (.agg #[.slice A1 n1 c1, .slice A2 n2 c2]) ∧ Below w.heap.size w w' ∧ RowE K w 1 strE (.slice A1 n1 c1) (if S.fault = 0 then d else []) ∧ RowE K w 1 strE (.slice A2 n2 c2) (if S.fault = 0 then m else []) := by
  obtain ⟨A1, n1, c1, rfl⟩ := hd.slice
  obtain ⟨A2, n2, c2, rfl⟩ := hm.slice
  refine (told95 p S A1 A2 n1 n2 c1 c2 w h).mono ?_
  rintro e w' ⟨rfl, hb⟩
  by_cases h0 : S.fault = 0
  · rw [if_pos h0, if_pos h0, if_pos h0]; exact ⟨_, _, _, _, _, _, rfl, hb, hd, hm⟩
  · rw [if_neg h0, if_neg h0, if_neg h0]; exact ⟨_, _, _, _, _, _, rfl, hb, RowE.nil _ _ _ _ _, RowE.nil _ _ _ _ _⟩
set_option maxRecDepth 100000 in
set_option maxHeartbeats 2000000 in
theorem rschema_any (p : Option Nat) (S : RS) (w : World) (h : RAt w p S) : Calls Tryz.prog 90 #[wpt p] w (RP2t p w S.schema.1.1 S.schema.1.2 S.schema.2) := by
  obtain ⟨w0, hw0⟩ : ∃ w0, w.alloc (.cells #[.slice none 0 0, .slice none 0 0] 24) = w0 := ⟨_, rfl⟩
  obtain ⟨gr, hgr⟩ : ∃ gr, w.heap.size = gr := ⟨_, rfl⟩
  have h0 : RAt w0 p S := by rw [← hw0]; exact h.alloc _
  have hb0 : Blk w0 gr 24 #[.slice none 0 0, .slice none 0 0] := by rw [← hw0, ← hgr]; exact Blk.new w 24 _
  have hf0 : Fr (RFt p) w w0 := by rw [← hw0]; exact (Fr.refl _ w).alloc _
  have hs0 : gr < w0.heap.size := hb0.lt
  have hnr : ¬ RFt p gr := fun e => by have := h.lt gr e; omega
  have H0 := Lib.hid h0
  have X0 := Lib.hid hb0
  have F0 := Lib.hid hf0
  have S0 := Lib.hid hs0
  have NR := Lib.hid hnr
  have GR := Lib.hid hgr
  have PB : Hid (∀ k, RFt p k → k < gr) := Lib.hid fun k hk => hgr ▸ h.lt k hk
  have hmf := mkf
  have HV1 : Hid (S.schema.2 = S.texts.2.texts.2) := Lib.hid rfl
  have HV2 : Hid (S.schema.1.1 = if S.texts.2.texts.2.fault = 0 then S.texts.1 else []) := Lib.hid (by simp only [RS.schema]; split <;> rfl)
  have HV3 : Hid (S.schema.1.2 = if S.texts.2.texts.2.fault = 0 then S.texts.2.texts.1 else []) := Lib.hid (by simp only [RS.schema]; split <;> rfl)
  clear h h0 hb0 hf0 hnr hs0
  generalize hP : wpt p = P at *
  have HP := Lib.hid hP
  clear hP
  go_enter Tryz.func90, Tryz.ntmps90
  go_wp2_with fail
  rw [← HP.out]
  refine (rtexts_any p S w0 H0.out).mono ?_
  rintro e w1 ⟨dv, rfl, h1, f1, r1⟩
  have hx1 := X0.out.of (f1.block gr X0.out.lt NR.out)
  have H1 := Lib.hid h1
  have hr1 := (r1.bound (by omega)).mono (K' := fun k => gr < k ∧ k < w1.heap.size) fun k hk => ⟨by have := S0.out; have := hk.1; omega, hk.2⟩
  have R1 := Lib.hid hr1
  have X1 := Lib.hid hx1
  have F1 := Lib.hid (F0.out.then f1)
  clear h1 f1 r1 hx1 hw0 hgr hr1
  rw [HP.out]
  go_wp2_with fail
  rw [← HP.out]
  refine (rtexts_any p S.texts.2 w1 H1.out).mono ?_
  rintro e w2 ⟨mv, rfl, h2, f2, r2⟩
  have hx2 := X1.out.of (f2.block gr X1.out.lt NR.out)
  have H2 := Lib.hid h2
  have hr2 : RowE (fun k => gr < k ∧ k < w2.heap.size) w2 1 strE dv S.texts.1 := (R1.out.of (fun k hk => f2.block k hk.2 fun e => by have := PB.out k e; omega) fun _ _ h => h).mono fun k hk => ⟨hk.1, Nat.lt_of_lt_of_le hk.2 f2.size⟩
  have hr3 : RowE (fun k => gr < k ∧ k < w2.heap.size) w2 1 strE mv S.texts.2.texts.1 := (r2.bound (by omega)).mono fun k hk => ⟨by have := X1.out.lt; have := hk.1; omega, hk.2⟩
  have R2 := Lib.hid hr2
  have R3 := Lib.hid hr3
  have X2 := Lib.hid hx2
  have F2 := Lib.hid (F1.out.then f2)
  obtain ⟨A1, n1, c1, rfl⟩ := hr2.slice
  obtain ⟨A2, n2, c2, rfl⟩ := hr3.slice
  clear h2 f2 r2 hx2 hr2 hr3 R1 X1 F1 H1
  rw [HP.out]
  go_wp2_with fail
  rw [← HP.out]
  refine (told95t p S.texts.2.texts.2 _ _ _ _ _ w2 H2.out R2.out R3.out).mono ?_
  rintro e w3 ⟨B1, m1, k1, B2, m2, k2, rfl, hb3, q1, q2⟩
  have hx3 := X2.out.of (hb3.block gr X2.out.lt)
  have z0 : w3.cell? ⟨gr, 0, none⟩ = some (.slice none 0 0) := hx3.cell 0
  have z1 : w3.cell? ⟨gr, 1, none⟩ = some (.slice none 0 0) := hx3.cell 1
  have y0 := hx3.frozen 0
  have y1 := hx3.frozen 1
  have hfin : RAt ((w3.setCell ⟨gr, 0, none⟩ (.slice B1 m1 k1)).setCell ⟨gr, 1, none⟩ (.slice B2 m2 k2)) p S.texts.2.texts.2 ∧ Fr (RFt p) w ((w3.setCell ⟨gr, 0, none⟩ (.slice B1 m1 k1)).setCell ⟨gr, 1, none⟩ (.slice B2 m2 k2)) ∧
      (∀ k, gr < k ∧ k < w2.heap.size → ((w3.setCell ⟨gr, 0, none⟩ (.slice B1 m1 k1)).setCell ⟨gr, 1, none⟩ (.slice B2 m2 k2)).heap[k]? = w2.heap[k]?) := by
    have hset : ∀ k, k ≠ gr → ((w3.setCell ⟨gr, 0, none⟩ (.slice B1 m1 k1)).setCell ⟨gr, 1, none⟩ (.slice B2 m2 k2)).heap[k]? = w3.heap[k]? := fun k hk => by
      rw [Below.heap_setCell _ _ _ k hk, Below.heap_setCell _ _ _ k hk]
    refine ⟨(H2.out.below hb3).of fun k hk => hset k fun e => NR.out (e ▸ hk), ?_, fun k hk => ?_⟩
    · have hlt : ¬ gr < w.heap.size := by have := GR.out; omega
      exact ((F2.out.then (Fr.of_below hb3).any).setCell (p := ⟨gr, 0, none⟩) (fun h => absurd h hlt) _).setCell (p := ⟨gr, 1, none⟩) (fun h => absurd h hlt) _
    · rw [hset k (by omega)]; exact hb3.block k hk.2
  have HF := Lib.hid hfin
  have Q1 := Lib.hid q1
  have Q2 := Lib.hid q2
  clear hfin q1 q2 hb3 hx3
  go_wp2
  refine bodyPost_ret (v := .agg #[.slice B1 m1 k1, .slice B2 m2 k2]) (by simp [results, Tryz.results90, go_sem, z0, z1]) rfl ?_
  obtain ⟨e1, e2, e3⟩ := HF.out
  have hkw : ∀ k, gr < k ∧ k < w2.heap.size → w.heap.size ≤ k := fun k hk => by have := GR.out; omega
  exact ⟨_, _, rfl, by rw [HV1.out]; exact e1, e2, by rw [HV2.out]; exact (Q1.out.of e3 fun _ _ h => h).mono hkw, by rw [HV3.out]; exact (Q2.out.of e3 fun _ _ h => h).mono hkw⟩
end Go.Proofs.YtikpojnmaiplnaaGreatDoor
/- A reader takes up facts. -/
namespace Go.Proofs.YtikpojnmaiplnaaGreatDoor
open Go.RowKit Go.Maps
set_option linter.unusedVariables false

abbrev factG (K : Nat → Prop) (w : World) (f : FactP) (cs : List Value) : Prop := factE K w f cs
theorem factG_elem : Elem factG := ⟨fun K K' w w' x cs h hk => by
  obtain ⟨dv, mv, e, h1, h2⟩ := h
  exact ⟨dv, mv, e, ((h1.bound (by omega)).of (w' := w') (fun k hk' => (hk k hk'.1 hk'.2).2) fun _ _ h => h).mono fun k hk' => (hk k hk'.1 hk'.2).1, ((h2.bound (by omega)).of (w' := w') (fun k hk' => (hk k hk'.1 hk'.2).2) fun _ _ h => h).mono fun k hk' => (hk k hk'.1 hk'.2).1⟩⟩
theorem fact_stops : Stops RS.fact := fun S h => by
  have h1 : S.texts.2 = S := several_stops text_stops 4 S h
  show S.texts.2.ints.2 = S
  rw [h1]
  exact several_stops int_stops 8 S h
def RS.facts (S : RS) : List FactP × RS := S.several RS.fact 8
theorem info99 : (Tryz.prog.info? 139).map (fun i => (i.zero, i.size, i.bytes)) = some (some (.agg #[.slice none 0 0, .slice none 0 0]), 2, 48) := by kernel_rfl
set_option maxRecDepth 100000 in
set_option maxHeartbeats 4000000 in
theorem several_facts (p : Option Nat) (S : RS) (k : Nat) (hk : 0 < k) (hk8 : k ≤ 8) (w : World) (h : RAt w p S) :
    Calls Tryz.prog 95 #[wpt p, .int .i64 (k : Int), .func (.func 96) #[wpt p] #[]] w (RPr p w 2 factG (S.several RS.fact k).1 (S.several RS.fact k).2) := by
  obtain ⟨b, hb⟩ : ∃ b, w.heap.size = b := ⟨_, rfl⟩
  obtain ⟨w0, hw0⟩ : ∃ w0, w.alloc (.cells #[] 139) = w0 := ⟨_, rfl⟩
  have hpb : ∀ j, RFt p j → j < b := fun j hj => by have := h.lt j hj; omega
  have hg0 : Grow b 139 2 factG w0 (.slice (some ⟨b, 0, none⟩) 0 0) [] := by rw [← hw0, ← hb]; exact Grow.nil w.heap.size 139 2 factG w (Nat.le_refl _)
  have h0 : RAt w0 p S := by rw [← hw0]; exact h.alloc _
  have f0 : Fr (RFt p) w w0 := by rw [← hw0]; exact (Fr.refl _ w).alloc _
  have hml := many_le S k
  have hsl := h.len
  have HM := Lib.hid (rmany_any p S k hk hk8 w0 h0)
  have HV : Hid (S.several RS.fact k = (if (seq RS.fact (S.many k).1 (S.many k).2).2.fault = 0 then (seq RS.fact (S.many k).1 (S.many k).2).1 else [], (seq RS.fact (S.many k).1 (S.many k).2).2)) := Lib.hid rfl
  have HG0 := Lib.hid hg0
  have F0 := Lib.hid f0
  have PB := Lib.hid hpb
  have hn : (S.many k).1 ≤ 1073741824 := by omega
  have HBS := Lib.hid (show b = w.heap.size from hb.symm)
  have HW0 := Lib.hid hw0
  generalize (S.many k).1 = n at *
  generalize (S.many k).2 = S1 at *
  generalize hP : wpt p = P at *
  have HP := Lib.hid hP
  clear hP h h0 f0 hpb hg0 hml hsl hk hk8
  go_enter Tryz.func95, Tryz.ntmps95
  go_wp2_with fail
  refine HM.out.mono ?_
  rintro e w1 ⟨rfl, h1, f1⟩
  have hg1 := HG0.out.keep factG_elem f1 PB.out
  have H1 := Lib.hid h1
  have F1 := Lib.hid (F0.out.then f1)
  have G1 := Lib.hid hg1
  clear h1 f1 hg1 hb hw0
  go_wp2
  go_loopw [7, 12] (fun v i wr => ∃ j : Nat, ∃ A c, j ≤ n ∧ i = .int .i64 j ∧ v = .slice A j c ∧ Grow b 139 2 factG wr (.slice A j c) (seq RS.fact j S1).1 ∧ RAt wr p (seq RS.fact j S1).2 ∧ Fr (RFt p) w wr) (fun _ i _ => n - (intOf i).toNat)
  case atStart => exact ⟨0, _, _, by omega, rfl, rfl, G1.out, H1.out, F1.out⟩
  case round =>
    obtain ⟨j, A, c, hj, rfl, rfl, hg, hr, hf⟩ := hrel
    have HG := Lib.hid hg
    have HR0 := Lib.hid hr
    have HF := Lib.hid hf
    have HQ : Hid (seq RS.fact (j + 1) S1 = ((seq RS.fact j S1).1 ++ [(RS.fact (seq RS.fact j S1).2).1], (RS.fact (seq RS.fact j S1).2).2)) := Lib.hid rfl
    have HL := Lib.hid (seq_len RS.fact S1 j)
    clear hg hr hf
    by_cases hlt : j < n
    · go_wp2_with fail
      rw [← HP.out]
      refine (rfact_any p (seq RS.fact j S1).2 wr HR0.out).mono ?_
      rintro e w3 ⟨dv, mv, rfl, h3, f3, rd, rm⟩
      obtain ⟨A1, n1, k1, rfl⟩ := rd.slice
      obtain ⟨A2, n2, k2, rfl⟩ := rm.slice
      have hg3 := HG.out.keep factG_elem f3 PB.out
      have hel : factG (fun x => wr.heap.size ≤ x) w3 (RS.fact (seq RS.fact j S1).2).1 [.slice A1 n1 k1, .slice A2 n2 k2] := ⟨_, _, rfl, rd, rm⟩
      obtain ⟨A', c', w4, hap, hg4, f4, hlt4⟩ := hg3.more factG_elem (w0 := wr) (by rw [HBS.out]; exact HF.out.size) f3.size (fun x hx => (HG.out.lt x hx).2) 76 Tryz.underlying76 (.agg #[.slice none 0 0, .slice none 0 0]) info99 rfl (by omega) _ [.slice A1 n1 k1, .slice A2 n2 k2] rfl (by simp [Value.oneCell']) hel (by rw [HL.out]; omega) (by rw [HL.out]; unfold maxLen; omega)
      rw [HL.out] at hap hg4
      have h4 : RAt w4 p (RS.fact (seq RS.fact j S1).2).2 := h3.fr f4 fun x hx hx' => by have := (HG.out.lt x hx).1; have := PB.out x hx'; omega
      have hf4 : Fr (RFt p) w w4 := (HF.out.then f3).trans f4 fun x hlx hx => by have := (HG.out.lt x hx).1; have := HBS.out; omega
      have HAP := Lib.hid hap
      have HG4 : Hid (Grow b 139 2 factG w4 (.slice A' (j + 1) c') (seq RS.fact (j + 1) S1).1) := Lib.hid (by rw [HQ.out]; exact hg4)
      have HR4 : Hid (RAt w4 p (seq RS.fact (j + 1) S1).2) := Lib.hid (by rw [HQ.out]; exact h4)
      have HF4 := Lib.hid hf4
      clear h3 f3 hg3 hel hap hg4 f4 hlt4 h4 hf4 rd rm
      rw [HP.out]
      go_wp2_with (at_builtin; refine wpList_add rfl _ _ _ _ rfl _ _ _ _ rfl rfl (HAP.out _) ?_)
      by_cases hz : (seq RS.fact (j + 1) S1).2.fault = 0
      · have HZ := Lib.hid hz
        clear hz
        rw [← HP.out]
        refine (rstop_no p _ w4 HR4.out HZ.out).mono ?_
        rintro e w' ⟨rfl, rfl⟩
        rw [HP.out]
        go_wp2
        go_roundw
        case rel => exact ⟨j + 1, A', c', by omega, by go_num, by go_num, HG4.out, HR4.out, HF4.out⟩
        case measure => simp [intOf]; omega
      · have HZ := Lib.hid hz
        clear hz
        rw [← HP.out]
        refine (rstop_yes p _ w4 HR4.out HZ.out).mono ?_
        rintro e w' ⟨rfl, rfl⟩
        rw [HP.out]
        go_wp2_with fail
        rw [← HP.out]
        refine (told106 p _ _ w4 HR4.out).mono ?_
        rw [if_neg HZ.out]
        rintro e w' ⟨rfl, rfl⟩
        have HE : Hid (S.several RS.fact k = ([], (seq RS.fact (j + 1) S1).2)) := Lib.hid (by rw [HV.out, seq_stop fact_stops S1 (j + 1) n (by omega) HZ.out, if_neg HZ.out])
        go_wp2
        go_ret
        exact ⟨_, rfl, by rw [HE.out]; exact HR4.out, HF4.out, by rw [HE.out]; exact RowE.nil _ _ _ _ _⟩
    · obtain rfl : j = n := by omega
      go_wp2_with fail
      rw [← HP.out]
      refine (told106 p _ _ _ HR0.out).mono ?_
      by_cases hz : (seq RS.fact j S1).2.fault = 0
      · rw [if_pos hz]
        rintro e w' ⟨rfl, rfl⟩
        have HE : Hid (S.several RS.fact k = seq RS.fact j S1) := Lib.hid (by rw [HV.out, if_pos hz])
        have hrow := HG.out.row factG_elem (by rw [HL.out]; unfold maxLen; omega)
        rw [HBS.out] at hrow
        have HROW := Lib.hid hrow
        clear hz hrow
        go_wp2
        go_ret
        exact ⟨_, rfl, by rw [HE.out]; exact HR0.out, HF.out, by rw [HE.out]; exact HROW.out⟩
      · rw [if_neg hz]
        rintro e w' ⟨rfl, rfl⟩
        have HE : Hid (S.several RS.fact k = ([], (seq RS.fact j S1).2)) := Lib.hid (by rw [HV.out, if_neg hz])
        clear hz
        go_wp2
        go_ret
        exact ⟨_, rfl, by rw [HE.out]; exact HR0.out, HF.out, by rw [HE.out]; exact RowE.nil _ _ _ _ _⟩
set_option maxHeartbeats 400000 in
theorem rfacts_any (p : Option Nat) (S : RS) (w : World) (h : RAt w p S) : Calls Tryz.prog 46 #[wpt p] w (RPr p w 2 factG S.facts.1 S.facts.2) := by
  have HS : Hid (Calls Tryz.prog 95 #[wpt p, .int .i64 8, .func (.func 96) #[wpt p] #[]] w (RPr p w 2 factG S.facts.1 S.facts.2)) := Lib.hid (several_facts p S 8 (by omega) (by omega) w h)
  have hmf := mkf
  clear h
  generalize hP : wpt p = P at *
  clear hP
  go_enter Tryz.func46, Tryz.ntmps46
  go_wp2_with fail
  refine HS.out.mono ?_
  rintro e w1 ⟨V, rfl, h1, h2, h3⟩
  go_wp2
  go_ret
  exact ⟨V, rfl, h1, h2, h3⟩
end Go.Proofs.YtikpojnmaiplnaaGreatDoor
/- A thing: what a writer lays down of it. -/
namespace Go.Proofs.YtikpojnmaiplnaaGreatDoor
open Go.RowKit Go.Maps
set_option linter.unusedVariables false

structure ThingP where
  kind : Int
  n : Int
  s : List UInt8
  l : List (List UInt8)
  cells : List CellP
  facts : List FactP
  meas : List (List UInt8)
/-- Its cells, and what they lead to. -/
structure ThingAt (K : Nat → Prop) (w : World) (t : ThingP) (lv cv fv mv : Value) : Prop where
  kb : i64 t.kind
  nb : i64 t.n
  sb : t.s.length ≤ maxLen
  l : RowE K w 1 strE lv t.l
  c : RowE K w 3 cellE cv t.cells
  f : RowE K w 2 (factE K w) fv t.facts
  m : RowE K w 1 strE mv t.meas
def tcells (t : ThingP) (lv cv fv mv : Value) : List Value := [.int .i64 t.kind, .int .i64 t.n, sv t.s, lv, cv, fv, mv]
def thingE (K : Nat → Prop) (w : World) (t : ThingP) (cs : List Value) : Prop := ∃ lv cv fv mv, cs = tcells t lv cv fv mv ∧ ThingAt K w t lv cv fv mv
theorem RowE.factOf {K : Nat → Prop} {w w' : World} {v : Value} {l : List FactP} (h : RowE K w 2 (factE K w) v l) (hk : ∀ k, K k → w'.heap[k]? = w.heap[k]?) : RowE K w' 2 (factE K w') v l := h.of hk fun _ _ h => h.of hk
theorem ThingAt.of {K : Nat → Prop} {w w' : World} {t : ThingP} {lv cv fv mv : Value} (h : ThingAt K w t lv cv fv mv) (hk : ∀ k, K k → w'.heap[k]? = w.heap[k]?) : ThingAt K w' t lv cv fv mv :=
  ⟨h.kb, h.nb, h.sb, h.l.of hk fun _ _ h => h, h.c.of hk fun _ _ h => h, h.f.factOf hk, h.m.of hk fun _ _ h => h⟩
theorem thingE.of {K : Nat → Prop} {w w' : World} {t : ThingP} {cs : List Value} (h : thingE K w t cs) (hk : ∀ k, K k → w'.heap[k]? = w.heap[k]?) : thingE K w' t cs := by
  obtain ⟨lv, cv, fv, mv, e, h⟩ := h
  exact ⟨lv, cv, fv, mv, e, h.of hk⟩

/-! ### One, Any -/
def one (l : List CellP) : CellP := l.headD CellP.zero
def any (l : List FactP) : FactP := l.headD FactP.zero
set_option maxHeartbeats 1000000 in
theorem one_any (K : Nat → Prop) (cv : Value) (l : List CellP) (w : World) (h : RowE K w 3 cellE cv l) : Calls Tryz.prog 145 #[cv] w fun e w' => e = .returned (one l).val ∧ Below w.heap.size w w' := by
  obtain ⟨A, c, rfl, hm, hel⟩ := h
  cases l with
  | nil =>
    clear hel hm
    go_enter Tryz.func145, Tryz.ntmps145
    go_wp2
    exact bodyPost_ret (v := .agg #[.int .i64 0, .int .i64 0, sv []]) (by simp [results, Tryz.results145, go_sem]) rfl ⟨rfl, Fr.below ((Fr.refl No w).alloc _)⟩
  | cons x l =>
    obtain ⟨g, off, rfl, hg, hcell⟩ := hel (by simp)
    obtain ⟨cs, hl, hc, rfl, _⟩ := hcell 0 (by simp)
    have c0 : w.cell? ⟨g, off, none⟩ = some (.int .i64 x.kind) := by have := hc 0 (by omega); simpa using this
    have c1 : w.cell? ⟨g, off + 1, none⟩ = some (.int .i64 x.int) := by have := hc 1 (by omega); simpa using this
    have c2 : w.cell? ⟨g, off + 2, none⟩ = some (sv x.text) := by have := hc 2 (by omega); simpa using this
    have hlen : (0 : Int) < ((x :: l).length : Nat) := by simp only [List.length_cons]; omega
    have hne : ((((x :: l).length : Nat) : Int) == 0) = false := by rw [beq_eq_false_iff_ne]; omega
    have hgw : g < w.heap.size := World.block_lt_of_cell? _ _ c0
    unfold maxLen at hm
    have hx : (one (x :: l)).val = .agg #[.int .i64 x.kind, .int .i64 x.int, sv x.text] := rfl
    rw [hx]
    clear hel hcell hc hl hx hg
    generalize (x :: l).length = n at *
    go_enter Tryz.func145, Tryz.ntmps145
    go_wp2
    exact bodyPost_ret (v := .agg #[.int .i64 x.kind, .int .i64 x.int, sv x.text]) (by simp [results, Tryz.results145, go_sem]) rfl ⟨rfl, Fr.below ((Fr.refl No w).alloc _)⟩
theorem one_ok {K : Nat → Prop} {cv : Value} {l : List CellP} {w : World} (h : RowE K w 3 cellE cv l) : (one l).Ok := by
  obtain ⟨A, c, rfl, hm, hel⟩ := h
  cases l with
  | nil => exact ⟨i64_small 0 (by omega), i64_small 0 (by omega), by simp [one, CellP.zero]⟩
  | cons x l =>
    obtain ⟨g, off, rfl, hg, hcell⟩ := hel (by simp)
    obtain ⟨cs, hl, hc, _, ho⟩ := hcell 0 (by simp)
    exact ho
set_option maxHeartbeats 1000000 in
theorem any_any (K : Nat → Prop) (fv : Value) (l : List FactP) (w : World) (h : RowE K w 2 (factE K w) fv l) : Calls Tryz.prog 148 #[fv] w fun e w' => ∃ dv mv, e = .returned (.agg #[dv, mv]) ∧ RowE K w 1 strE dv (any l).dims ∧ RowE K w 1 intE mv (any l).meas ∧ Below w.heap.size w w' := by
  obtain ⟨A, c, rfl, hm, hel⟩ := h
  cases l with
  | nil =>
    clear hel hm
    go_enter Tryz.func148, Tryz.ntmps148
    go_wp2
    exact bodyPost_ret (v := .agg #[.slice none 0 0, .slice none 0 0]) (by simp [results, Tryz.results148, go_sem]) rfl ⟨_, _, rfl, RowE.nil _ _ _ _ _, RowE.nil _ _ _ _ _, Fr.below ((Fr.refl No w).alloc _)⟩
  | cons x l =>
    obtain ⟨g, off, rfl, hg, hcell⟩ := hel (by simp)
    obtain ⟨cs, hl, hc, dv, mv, rfl, rd, rm⟩ := hcell 0 (by simp)
    have c0 : w.cell? ⟨g, off, none⟩ = some dv := by have := hc 0 (by omega); simpa using this
    have c1 : w.cell? ⟨g, off + 1, none⟩ = some mv := by have := hc 1 (by omega); simpa using this
    have hlen : (0 : Int) < ((x :: l).length : Nat) := by simp only [List.length_cons]; omega
    have hne : ((((x :: l).length : Nat) : Int) == 0) = false := by rw [beq_eq_false_iff_ne]; omega
    have hgw : g < w.heap.size := World.block_lt_of_cell? _ _ c0
    unfold maxLen at hm
    have RD : Hid (RowE K w 1 strE dv (any (x :: l)).dims) := Lib.hid rd
    have RM : Hid (RowE K w 1 intE mv (any (x :: l)).meas) := Lib.hid rm
    obtain ⟨A1, n1, k1, rfl⟩ := rd.slice
    obtain ⟨A2, n2, k2, rfl⟩ := rm.slice
    generalize (any (x :: l)).dims = D at *
    generalize (any (x :: l)).meas = M at *
    clear hel hcell hc hl hg rd rm
    generalize (x :: l).length = n at *
    go_enter Tryz.func148, Tryz.ntmps148
    go_wp2
    exact bodyPost_ret (v := .agg #[.slice A1 n1 k1, .slice A2 n2 k2]) (by simp [results, Tryz.results148, go_sem]) rfl ⟨_, _, rfl, RD.out, RM.out, Fr.below ((Fr.refl No w).alloc _)⟩
end Go.Proofs.YtikpojnmaiplnaaGreatDoor
/- Plain: what was laid down is taken up again; cut short it ends short. -/
namespace Go.Proofs.YtikpojnmaiplnaaGreatDoor
open Go.RowKit Go.Maps
set_option linter.unusedVariables false

/-! ### the bytes of things -/
def bText (s : List UInt8) : List UInt8 := low s.length 4 ++ s
def bRow {α : Type} (f : α → List UInt8) (l : List α) : List UInt8 := low l.length 4 ++ l.flatMap f
def bCell (c : CellP) : List UInt8 := if c.kind = 1 then low 1 1 ++ enc8 c.int else if c.kind = 2 then low 2 1 ++ bText c.text else low 0 1
def bFact (f : FactP) : List UInt8 := bRow bText f.dims ++ bRow enc8 f.meas
def bThing (t : ThingP) : List UInt8 :=
  if t.kind = 0 then low (t.n % 256).toNat 1 else if t.kind = 1 then enc8 t.n else if t.kind = 2 then low t.n.toNat 4 else if t.kind = 3 then bText t.s
  else if t.kind = 4 then bRow bText t.l else if t.kind = 5 then bCell (one t.cells) else if t.kind = 6 then bRow bCell t.cells else if t.kind = 7 then bFact (any t.facts)
  else if t.kind = 8 then bRow bFact t.facts else bRow bText t.l ++ bRow bText t.meas

/-! ### laid down -/
/-- Where nothing was wrong behind it, b was laid down. -/
def Lays (f : WS → WS) (ok : Prop) (b : List UInt8) : Prop := ∀ S : WS, (f S).fault = 0 → S.fault = 0 ∧ ok ∧ (f S).data = S.data ++ b
theorem Lays.then {f g : WS → WS} {p q : Prop} {a b : List UInt8} (hf : Lays f p a) (hg : Lays g q b) : Lays (fun S => g (f S)) (p ∧ q) (a ++ b) := fun S h => by
  obtain ⟨h1, h2, h3⟩ := hg _ h
  obtain ⟨h4, h5, h6⟩ := hf _ h1
  exact ⟨h4, ⟨h5, h2⟩, by rw [h3, h6, List.append_assoc]⟩
theorem Lays.ok {f : WS → WS} {p q : Prop} {b : List UInt8} (hf : Lays f p b) (h : p → q) : Lays f q b := fun S hS => by
  obtain ⟨h1, h2, h3⟩ := hf S hS; exact ⟨h1, h h2, h3⟩
theorem lays_lay (m : List UInt8) : Lays (fun S => S.lay m) True m := fun S h => by
  simp only [WS.lay] at h ⊢
  by_cases h0 : S.fault = 0
  · rw [if_pos h0] at h ⊢
    by_cases h1 : m.length + S.data.length > 65536
    · rw [if_pos h1] at h; simp at h
    · rw [if_neg h1]; exact ⟨h0, trivial, rfl⟩
  · rw [if_neg h0] at h; exact absurd h h0
theorem fail_not (S : WS) (e : Int) (he : e ≠ 0) : (S.fail e).fault ≠ 0 := by
  unfold WS.fail; split
  · exact he
  · assumption
theorem lays_count (n : Int) : Lays (fun S => S.count n) (0 ≤ n ∧ n ≤ 4294967295) (low n.toNat 4) := fun S h => by
  simp only [WS.count] at h ⊢
  by_cases hn : n < 0 ∨ n > 4294967295
  · rw [if_pos hn] at h; exact absurd h (fail_not S 1 (by decide))
  · rw [if_neg hn] at h ⊢
    obtain ⟨h1, _, h3⟩ := lays_lay (low n.toNat 4) S h
    exact ⟨h1, by omega, h3⟩
theorem lays_text (s : List UInt8) : Lays (fun S => S.text s) (s.length ≤ 4294967295) (bText s) := by
  have := (lays_count (s.length : Int)).then (lays_lay s)
  exact this.ok fun h => by omega
theorem lays_int (n : Int) : Lays (fun S => S.int n) True (enc8 n) := lays_lay _
theorem lays_byte (n : Nat) : Lays (fun S => S.byte n) True (low n 1) := lays_lay _
theorem lays_fold {α : Type} {f : WS → α → WS} {ok : α → Prop} {b : α → List UInt8} (hf : ∀ x, Lays (fun S => f S x) (ok x) (b x)) : ∀ l : List α, Lays (fun S => l.foldl f S) (∀ x ∈ l, ok x) (l.flatMap b)
  | [] => fun S h => ⟨h, by simp, by simp⟩
  | x :: l => by
    have := (hf x).then (lays_fold hf l)
    refine (show Lays (fun S => (x :: l).foldl f S) (ok x ∧ ∀ y ∈ l, ok y) (b x ++ l.flatMap b) from this).ok fun h => ?_
    intro y hy
    rcases List.mem_cons.1 hy with rfl | hy
    · exact h.1
    · exact h.2 y hy
theorem lays_row {α : Type} {f : WS → α → WS} {ok : α → Prop} {b : α → List UInt8} (hf : ∀ x, Lays (fun S => f S x) (ok x) (b x)) (l : List α) : Lays (fun S => S.row f l) (l.length ≤ 4294967295 ∧ ∀ x ∈ l, ok x) (bRow b l) := by
  have := (lays_count (l.length : Int)).then (lays_fold hf l)
  exact (show Lays (fun S => S.row f l) _ (bRow b l) from this).ok fun h => ⟨by omega, h.2⟩
def okText (s : List UInt8) : Prop := s.length ≤ 4294967295
def okCell (c : CellP) : Prop := c.may = true ∧ okText c.text
theorem lays_cell (c : CellP) : Lays (fun S => S.cell c) (okCell c) (bCell c) := fun S h => by
  simp only [WS.cell] at h ⊢
  cases hm : c.may with
  | false => rw [hm] at h; exact absurd h (fail_not S 1 (by decide))
  | true =>
    rw [hm] at h
    simp only [if_true] at h ⊢
    have hk := may_kind hm
    by_cases h1 : c.kind = 1
    · rw [if_pos h1] at h ⊢
      obtain ⟨q1, _, q3⟩ := ((lays_byte 1).then (lays_int c.int)) S h
      have ht : c.text = [] := by
        unfold CellP.may at hm; rw [h1] at hm; simpa using hm
      exact ⟨q1, ⟨hm, by unfold okText; rw [ht]; simp⟩, by unfold bCell; rw [if_pos h1]; exact q3⟩
    · rw [if_neg h1] at h ⊢
      by_cases h2 : c.kind = 2
      · rw [if_pos h2] at h ⊢
        obtain ⟨q1, q2, q3⟩ := ((lays_byte 2).then (lays_text c.text)) S h
        exact ⟨q1, ⟨hm, q2.2⟩, by unfold bCell; rw [if_neg h1, if_pos h2]; exact q3⟩
      · rw [if_neg h2] at h ⊢
        obtain ⟨q1, _, q3⟩ := (lays_byte 0) S h
        have h0 : c.kind = 0 := by omega
        have ht : c.text = [] := by
          unfold CellP.may at hm; rw [h0] at hm; simp at hm; exact hm.2
        exact ⟨q1, ⟨hm, by unfold okText; rw [ht]; simp⟩, by unfold bCell; rw [if_neg h1, if_neg h2]; exact q3⟩
def okTexts (l : List (List UInt8)) : Prop := l.length ≤ 4294967295 ∧ ∀ s ∈ l, okText s
def okFact (f : FactP) : Prop := okTexts f.dims ∧ f.meas.length ≤ 4294967295
theorem lays_fact (f : FactP) : Lays (fun S => S.fact f) (okFact f) (bFact f) :=
  (show Lays (fun S => S.fact f) _ (bFact f) from (lays_row lays_text f.dims).then (lays_row lays_int f.meas)).ok fun h => ⟨h.1, h.2.1⟩
def okThing (t : ThingP) : Prop :=
  if t.kind = 0 then True else if t.kind = 1 then True else if t.kind = 2 then 0 ≤ t.n ∧ t.n ≤ 4294967295 else if t.kind = 3 then okText t.s
  else if t.kind = 4 then okTexts t.l else if t.kind = 5 then okCell (one t.cells) else if t.kind = 6 then t.cells.length ≤ 4294967295 ∧ ∀ c ∈ t.cells, okCell c else if t.kind = 7 then okFact (any t.facts)
  else if t.kind = 8 then t.facts.length ≤ 4294967295 ∧ ∀ f ∈ t.facts, okFact f else okTexts t.l ∧ okTexts t.meas
/-! ### taken up -/
/-- b says x, and cut short it ends short. -/
structure Dec {α : Type} (f : RS → α × RS) (x : α) (b : List UInt8) : Prop where
  all : ∀ R, f ⟨b ++ R, 0⟩ = (x, ⟨R, 0⟩)
  cut : ∀ m, m < b.length → (f ⟨b.take m, 0⟩).2 = ⟨[], 20⟩
  stop : Stops f
theorem dec_take (n : Nat) (b : List UInt8) (hb : b.length = n) : Dec (fun S => S.take n) b b := by
  refine ⟨fun R => ?_, fun m hm => ?_, take_stops n⟩
  · show RS.take ⟨b ++ R, 0⟩ n = _
    unfold RS.take
    rw [if_pos rfl, if_neg (by simp; omega)]
    simp [← hb]
  · show (RS.take ⟨b.take m, 0⟩ n).2 = _
    unfold RS.take
    rw [if_pos rfl, if_pos (by simp; omega)]
/-- one behind the other -/
theorem Dec.then {α β γ : Type} {f : RS → α × RS} {g : RS → β × RS} {x : α} {y : β} {a b : List UInt8} (hf : Dec f x a) (hg : Dec g y b) {h : RS → γ × RS} {z : γ}
    (h2 : ∀ S, (h S).2 = (g (f S).2).2) (h1 : ∀ S, (f S).1 = x → (g (f S).2).1 = y → (g (f S).2).2.fault = 0 → (h S).1 = z) : Dec h z (a ++ b) := by
  refine ⟨fun R => ?_, fun m hm => ?_, fun S hS => ?_⟩
  · have e1 := hf.all (b ++ R)
    have e2 := hg.all R
    rw [← List.append_assoc] at e1
    have e3 := h2 ⟨a ++ b ++ R, 0⟩
    rw [e1] at e3
    simp only [e2] at e3
    refine Prod.ext (h1 _ (by rw [e1]) (by rw [e1]; simp only [e2]) (by rw [e1]; simp only [e2])) e3
  · rw [h2]
    by_cases hm1 : m < a.length
    · have e : (a ++ b).take m = a.take m := by rw [List.take_append_of_le_length (by omega)]
      rw [e, hf.cut m hm1]
      exact hg.stop _ (by decide)
    · have e : (a ++ b).take m = a ++ b.take (m - a.length) := by rw [List.take_append, List.take_of_length_le (by omega)]
      rw [e, hf.all]
      exact hg.cut _ (by rw [List.length_append] at hm; omega)
  · rw [h2, hf.stop S hS, hg.stop S hS]
end Go.Proofs.YtikpojnmaiplnaaGreatDoor
/- The document's bytes: counts, texts, facts. -/
namespace Go.Proofs.YtikpojnmaiplnaaGreatDoor
open Go.RowKit Go.Maps Go.Sort
set_option linter.unusedVariables false

def Told (l : List UInt8) (w : World) (e : Ending) (w' : World) : Prop := e = .returned (sv l) ∧ Below w.heap.size w w'
theorem dcount_any (n : Nat) (hn : n < 2 ^ 63) (w : World) : Calls Tryz.prog 146 #[.int .i64 (n : Int)] w (Told (low n 4) w) := by
  have HL := Lib.hid (Num_any n 4 w (by omega) (by omega))
  have hu : IntKind.u64.wrap (n : Int) = (n : Int) := by rw [IntKind.wrap_u64]; omega
  clear hn
  go_enter Tryz.func146, Tryz.ntmps146
  go_wp2_with (go_at_call 38; refine HL.out.mono ?_; rintro e w1 ⟨rfl, hb1⟩)
  go_ret
  exact ⟨rfl, hb1⟩
theorem dtext_any (s : List UInt8) (hs : s.length ≤ 4611686018427387904) (w : World) : Calls Tryz.prog 142 #[sv s] w (Told (bText s) w) := by
  have HC := Lib.hid (dcount_any s.length (by omega) w)
  unfold Told at HC
  have HB : Hid (bText s = low s.length 4 ++ s) := Lib.hid rfl
  obtain ⟨A, hA⟩ : ∃ A, low s.length 4 = A := ⟨_, rfl⟩
  have hla : A.length = 4 := by rw [← hA, low_len]
  have hcat : ∀ w0, (Op.stringOp .add ⟨A.toArray⟩ ⟨s.toArray⟩).run Tryz.prog w0 = .ok (.string ⟨(A ++ s).toArray⟩) w0 := fun w0 => run_cat _ _ (by omega) w0
  rw [hA] at HC HB
  obtain ⟨X, hX⟩ : ∃ X, A ++ s = X := ⟨_, rfl⟩
  rw [hX] at HB hcat
  clear hA hla hX
  go_enter Tryz.func142, Tryz.ntmps142
  go_wp2_with (go_at_call 146; refine HC.out.mono ?_; rintro e w1 ⟨rfl, hb1⟩; have B1 := Lib.hid hb1; clear hb1)
  go_ret
  exact ⟨by rw [HB.out]; rfl, B1.out⟩
theorem flat_snoc {α : Type} (b : α → List UInt8) (l : List α) (j : Nat) (h : j < l.length) : (l.take (j + 1)).flatMap b = (l.take j).flatMap b ++ b l[j] := by
  rw [List.take_succ_eq_append_getElem h, List.flatMap_append]; simp
theorem flat_pre {α : Type} (b : α → List UInt8) (l : List α) (j : Nat) : ((l.take j).flatMap b).length ≤ (l.flatMap b).length := by
  conv => rhs; rw [← List.take_append_drop j l]
  rw [List.flatMap_append, List.length_append]; omega
theorem flat_one {α : Type} (b : α → List UInt8) (l : List α) (j : Nat) (h : j < l.length) : (b l[j]).length ≤ (l.flatMap b).length := by
  have h1 := flat_pre b l (j + 1)
  rw [flat_snoc b l j h, List.length_append] at h1
  omega
theorem row_bound {α : Type} (b : α → List UInt8) (l : List α) : (l.flatMap b).length ≤ (bRow b l).length := by unfold bRow; rw [List.length_append]; omega
set_option maxRecDepth 100000 in
set_option maxHeartbeats 1000000 in
theorem dtexts_any (vl : Value) (l : List (List UInt8)) (w : World) (hr : RowE (fun k => k < w.heap.size) w 1 strE vl l) (hb : (bRow bText l).length ≤ 1152921504606846976) : Calls Tryz.prog 143 #[vl] w (Told (bRow bText l) w) := by
  obtain ⟨A, c, rfl, hm, hel⟩ := hr
  have HE := Lib.hid hel
  unfold maxLen at hm
  have HC := Lib.hid (dcount_any l.length (by omega) w)
  unfold Told at HC
  have hfl := row_bound bText l
  obtain ⟨n, hn⟩ : ∃ n, l.length = n := ⟨_, rfl⟩
  rw [hn] at hm HC
  have HN := Lib.hid hn
  have HFL := Lib.hid hfl
  have HBD := Lib.hid hb
  rw [hn]
  clear hn hel hfl hb
  go_enter Tryz.func143, Tryz.ntmps143
  go_wp2_with fail
  refine HC.out.mono ?_
  rintro e w1 ⟨rfl, hb1⟩
  have B1 := Lib.hid hb1
  clear hb1
  go_wp2
  go_loopw [3, 4] (fun x i wr => ∃ j : Nat, ∃ X, j ≤ n ∧ i = .int .i64 j ∧ x = sv X ∧ X = low n 4 ++ (l.take j).flatMap bText ∧ Below w.heap.size w wr) (fun _ i _ => n - (intOf i).toNat)
  case atStart => exact ⟨0, _, by omega, rfl, rfl, by simp, B1.out⟩
  case round =>
    obtain ⟨j, X, hj, rfl, rfl, hX, hbw⟩ := hrel
    have HX := Lib.hid hX
    have HB := Lib.hid hbw
    clear hX hbw
    by_cases hlt : j < n
    · have hjl : j < l.length := by rw [HN.out]; exact hlt
      obtain ⟨g, off, rfl, hg, hcell⟩ := HE.out (by omega)
      obtain ⟨cs, hlen, hcs2, rfl, hmx⟩ := hcell j hjl
      have hc : _ = some (sv l[j]) := (cell_of_heap (HB.out.block g hg)).trans (hcs2 0 (by omega))
      simp only [Nat.mul_one, Nat.add_zero] at hc
      have h1 := flat_pre bText l j
      have h2 := flat_one bText l j hjl
      have h3 := HFL.out
      have h4 := HBD.out
      have hxl : X.length ≤ 1152921504606846980 := by rw [HX.out, List.length_append, low_len]; omega
      have hsl : l[j].length ≤ 1152921504606846976 := by
        have : (bText l[j]).length = 4 + l[j].length := by unfold bText; rw [List.length_append, low_len]
        omega
      have hcat : ∀ w0, (Op.stringOp .add ⟨X.toArray⟩ ⟨(bText l[j]).toArray⟩).run Tryz.prog w0 = .ok (.string ⟨(X ++ bText l[j]).toArray⟩) w0 := fun w0 => run_cat _ _ (by omega) w0
      have HT := Lib.hid (dtext_any l[j] (by omega))
      have HQ : Hid (X ++ bText l[j] = low n 4 ++ (l.take (j + 1)).flatMap bText) := Lib.hid (by rw [flat_snoc bText l j hjl, HX.out, List.append_assoc])
      unfold Told at HT
      generalize bText l[j] = T at *
      generalize l[j] = s at *
      generalize X ++ T = Y at *
      clear h1 h2 h3 h4 hxl hsl hcell hcs2 hlen hmx
      go_wp2_with (go_at_call 142; refine (HT.out _).mono ?_; rintro e w3 ⟨rfl, hb3⟩; have B3 := Lib.hid (HB.out.trans (hb3.mono HB.out.size)); clear hb3)
      go_roundw
      case rel => exact ⟨j + 1, Y, by omega, by go_num, rfl, HQ.out, B3.out⟩
      case measure => simp [intOf]; omega
    · obtain rfl : j = n := by omega
      go_wp2
      go_ret
      exact ⟨by rw [HX.out, ← HN.out, List.take_length]; rfl, HB.out⟩
end Go.Proofs.YtikpojnmaiplnaaGreatDoor
/- The document's bytes of a fact; two lists of texts that are the same. -/
namespace Go.Proofs.YtikpojnmaiplnaaGreatDoor
open Go.RowKit Go.Maps Go.Sort
set_option linter.unusedVariables false

theorem regrown_heap {w : World} {k : Nat} (hk : k < w.heap.size) (dd : Nat) (os : Array Obj) : (grow (redrawn w dd) os).heap[k]? = w.heap[k]? := (below_regrown w dd os).block k hk
theorem RowE.regrown {α : Type} {w : World} {B size : Nat} {E : α → List Value → Prop} {v : Value} {l : List α} (h : RowE (fun k => k < B) w size E v l) (hB : B ≤ w.heap.size) (dd : Nat) (os : Array Obj) : RowE (fun k => k < B) (grow (redrawn w dd) os) size E v l := h.of (fun k hk => regrown_heap (Nat.lt_of_lt_of_le hk hB) dd os) fun _ _ h => h
theorem RowE.up {α : Type} {w : World} {B size : Nat} {E : α → List Value → Prop} {v : Value} {l : List α} (h : RowE (fun k => k < B) w size E v l) (hB : B ≤ w.heap.size) : RowE (fun k => k < w.heap.size) w size E v l := h.mono fun k hk => Nat.lt_of_lt_of_le hk hB

def IntB (x : Value) (X : List UInt8) : Prop := x = sv X
set_option maxRecDepth 100000 in
set_option maxHeartbeats 2000000 in
theorem dfact_any (dv mv : Value) (f : FactP) (w : World) (hd : RowE (fun k => k < w.heap.size) w 1 strE dv f.dims) (hm : RowE (fun k => k < w.heap.size) w 1 intE mv f.meas) (hb : (bFact f).length ≤ 1152921504606846976) : Calls Tryz.prog 147 #[.agg #[dv, mv]] w (Told (bFact f) w) := by
  obtain ⟨A1, n1, c1, rfl⟩ := hd.slice
  obtain ⟨A, c, rfl, hml, hel⟩ := hm
  unfold maxLen at hml
  obtain ⟨wa, hwa⟩ : ∃ wa, w.alloc (.cells #[.slice A1 n1 c1, .slice A f.meas.length c] 139) = wa := ⟨_, rfl⟩
  obtain ⟨gb, hgb⟩ : ∃ gb, w.heap.size = gb := ⟨_, rfl⟩
  have hbx : Blk wa gb 139 #[.slice A1 n1 c1, .slice A f.meas.length c] := by rw [← hwa, ← hgb]; exact Blk.new w 139 _
  have hba : Below w.heap.size w wa := by rw [← hwa]; exact (Below.refl _ _).alloc (Nat.le_refl _) _
  have hda : RowE (fun k => k < w.heap.size) wa 1 strE (.slice A1 n1 c1) f.dims := hd.of (fun k hk => hba.block k hk) fun _ _ h => h
  have hl1 : (bRow bText f.dims).length + (bRow enc8 f.meas).length ≤ 1152921504606846976 := by unfold bFact at hb; rw [List.length_append] at hb; exact hb
  have KT : Hid (∀ dd os, Calls Tryz.prog 143 #[.slice A1 n1 c1] (grow (redrawn wa dd) os) fun e w'' => e = .returned (sv (bRow bText f.dims)) ∧ ∃ p : Regrown, w'' = grow (redrawn wa p.d) p.os) := Lib.hid fun dd os => Calls.regrown_of (dtexts_any _ _ _ ((hda.regrown hba.size dd os).up (Nat.le_trans hba.size (below_regrown wa dd os).size)) (by omega))
  have KC : Hid (∀ dd os, Calls Tryz.prog 146 #[.int .i64 (f.meas.length : Nat)] (grow (redrawn wa dd) os) fun e w'' => e = .returned (sv (low f.meas.length 4)) ∧ ∃ p : Regrown, w'' = grow (redrawn wa p.d) p.os) := Lib.hid fun dd os => Calls.regrown_of (dcount_any _ (by omega) _)
  have c0 : ∀ dd os, (grow (redrawn wa dd) os).cell? ⟨gb, 0, none⟩ = some (.slice A1 n1 c1) := fun dd os => cell_regrown (hbx.cell 0) dd os
  have c1' : ∀ dd os, (grow (redrawn wa dd) os).cell? ⟨gb, 1, none⟩ = some (.slice A f.meas.length c) := fun dd os => cell_regrown (hbx.cell 1) dd os
  have hcat : ∀ w0, (Op.stringOp .add ⟨(bRow bText f.dims).toArray⟩ ⟨(low f.meas.length 4).toArray⟩).run Tryz.prog w0 = .ok (.string ⟨(bRow bText f.dims ++ low f.meas.length 4).toArray⟩) w0 := fun w0 => run_cat _ _ (by rw [low_len]; omega) w0
  have HE := Lib.hid hel
  have HX := Lib.hid hbx
  have HBA := Lib.hid hba
  have hmf : (f.meas.flatMap enc8).length + 4 = (bRow enc8 f.meas).length := by unfold bRow; rw [List.length_append, low_len]; omega
  have HB : Hid (bFact f = bRow bText f.dims ++ (low f.meas.length 4 ++ f.meas.flatMap enc8)) := Lib.hid rfl
  have hxl : (bRow bText f.dims ++ low f.meas.length 4).length + (f.meas.flatMap enc8).length ≤ 1152921504606846976 := by rw [List.length_append, low_len]; omega
  have HXL := Lib.hid hxl
  obtain ⟨n, hn⟩ : ∃ n, f.meas.length = n := ⟨_, rfl⟩
  rw [hn] at hml KC c1' hcat HB HXL HX hwa ⊢
  have HN := Lib.hid hn
  generalize f.meas = M at *
  obtain ⟨Y, hY⟩ : ∃ Y, bRow bText f.dims ++ low n 4 = Y := ⟨_, rfl⟩
  rw [hY] at hcat HXL
  have HY := Lib.hid hY
  generalize bRow bText f.dims = D at *
  generalize low n 4 = L at *
  clear hn hel hbx hba hda hl1 hmf hxl hY hd hb
  go_enter Tryz.func147, Tryz.ntmps147
  go_wp2_with fail
  go_upto_region 2 with fail
  go_cut [3] (fun x wx => x = sv Y ∧ Below wa.heap.size wa wx)
  case first =>
    refine wp_region_quiet_below mixed (by kernel_rfl) ?_
    repeat (first | go_big_quiet_step (first | exact KT.out _ _ | exact KC.out _ _) | quiet_step (first | exact KT.out _ _ | exact KC.out _ _))
    refine wpQuiet_nil ?_
    intro wx hp
    have hbw : Below wa.heap.size wa wx := by obtain ⟨p, rfl⟩ := hp; exact below_regrown _ _ _
    go_wp2_with fail
    go_meet
    exact ⟨rfl, hbw⟩
  case rest =>
    obtain ⟨rfl, hbw⟩ := hcut
    have BC := Lib.hid hbw
    clear hbw c0 c1' hcat KT KC hwa hgb
    go_wp2
    go_loopw [3, 4] (fun x i wr => ∃ j : Nat, ∃ X, j ≤ n ∧ i = .int .i64 j ∧ x = sv X ∧ X = Y ++ (M.take j).flatMap enc8 ∧ Below wa.heap.size wa wr) (fun _ i _ => n - (intOf i).toNat)
    case atStart => exact ⟨0, _, by omega, rfl, rfl, by simp, BC.out⟩
    case round =>
      obtain ⟨j, X, hj, rfl, rfl, hX, hbw⟩ := hrel
      have HXX := Lib.hid hX
      have HBW := Lib.hid hbw
      have hblk : Blk wr gb 139 #[.slice A1 n1 c1, .slice A n c] := HX.out.of (hbw.block gb HX.out.lt)
      have d1 : wr.cell? ⟨gb, 1, none⟩ = some (.slice A n c) := hblk.cell 1
      clear hX hbw hblk
      by_cases hlt : j < n
      · have hjl : j < M.length := by rw [HN.out]; exact hlt
        obtain ⟨g, off, rfl, hg, hcell⟩ := HE.out (by omega)
        obtain ⟨cs, hlen, hcs2, rfl, hmx⟩ := hcell j hjl
        have hgw : g < wa.heap.size := Nat.lt_of_lt_of_le hg HBA.out.size
        have hc : _ = some (Value.int .i64 M[j]) := (cell_of_heap ((HBW.out.block g hgw).trans (HBA.out.block g hg))).trans (hcs2 0 (by omega))
        simp only [Nat.mul_one, Nat.add_zero] at hc
        have h1 := flat_pre enc8 M j
        have h2 := flat_one enc8 M j hjl
        have h3 := HXL.out
        have hxl : X.length ≤ 1152921504606846980 := by rw [HXX.out, List.length_append]; omega
        have h8 : (enc8 M[j]).length = 8 := by unfold enc8; rw [low_len]
        have hcat : ∀ w0, (Op.stringOp .add ⟨X.toArray⟩ ⟨(enc8 M[j]).toArray⟩).run Tryz.prog w0 = .ok (.string ⟨(X ++ enc8 M[j]).toArray⟩) w0 := fun w0 => run_cat _ _ (by omega) w0
        have hk : IntKind.u64.wrap M[j] = (((M[j] % 18446744073709551616).toNat : Nat) : Int) := by rw [IntKind.wrap_u64]; omega
        have HL := Lib.hid (fun w => Num_any (M[j] % 18446744073709551616).toNat 8 w (by omega) (by omega))
        have HQ : Hid (X ++ enc8 M[j] = Y ++ (M.take (j + 1)).flatMap enc8) := Lib.hid (by rw [flat_snoc enc8 M j hjl, HXX.out, List.append_assoc])
        unfold Low at HL
        have he8 : low (M[j] % 18446744073709551616).toNat 8 = enc8 M[j] := rfl
        rw [he8] at HL
        generalize enc8 M[j] = T at *
        generalize (M[j] % 18446744073709551616).toNat = tt at *
        generalize M[j] = s at *
        generalize X ++ T = Z at *
        clear h1 h2 h3 hxl h8 hcell hcs2 hlen hmx he8
        go_wp2_with (go_at_call 38; refine (HL.out _).mono ?_; rintro e w3 ⟨rfl, hb3⟩; have B3 := Lib.hid (HBW.out.trans (hb3.mono HBW.out.size)); clear hb3)
        go_roundw
        case rel => exact ⟨j + 1, Z, by omega, by go_num, rfl, HQ.out, B3.out⟩
        case measure => simp [intOf]; omega
      · obtain rfl : j = n := by omega
        go_wp2
        go_ret
        exact ⟨by rw [HB.out, ← List.append_assoc, HY.out, HXX.out, ← HN.out, List.take_length]; rfl, HBA.out.trans (HBW.out.mono HBA.out.size)⟩

/-! ### two lists of texts that are the same -/
end Go.Proofs.YtikpojnmaiplnaaGreatDoor
/- A checkpoint, plain: its bytes, and how it lies in memory. -/
namespace Go.Proofs.YtikpojnmaiplnaaGreatDoor
open Go.RowKit Go.Maps
set_option linter.unusedVariables false

structure CkP where
  seq : Int
  dims : List (List UInt8)
  meas : List (List UInt8)
  views : List Int
  bats : List (List FactP)
def CkP.zero : CkP := ⟨0, [], [], [], []⟩
/-- What is laid down ahead of the batches. -/
def headW (c : CkP) : WS := (((WS.zero.int c.seq).schema c.dims c.meas).ints c.views).count c.bats.length
/-- The frame of what a writer laid down. -/
def frW (S : WS) : List UInt8 × Int := if S.fault = 0 then (frameR S.data, 0) else ([], S.fault)
def catB : List (List FactP) → List UInt8 → List UInt8 × Int
  | [], acc => (acc, 0)
  | b :: l, acc => if (WS.zero.facts b).fault = 0 then catB l (acc ++ frameR (WS.zero.facts b).data) else ([], (WS.zero.facts b).fault)
def bytesP (c : CkP) : List UInt8 × Int :=
  if c.seq < 0 then ([], 1) else if (headW c).fault = 0 then catB c.bats (frameR (headW c).data) else ([], (headW c).fault)

def batE (K : Nat → Prop) (w : World) (b : List FactP) (cs : List Value) : Prop := ∃ v, cs = [v] ∧ RowE K w 2 (factE K w) v b
theorem batE.of {K : Nat → Prop} {w w' : World} {b : List FactP} {cs : List Value} (h : batE K w b cs) (hk : ∀ k, K k → w'.heap[k]? = w.heap[k]?) : batE K w' b cs := by
  obtain ⟨v, e, hr⟩ := h
  exact ⟨v, e, hr.factOf hk⟩
/-- Its four rows. -/
structure CkAt (K : Nat → Prop) (w : World) (c : CkP) (dv mv vv bv : Value) : Prop where
  seq : i64 c.seq
  dims : RowE K w 1 strE dv c.dims
  meas : RowE K w 1 strE mv c.meas
  views : RowE K w 1 intE vv c.views
  bats : RowE K w 1 (batE K w) bv c.bats
def ckv (c : CkP) (dv mv vv bv : Value) : Value := .agg #[.int .i64 c.seq, dv, mv, vv, bv]
theorem CkAt.of {K : Nat → Prop} {w w' : World} {c : CkP} {dv mv vv bv : Value} (h : CkAt K w c dv mv vv bv) (hk : ∀ k, K k → w'.heap[k]? = w.heap[k]?) : CkAt K w' c dv mv vv bv :=
  ⟨h.seq, h.dims.of hk fun _ _ h => h, h.meas.of hk fun _ _ h => h, h.views.of hk fun _ _ h => h, h.bats.of hk fun _ _ h => h.of hk⟩
theorem factE.mono {K K' : Nat → Prop} {w : World} {f : FactP} {cs : List Value} (h : factE K w f cs) (hk : ∀ k, K k → K' k) : factE K' w f cs := by
  obtain ⟨dv, mv, e, h1, h2⟩ := h
  exact ⟨dv, mv, e, h1.mono hk, h2.mono hk⟩
theorem RowE.imp {α : Type} {K : Nat → Prop} {w : World} {size : Nat} {E E' : α → List Value → Prop} {v : Value} {l : List α} (h : RowE K w size E v l) (hE : ∀ x cs, E x cs → E' x cs) : RowE K w size E' v l := h.of (fun _ _ => rfl) hE
theorem batE.mono {K K' : Nat → Prop} {w : World} {b : List FactP} {cs : List Value} (h : batE K w b cs) (hk : ∀ k, K k → K' k) : batE K' w b cs := by
  obtain ⟨v, e, hr⟩ := h
  exact ⟨v, e, (hr.mono hk).imp fun _ _ h => h.mono hk⟩
theorem CkAt.mono {K K' : Nat → Prop} {w : World} {c : CkP} {dv mv vv bv : Value} (h : CkAt K w c dv mv vv bv) (hk : ∀ k, K k → K' k) : CkAt K' w c dv mv vv bv :=
  ⟨h.seq, h.dims.mono hk, h.meas.mono hk, h.views.mono hk, (h.bats.mono hk).imp fun _ _ h => h.mono hk⟩
theorem CkAt.nil (K : Nat → Prop) (w : World) (c : CkP) (n1 n2 n3 n4 : Nat) (hs : i64 c.seq) (h1 : c.dims = []) (h2 : c.meas = []) (h3 : c.views = []) (h4 : c.bats = []) : CkAt K w c (.slice none 0 n1) (.slice none 0 n2) (.slice none 0 n3) (.slice none 0 n4) :=
  ⟨hs, h1 ▸ RowE.nil _ _ _ _ _, h2 ▸ RowE.nil _ _ _ _ _, h3 ▸ RowE.nil _ _ _ _ _, h4 ▸ RowE.nil _ _ _ _ _⟩
/-- Whatever ck lies so is a value of five. -/
theorem CkAt.forms {K : Nat → Prop} {w : World} {c : CkP} {dv mv vv bv : Value} (h : CkAt K w c dv mv vv bv) : ∃ A1 n1 c1 A2 n2 c2 A3 n3 c3 A4 n4 c4, dv = .slice A1 n1 c1 ∧ mv = .slice A2 n2 c2 ∧ vv = .slice A3 n3 c3 ∧ bv = .slice A4 n4 c4 := by
  obtain ⟨A1, n1, c1, e1⟩ := h.dims.slice
  obtain ⟨A2, n2, c2, e2⟩ := h.meas.slice
  obtain ⟨A3, n3, c3, e3⟩ := h.views.slice
  obtain ⟨A4, n4, c4, e4⟩ := h.bats.slice
  exact ⟨A1, n1, c1, A2, n2, c2, A3, n3, c3, A4, n4, c4, e1, e2, e3, e4⟩
end Go.Proofs.YtikpojnmaiplnaaGreatDoor
/- A writer's frame, a reader of a frame's body; a manifest's bytes, both ways. -/
namespace Go.Proofs.YtikpojnmaiplnaaGreatDoor
open Go.RowKit Go.Maps
set_option linter.unusedVariables false

/-! ### framed -/
set_option maxHeartbeats 400000 in
theorem framed_any (p : Option Nat) (v : Value) (S : WS) (w : World) (h : WAt w p v S) :
    Calls Tryz.prog 77 #[wpt p] w fun e w' => e = .returned (.tuple #[sv (frW S).1, .int .i64 (frW S).2]) ∧ Fr No w w' := by
  have HD := Lib.hid (wdone_any p v S w h)
  have hlen := h.len
  obtain ⟨D, f⟩ := S
  simp only at hlen
  by_cases h0 : f = 0
  · subst h0
    have HV : Hid (frW ⟨D, 0⟩ = (frameR D, 0)) := Lib.hid (by unfold frW; rw [if_pos rfl])
    have HF : Hid (∀ w1, Calls Tryz.prog 134 #[sv D] w1 fun e w' => e = .returned (.tuple #[sv (frameR D), .int .i64 0]) ∧ Below w1.heap.size w1 w') := Lib.hid fun w1 => (frame_ok D w1 hlen).mono fun e w' h => ⟨by rw [h.1, frameV_ok hlen], h.2⟩
    generalize frameR D = FD at *
    clear h hlen
    generalize hP : wpt p = P at *
    clear hP
    go_enter Tryz.func77, Tryz.ntmps77
    go_wp2_with fail
    refine HD.out.mono ?_
    rintro e w1 ⟨rfl, f1⟩
    have F1 := Lib.hid f1
    clear f1
    go_wp2_with fail
    refine (HF.out w1).mono ?_
    rintro e w2 ⟨rfl, f2⟩
    have F2 := Lib.hid (F1.out.trans (Fr.of_below f2) fun _ _ h => h)
    clear f2
    go_wp2
    go_ret2
    exact ⟨by rw [HV.out]; first | done | rfl, F2.out⟩
  · have HV : Hid (frW ⟨D, f⟩ = ([], f)) := Lib.hid (by unfold frW; rw [if_neg h0])
    have hb : (f != 0) = true := by simpa using h0
    clear h hlen h0
    generalize hP : wpt p = P at *
    clear hP
    go_enter Tryz.func77, Tryz.ntmps77
    go_wp2_with fail
    refine HD.out.mono ?_
    rintro e w1 ⟨rfl, f1⟩
    have F1 := Lib.hid f1
    clear f1
    go_wp2
    go_ret2
    exact ⟨by rw [HV.out]; rfl, F1.out⟩

/-! ### unframed -/
/-- The reader of a frame's body, and what is behind it. -/
def ufR (l : List UInt8) : RS := (RS.mk (unfR l).1 0).fail (unfR l).2.2
def ufT (l : List UInt8) : List UInt8 := l.drop (unfR l).2.1
theorem unf_le (l : List UInt8) : (unfR l).2.1 ≤ l.length ∧ (unfR l).1.length ≤ 65536 := by
  unfold unfR
  split
  · exact ⟨Nat.zero_le _, by simp⟩
  · rename_i h
    split
    · exact ⟨Nat.zero_le _, by simp⟩
    · split
      · exact ⟨Nat.zero_le _, by simp⟩
      · split
        · exact ⟨Nat.zero_le _, by simp⟩
        · refine ⟨by simp only; omega, ?_⟩
          simp only [List.length_take]
          omega
set_option maxHeartbeats 1000000 in
theorem unframed_any (l : List UInt8) (w : World) (hm : l.length ≤ maxLen) :
    Calls Tryz.prog 42 #[sv l] w fun e w' => ∃ g, e = .returned (.tuple #[wpt (some g), sv (ufT l)]) ∧ RAt w' (some g) (ufR l) ∧ Fr No w w' ∧ w.heap.size ≤ g := by
  obtain ⟨hle, hb⟩ := unf_le l
  have HU := Lib.hid (unf_any l w hm)
  have HT : Hid (ufT l = l.drop (unfR l).2.1) := Lib.hid rfl
  have HR : Hid (ufR l = (RS.mk (unfR l).1 0).fail (unfR l).2.2) := Lib.hid rfl
  unfold Unf at HU
  generalize unfR l = U at *
  obtain ⟨B, n, e0⟩ := U
  simp only at hle hb HU HT HR
  have hrest : (ByteArray.mk l.toArray).extract n l.length = ⟨(l.drop n).toArray⟩ := by rw [ext_list, List.take_length]
  unfold maxLen at hm
  go_enter Tryz.func42, Tryz.ntmps42
  go_wp2_with fail
  refine HU.out.mono ?_
  rintro e w1 ⟨rfl, b1⟩
  have F1 := Lib.hid (Fr.of_below b1)
  clear b1
  go_wp2_with fail
  refine (read_any B w1).mono ?_
  rintro e w2 ⟨rfl, hw2⟩
  have HA : Hid (RAt w2 (some w1.heap.size) ⟨B, 0⟩) := Lib.hid (by rw [← hw2]; exact RAt.new w1 B (by omega))
  have F2 : Hid (Fr No w w2) := Lib.hid (by rw [← hw2]; exact F1.out.alloc _)
  have HG : Hid (w.heap.size ≤ w1.heap.size) := Lib.hid F1.out.size
  clear hw2
  obtain ⟨g, hg⟩ : ∃ g, w1.heap.size = g := ⟨_, rfl⟩
  rw [hg] at HA HG ⊢
  clear hg F1
  go_wp2_with fail
  have C3 := rfail_any (some g) ⟨B, 0⟩ e0 w2 HA.out
  rw [wpt_some] at C3
  refine C3.mono ?_
  clear C3
  rintro e w3 ⟨rfl, h3, f3⟩
  have H3 := Lib.hid h3
  have F3 : Hid (Fr No w w3) := Lib.hid (F2.out.trans f3 fun k hk e => by
    have e' : g = k := Option.some.inj e
    have := HG.out
    omega)
  clear h3 f3
  go_wp2
  go_quiet (fail)
  go_wp2
  go_ret2
  exact ⟨g, by rw [HT.out, wpt_some]; first | done | rfl, by rw [HR.out]; exact H3.out.keep ((Fr.refl _ _).drewN _), F3.out.drewN _, HG.out⟩
end Go.Proofs.YtikpojnmaiplnaaGreatDoor
