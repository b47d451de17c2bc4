/- Texts as one. -/
import Derived.Test.YtlpglijikmnopaaGreatDoorUG2
import Derived.Test.YtlpglijikmnopaaGreatDoorSH1
import Derived.Lib.BufferRead
import Derived.Laws.IdiomStrings
import Derived.Lib.ItoaLen
namespace Go.Proofs.YtlpglijikmnopaaGreatDoor
open Go.RowKit Go.Maps Go.Sort
set_option linter.unusedVariables false

/-- The library's table of tens. -/
def Pv (w : World) : Prop := Lib.TabIs Tryz.prog w "internal/strconv.uint64pow10" .u64 Lib.pow10Tab
theorem pow_at : Tryz.prog.globalNamed "internal/strconv.uint64pow10" = some 0 := by kernel_rfl
theorem Pv.lt {w : World} (h : Pv w) : 0 < w.heap.size := by
  unfold Pv Lib.TabIs World.var? at h
  rw [pow_at] at h
  simp only [Option.bind_some] at h
  rcases Nat.eq_zero_or_pos w.heap.size with h' | h'
  · rw [Array.getElem?_eq_none (by omega)] at h; simp at h
  · exact h'
theorem Pv.of {w w' : World} (h : Pv w) (e : w'.heap[0]? = w.heap[0]?) : Pv w' := by
  unfold Pv Lib.TabIs World.var? at *
  rw [pow_at] at *
  simp only [Option.bind_some] at *
  rw [e]
  exact h
theorem Pv.fr {F : Nat → Prop} {w w' : World} (h : Pv w) (f : Fr F w w') (hF : ¬ F 0) : Pv w' := h.of (f.block 0 h.lt hF)
theorem Pv.no {w w' : World} (h : Pv w) (f : Fr No w w') : Pv w' := h.fr f id
theorem Fr.below_on {w0 w w' : World} {B : Nat} (f : Fr No w0 w) (hB : w0.heap.size = B) (h : Below B w w') : Fr No w0 w' :=
  ⟨h.os.trans f.os, h.tape.trans f.tape, h.output.trans f.output, Nat.le_trans f.size h.size, fun k hk hn => (h.block k (by omega)).trans (f.block k hk hn)⟩
/-- A row of bytes of one's own. -/
def ownB (b : Nat) (w : World) (v : Value) (t : Tx) : Prop := w.ownsRow b 5 1 v t.length (Lib.byteCells t)
theorem ownB.form {b : Nat} {w : World} {v : Value} {t : Tx} (h : ownB b w v t) : ∃ A c, v = .slice A t.length c := by
  rcases h.2 with ⟨e1, h0⟩ | ⟨g, cap, cur, e1, _⟩
  · exact ⟨none, 0, by rw [e1, h0]⟩
  · exact ⟨_, cap, e1⟩
theorem ownB.conv {b : Nat} {w : World} {v : Value} {t : Tx} (h : ownB b w v t) : (convert 128 9 v).run Tryz.prog w = .ok (sv t) w := by
  have hl := h.1
  rcases h.2 with ⟨rfl, h0⟩ | ⟨g, cap, cur, rfl, hb, hh, hnc, hcm, hs, ht⟩
  · have := List.eq_nil_of_length_eq_zero h0
    subst this
    exact Lib.run_convert_nil_bytes w 128 9 5 0 Tryz.underlying128 Tryz.underlying5 Tryz.underlying9
  · refine run_convert_bytes_back (P := Tryz.prog) w 128 9 5 ⟨g, 0, none⟩ cap t Tryz.underlying128 Tryz.underlying5 Tryz.underlying9 fun j hj => ?_
    rw [Addr.add_lit, Nat.zero_add, cell_of_row w g j cur 5 (0, 0) hh]
    have h1 : (cur.toList.take (t.length * 1))[j]? = (Lib.byteCells t)[j]? := by rw [ht]
    rw [List.getElem?_take, if_pos (by omega), Array.getElem?_toList] at h1
    rw [h1]
    unfold Lib.byteCells
    rw [List.getElem?_map, List.getElem?_eq_getElem hj]
    rfl
theorem info5 : (Tryz.prog.info? 5).map (fun i => (i.zero, i.size, i.bytes)) = some (some (.int .u8 0), 1, 1) := by kernel_rfl
theorem byteCells_append (a b : Tx) : Lib.byteCells (a ++ b) = Lib.byteCells a ++ Lib.byteCells b := by unfold Lib.byteCells; rw [List.map_append]
theorem app_string {b : Nat} {w0 w : World} {v : Value} {t : Tx} (hf : Fr No w0 w) (hb : w0.heap.size = b) (h : ownB b w v t) (s : Tx) (hl : t.length + s.length ≤ 140737488355328) :
    ∃ v' w', (∀ ty, (Builtin.append_ #[128, 9] ty #[v, sv s]).run Tryz.prog w = .ok v' w') ∧ ownB b w' v' (t ++ s) ∧ Fr No w0 w' := by
  obtain ⟨i0, hi, hz0, hz1, hz2⟩ := info_parts info5
  have key := fun ty => Lib.run_append_own_string (P := Tryz.prog) w b 128 9 ty 5 i0 Tryz.underlying128 Tryz.underlying9 hi hz0 hz1 hz2 v t.length (Lib.byteCells t) h ⟨s.toArray⟩ (by rw [sz]; unfold maxLen; omega) (by rw [sz]; exact hl) (by rw [← hb]; exact hf.size)
  obtain ⟨v', w', hr, how, hgr, hnil⟩ := key 0
  rw [sz] at how
  refine ⟨v', w', fun ty => ?_, ?_, hf.grown hgr fun k hk e => ?_⟩
  · exact hr
  · unfold ownB
    rw [List.length_append, byteCells_append]
    exact how
  · have := (h.lt k hk).1
    omega
theorem app_byte {b : Nat} {w0 w : World} {v : Value} {t : Tx} (hf : Fr No w0 w) (hb : w0.heap.size = b) (h : ownB b w v t) (c : UInt8) (hl : t.length + 1 ≤ 140737488355328) :
    ∃ v' w', (∀ ty, (Builtin.append_ #[128, 128] ty #[v, .slice (some ⟨w.heap.size, 0, none⟩) 1 1]).run Tryz.prog (w.alloc (.cells #[.int .u8 c.toNat] 5)) = .ok v' w') ∧ ownB b w' v' (t ++ [c]) ∧ Fr No w0 w' := by
  obtain ⟨i0, hi, hz0, hz1, hz2⟩ := info_parts info5
  have f1 : Fr No w0 (w.alloc (.cells #[.int .u8 c.toNat] 5)) := hf.alloc _
  have ho : (w.alloc (.cells #[.int .u8 c.toNat] 5)).ownsRow b 5 1 v t.length (Lib.byteCells t) := own_of h fun k hk => ((Fr.refl No w).alloc _).block k (h.lt k hk).2 id
  obtain ⟨v', w', hr, how, hgr, hnil, hat⟩ := run_append_own_at (P := Tryz.prog) (w.alloc (.cells #[.int .u8 c.toNat] 5)) b 128 0 5 i0 (.int .u8 0) 1 1 Tryz.underlying128 hi hz0 hz1 hz2 rfl (by decide) v t.length _ ho ⟨w.heap.size, 0, none⟩ 1 1 [.int .u8 c.toNat] rfl (cell_one_new _ _ _) (by simp [Value.oneCell']) (by unfold maxLen; omega) (by omega) (by rw [← hb]; exact f1.size)
  refine ⟨v', w', fun ty => hr, ?_, f1.grown hgr fun k hk e => ?_⟩
  · unfold ownB
    rw [List.length_append, byteCells_append]
    exact how
  · have := (ho.lt k hk).1
    omega
theorem appI_any {b : Nat} {w0 w : World} {v : Value} {t : Tx} (hf : Fr No w0 w) (hb : w0.heap.size = b) (h : ownB b w v t) (hp : Pv w0) (n : Nat) (hn : n ≤ 9223372036854775807) (hl : t.length + 21 ≤ 140737488355328) :
    Calls Tryz.prog 91 #[v, .int .i64 (n : Int), .int .i64 10] w fun e w' => ∃ A m c, e = .returned (.slice A m c) ∧ m = (t ++ Lib.itoa n).length ∧ ownB b w' (.slice A m c) (t ++ Lib.itoa n) ∧ Fr No w0 w' := by
  have hbw : b ≤ w.heap.size := by rw [← hb]; exact hf.size
  have hlt := hp.lt
  refine (Any.strconv_AppendInt_10 Tryz.layAI b t.length (n : Int) (by omega) (by omega) v (Lib.byteCells t) w h hbw hl fun w' hB => (hp.no (hf.below_on hb hB))).mono ?_
  rintro e w' ⟨v', rfl, how, hB, -⟩
  have ho : ownB b w' v' (t ++ Lib.itoa n) := by unfold ownB; rw [List.length_append, byteCells_append]; exact how
  obtain ⟨A, c, rfl⟩ := ho.form
  exact ⟨A, _, c, rfl, rfl, ho, hf.below_on hb hB⟩
/-- Texts as one text: each has its length ahead. -/
def jnT (l : List Tx) : Tx := l.flatMap fun s => Lib.itoa (s.length : Nat) ++ 32 :: s
theorem jnT_step {l : List Tx} {j : Nat} (h : j < l.length) : jnT (l.take (j + 1)) = (jnT (l.take j) ++ Lib.itoa (l[j].length : Nat) ++ [32]) ++ l[j] := by
  unfold jnT
  rw [take_succ h, List.flatMap_append]
  simp
theorem jnT_len {l : List Tx} (h : ∀ t ∈ l, t.length ≤ 2097152) : ∀ j, j ≤ l.length → (jnT (l.take j)).length ≤ j * 2097174
  | 0, _ => by simp [jnT]
  | j + 1, hj => by
    rw [jnT_step (by omega)]
    simp only [List.length_append, List.length_cons, List.length_nil]
    have h1 := jnT_len h j (by omega)
    have h2 := h l[j] (List.getElem_mem _)
    have h3 := Lib.itoa_length_le (l[j].length : Nat) (by omega) (by omega)
    omega
set_option maxRecDepth 100000 in
theorem joined_any {K : Nat → Prop} {l : List Tx} {v : Value} (w : World) (h : KR K w v l) (hl : l.length ≤ 4000000) (ht : ∀ t ∈ l, t.length ≤ 2097152) (hp : Pv w) : Calls Tryz.prog 72 #[v] w (TellsV (sv (jnT l)) w) := by
  obtain ⟨A, c, rfl, hlc, hcm⟩ := h.form
  obtain ⟨N, hN⟩ : ∃ n, l.length = n := ⟨_, rfl⟩
  rw [hN] at hlc h hl ⊢
  obtain ⟨B, hB⟩ : ∃ B, w.heap.size = B := ⟨_, rfl⟩
  have HB := Lib.hid hB
  have HN := Lib.hid hN
  obtain ⟨w1, hw1⟩ : ∃ w1, w.alloc (.cells #[] 5) = w1 := ⟨_, rfl⟩
  have HF1 : Hid (Fr No w w1) := Lib.hid (by rw [← hw1]; exact (Fr.refl No w).alloc _)
  have HO1 : Hid (ownB B w1 (.slice (some ⟨B, 0, none⟩) 0 0) (jnT (l.take 0))) := Lib.hid (by
    rw [← hw1, ← hB]
    exact ⟨by simp [jnT, Lib.byteCells], .inr ⟨w.heap.size, 0, #[], rfl, Nat.le_refl _, heap_alloc_new w _, Nat.le_refl _, by decide, by simp, by simp [jnT, Lib.byteCells]⟩⟩)
  have HW1 := Lib.hid hw1
  have HL : Hid (∀ w', Fr No w w' → KR K w' (.slice A N c) l) := Lib.hid fun w' f' => h.no f'
  have HT := Lib.hid ht
  have HP := Lib.hid hp
  have HLN := Lib.hid (jnT_len ht)
  unfold maxLen at hcm
  clear h hN hB hw1 ht hp
  go_enter Tryz.func72, Tryz.ntmps72
  go_upto_region 2 with fail
  rw [HW1.out, HB.out]
  go_wp2_with fail
  go_loopg [3, 5, 9] N (fun g r3 r5 r9 wr => Hid (∃ (j m : Nat) (A3 : Option Addr) (c3 : Nat), r9 = .int .i64 (j : Nat) ∧ j + g = N ∧ r3 = .slice A3 m c3 ∧ ownB B wr (.slice A3 m c3) (jnT (l.take j)) ∧ Fr No w wr))
  case atStart => exact Lib.hid ⟨0, 0, _, _, rfl, by omega, rfl, HO1.out, HF1.out⟩
  case round =>
  obtain ⟨j, m, A3, c3, rfl, hjm, rfl, ho, hf⟩ := hrel.out
  clear hrel
  by_cases hj : j < N
  · have hji : (j : Int) < (N : Int) := by omega
    have hjl : j < l.length := by rw [HN.out]; exact hj
    obtain ⟨g, off, rfl, -, -, hc, -⟩ := (HL.out wr hf).at_ hjl
    have hst := jnT_step hjl
    have hxl := HT.out l[j] (List.getElem_mem _)
    have hbd : (jnT (l.take j)).length ≤ 8388696000000 := Nat.le_trans (HLN.out j (by omega)) (Nat.mul_le_mul_right 2097174 (show j ≤ 4000000 by omega))
    obtain ⟨s, hs⟩ : ∃ s, l[j] = s := ⟨_, rfl⟩
    obtain ⟨T, hT⟩ : ∃ T, jnT (l.take j) = T := ⟨_, rfl⟩
    rw [hs] at hc hst hxl
    rw [hT] at hst ho hbd
    have hil := Lib.itoa_length_le (s.length : Nat) (by omega) (by omega)
    have HST := Lib.hid hst
    have HI := Lib.hid (appI_any hf HB.out ho HP.out s.length (by omega) (Nat.le_trans (Nat.add_le_add_right hbd 21) (by decide)))
    have HBD := Lib.hid hbd
    have HIL := Lib.hid hil
    have HXL := Lib.hid hxl
    have hsz : (⟨s.toArray⟩ : ByteArray).size = s.length := sz s
    obtain ⟨sl, hsl⟩ : ∃ n, s.length = n := ⟨_, rfl⟩
    rw [hsl] at hsz HI HXL HIL HST
    have hslb : sl ≤ 2097152 := HXL.out
    have HSL := Lib.hid hsl
    clear hst hs hT ho hf hbd hil hsl hxl
    go_wp2_with fail
    refine HI.out.mono ?_
    rintro e w2 ⟨A4, m4, c4, rfl, hm4, ho4, f4⟩
    obtain ⟨T4, hT4⟩ : ∃ X, T ++ Lib.itoa (sl : Nat) = X := ⟨_, rfl⟩
    rw [hT4] at hm4 ho4 HST
    have hb4 : T4.length ≤ 8388696000021 := by rw [← hT4, List.length_append]; exact Nat.add_le_add HBD.out HIL.out
    obtain ⟨v5, w5, hrun5, ho5, f5⟩ := app_byte f4 HB.out ho4 32 (Nat.le_trans (Nat.add_le_add_right hb4 1) (by decide))
    obtain ⟨A5, c5, rfl⟩ := ho5.form
    have hb5 : (T4 ++ [32]).length ≤ 8388696000022 := by rw [List.length_append]; exact Nat.add_le_add_right hb4 1
    obtain ⟨T5, hT5⟩ : ∃ X, T4 ++ [32] = X := ⟨_, rfl⟩
    rw [hT5] at hrun5 ho5 hb5 HST
    obtain ⟨v6, w6, hrun6, ho6, f6⟩ := app_string f5 HB.out ho5 s (Nat.le_trans (Nat.add_le_add hb5 (show s.length ≤ 2097152 by rw [HSL.out]; exact hslb)) (by decide))
    obtain ⟨A6, c6, rfl⟩ := ho6.form
    obtain ⟨m5, hm5⟩ : ∃ m, T5.length = m := ⟨_, rfl⟩
    obtain ⟨m6, hm6⟩ : ∃ m, (T5 ++ s).length = m := ⟨_, rfl⟩
    rw [hm5] at hrun5 hrun6
    rw [hm6] at hrun6 ho6
    rw [← HST.out] at ho6
    have HR5 := Lib.hid hrun5
    have HR6 := Lib.hid hrun6
    have HO6 := Lib.hid ho6
    have HF6 := Lib.hid f6
    clear hT4 hb4 hm4 ho4 f4 hrun5 ho5 f5 hb5 hT5 hrun6 ho6 f6 hm5 hm6
    go_wp2_with (first | (at_builtin; refine wpList_add rfl _ _ _ _ rfl _ _ _ _ rfl rfl (HR5.out _) ?_) | (at_builtin; refine wpList_add rfl _ _ _ _ rfl _ _ _ _ rfl rfl (HR6.out _) ?_))
    obtain ⟨g1, rfl⟩ : ∃ g1, gk = g1 + 1 := ⟨gk - 1, by omega⟩
    go_roundg g1
    case rel => exact Lib.hid ⟨j + 1, m6, A6, c6, by go_num, by omega, rfl, HO6.out, HF6.out⟩
    all_goals omega
  · have hji : (N : Int) ≤ (j : Int) := by omega
    have HE : Hid (l.take j = l) := Lib.hid (List.take_of_length_le (by rw [HN.out]; omega))
    have hcv := ho.conv
    rw [HE.out] at hcv
    have HF := Lib.hid hf
    clear hf ho
    go_wp2_with fail
    go_ret
    exact ⟨rfl, HF.out⟩
end Go.Proofs.YtlpglijikmnopaaGreatDoor
