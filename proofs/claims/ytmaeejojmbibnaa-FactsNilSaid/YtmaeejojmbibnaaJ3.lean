/- FactsNil, walked. -/
import Derived.Test.YtmaeejojmbibnaaJ2
namespace Go.Proofs.Ytmaeejojmbibnaa
open Go.RowKit Go.Maps
set_option linter.unusedVariables false

section
variable (w : World) (p : Option Addr)
theorem span_nz (hn : ∀ w', Fr No w w' → NoneP p w') (a b : Int) : Calls Try.prog 37 #[.pointer p, .int .i64 a, .int .i64 b] w (SpanP 0 0 w) := by
  have HN : Hid (NoneP p (w.alloc (.cells #[.pointer p] 24))) := Lib.hid (hn _ ((Fr.refl _ w).alloc _))
  clear hn
  go_enter Try.func37, Try.ntmps37
  go_wp2_with (go_at_call 36; refine HN.out.mono ?_; rintro e w' ⟨rfl, rfl⟩)
  go_ret2
  exact ⟨rfl, (Fr.refl _ w).alloc _⟩
end
theorem match_nz (w : World) (p : Option Addr) (i : Int) (t : Tx) (to' : Int) (hn : ∀ w', Fr No w w' → OutP p i w') : Calls Try.prog 26 #[.pointer p, .int .i64 i, encT t, .int .i64 to'] w fun e w' => e = .returned (.int .i64 0) ∧ Fr No w w' := by
  have HN : Hid (OutP p i (w.alloc (.cells #[.int .i64 i] 3))) := Lib.hid (hn _ ((Fr.refl _ w).alloc _))
  have HF : Hid (Fr No w (w.alloc (.cells #[.int .i64 i] 3))) := Lib.hid ((Fr.refl No w).alloc _)
  unfold encT
  generalize (⟨t.toArray⟩ : ByteArray) = sz at *
  clear hn
  go_enter Try.func26, Try.ntmps26
  go_wp2_with (go_at_call 42; refine HN.out.mono ?_; rintro e w' ⟨rfl, rfl⟩)
  go_ret
  exact ⟨rfl, HF.out⟩
section
variable (w : World)
set_option maxRecDepth 100000 in
set_option maxHeartbeats 8000000 in
theorem scan_nz (p : Option Addr) (hn : ∀ w', Fr No w w' → NoneP p w') (a b : Int) (K M : Nat) (TC MC : Nat → Nat → Value) : Calls Try.prog 19 #[.pointer p, .int .i64 a, .int .i64 b] w (ScanQ 0 K M TC MC w) := by
  obtain ⟨w0, hw0⟩ : ∃ w0, w.alloc (.cells #[.pointer p] 24) = w0 := ⟨_, rfl⟩
  obtain ⟨bs, hbs⟩ : ∃ bs, w.heap.size = bs := ⟨_, rfl⟩
  have f0 : Fr No w w0 := by rw [← hw0]; exact (Fr.refl _ w).alloc _
  have hb0 : Blk w0 bs 24 #[.pointer p] := by rw [← hw0, ← hbs]; exact Blk.new w 24 _
  have b0 : w0.cell? ⟨bs, 0, none⟩ = some (.pointer p) := hb0.cell 0
  have HSP : Hid (Calls Try.prog 37 #[.pointer p, .int .i64 a, .int .i64 b] w0 (SpanP 0 0 w0)) := Lib.hid (span_nz w0 p (fun wx fx => hn wx (f0.nn fx)) a b)
  have HF0 := Lib.hid f0
  have HB0 := Lib.hid hb0
  have HW0 := Lib.hid hw0
  have HBS := Lib.hid hbs
  have hmk : ∀ w : World, (Instr.makeSlice 32 (.int .i64 0) (.int .i64 0)).run Try.prog w = .ok (.slice (some ⟨w.heap.size, 0, none⟩) 0 0) (w.alloc (.cells (zfacts 0) 51)) := make32c 0 (by omega)
  clear hn f0 hb0 hw0 hbs
  go_enter Try.func19, Try.ntmps19
  go_upto_region 1 with fail
  rw [HW0.out, HBS.out]
  go_wp2_with fail
  refine HSP.out.mono ?_
  rintro e w1 ⟨rfl, f1⟩
  have HF1 := Lib.hid f1
  have b1 : w1.cell? ⟨bs, 0, none⟩ = some (.pointer p) := (cell_of_heap (f1.block bs HB0.out.lt id)).trans b0
  obtain ⟨r, hr⟩ : ∃ r, w1.heap.size = r := ⟨_, rfl⟩
  obtain ⟨bl, hbl⟩ : ∃ bl, r + 1 = bl := ⟨_, rfl⟩
  obtain ⟨w2, hw2⟩ : ∃ w2, (w1.alloc (.cells (zfacts 0) 51)).alloc (.cells #[.slice (some ⟨r, 0, none⟩) 0 0] 32) = w2 := ⟨_, rfl⟩
  have HBL : Hid (Blk w2 bl 32 #[.slice (some ⟨r, 0, none⟩) 0 0]) := Lib.hid (by
    rw [← hw2, ← hbl]
    have h := Blk.new (w1.alloc (.cells (zfacts 0) 51)) 32 #[.slice (some ⟨r, 0, none⟩) 0 0]
    have e : (w1.alloc (.cells (zfacts 0) 51)).heap.size = w1.heap.size + 1 := by simp
    rw [e, hr] at h
    exact h)
  have HT : Hid (Told w.heap.size w2 (.slice (some ⟨r, 0, none⟩) 0 0) 0 K M TC MC) := Lib.hid (by
    have h := Told.start w1 K M 0 (by simp) TC MC
    rw [hr] at h
    have h2 := h.keep ((Fr.refl No _).alloc (.cells #[.slice (some ⟨r, 0, none⟩) 0 0] 32))
    rw [hw2] at h2
    obtain ⟨da, ma, o, b⟩ := h2
    have hle : w.heap.size ≤ r := by rw [← hr]; exact Nat.le_trans HF0.out.size HF1.out.size
    exact ⟨da, ma, own_base o hle, b.base hle⟩)
  have HF2 : Hid (Fr No w w2) := Lib.hid (by rw [← hw2]; exact (((HF0.out.trans HF1.out fun _ _ h => h).alloc _).alloc _))
  have HW2 := Lib.hid hw2
  have HBL2 := Lib.hid hbl
  have HR := Lib.hid hr
  have b2 : w2.cell? ⟨bs, 0, none⟩ = some (.pointer p) := by
    have f : Fr No w1 w2 := by rw [← hw2]; exact ((Fr.refl No w1).alloc _).alloc _
    exact (cell_of_heap (f.block bs (World.block_lt_of_cell? _ _ b1) id)).trans b1
  have b3 : w2.cell? ⟨bl, 0, none⟩ = some (.slice (some ⟨r, 0, none⟩) 0 0) := HBL.out.cell 0
  clear f1 hbl hr hw2 b0 b1
  go_upto_region 3 with fail
  rw [HR.out, HBL2.out, HW2.out]
  go_wp2_with fail
  refine (pieces_none p w2 _ _ _).mono ?_
  rintro e w3 ⟨rfl, rfl⟩
  go_wp2
  go_ret
  exact ⟨_, rfl, HT.out, HF2.out⟩
end
/-- A store that is none, as far as worlds behind w go. -/
def Nz (p : Option Addr) (w : World) : Prop := ∀ w', Fr No w w' → NoneP p w'
theorem Nz.keep {p : Option Addr} {w w' : World} (h : Nz p w) (hf : Fr No w w') : Nz p w' := fun wx fx => h wx (hf.nn fx)
theorem Nz.now {p : Option Addr} {w : World} (h : Nz p w) : NoneP p w := h w (Fr.refl _ _)
theorem nz_nil (w : World) : Nz none w := fun w' _ => none_nil w'
theorem nz_zero {w : World} {z : Nat} (h : Blk w z 60 zeroS) : Nz (some ⟨z, 0, none⟩) w := fun w' f => none_zero w' z (h.of (f.block z h.lt id))
theorem Nz.out {p : Option Addr} {w : World} (h : Nz p w) (i : Int) : ∀ w', Fr No w w' → OutP p i w' := fun w' f => shas_none w' p (h w' f) i
theorem Nz.append {p : Option Addr} {w : World} (h : Nz p w) (A : Option Addr) (n c : Nat) : Calls Try.prog 21 #[.pointer p, .slice A n c] w fun e w' => e = .returned (.tuple #[.int .i64 0, .int .i64 1]) ∧ Fr No w w' :=
  append_no w p A n c 1 (by decide) (check_none w p A n c h.now)
theorem Nz.size {p : Option Addr} {w : World} (h : Nz p w) (a b : Int) : Calls Try.prog 23 #[.pointer p, .int .i64 a, .int .i64 b] w fun e w' => e = .returned (.int .i64 0) ∧ Fr No w w' :=
  size_of w p a b 0 0 (by omega) (by omega) (span_nz w p h a b)
def Sc0 (w : World) (e : Ending) (w' : World) : Prop := ∃ A c, e = .returned (.slice A 0 c) ∧ Fr No w w'
theorem Nz.scan {p : Option Addr} {w : World} (h : Nz p w) (a b : Int) : Calls Try.prog 19 #[.pointer p, .int .i64 a, .int .i64 b] w (Sc0 w) := by
  refine (scan_nz w p h a b 0 0 (fun _ _ => zT) (fun _ _ => zT)).mono ?_
  rintro e w' ⟨v, he, ⟨da, ma, o, _⟩, f⟩
  obtain ⟨A, c, rfl⟩ := own_form o
  exact ⟨A, c, he, f⟩
theorem Nz.match_ {p : Option Addr} {w : World} (h : Nz p w) (i : Int) (b : Int) : Calls Try.prog 26 #[.pointer p, .int .i64 i, .string ⟨#[]⟩, .int .i64 b] w fun e w' => e = .returned (.int .i64 0) ∧ Fr No w w' :=
  match_nz w p i [] b (h.out i)
set_option maxRecDepth 100000 in
set_option maxHeartbeats 8000000 in
theorem factsNil_any (A : Option Addr) (n c : Nat) (a b : Int) (w : World) : Calls Try.prog 7 #[.slice A n c, .int .i64 a, .int .i64 b] w fun e w' => e = .returned (.bool true) ∧ Below w.heap.size w w' := by
  obtain ⟨w1, hw1⟩ : ∃ w1, w.alloc (.cells zeroS 60) = w1 := ⟨_, rfl⟩
  obtain ⟨z, hz⟩ : ∃ z, w.heap.size = z := ⟨_, rfl⟩
  have f1 : Fr No w w1 := by rw [← hw1]; exact (Fr.refl _ w).alloc _
  have hb1 : Blk w1 z 60 zeroS := by rw [← hw1, ← hz]; exact Blk.new w 60 _
  have HN : Hid (Nz none w1) := Lib.hid (nz_nil w1)
  have HZ : Hid (Nz (some ⟨z, 0, none⟩) w1) := Lib.hid (nz_zero hb1)
  have F1 := Lib.hid f1
  have HW1 := Lib.hid hw1
  have HZZ := Lib.hid hz
  unfold zeroS at HW1
  clear f1 hb1 hw1 hz
  go_enter Try.func7, Try.ntmps7
  go_upto_region 3 with fail
  rw [HW1.out, HZZ.out]
  go_wp2_with fail
  refine (HN.out.append A n c).mono ?_
  rintro e w2 ⟨rfl, f2⟩
  have F2 := Lib.hid f2
  clear f2
  go_wp2_with fail
  refine ((HZ.out.keep F2.out).append A n c).mono ?_
  rintro e w3 ⟨rfl, f3⟩
  have F3 : Hid (Fr No w1 w3) := Lib.hid (F2.out.nn f3)
  clear f3
  go_wp2_with fail
  refine (awake_any w3).mono ?_
  rintro e w4 ⟨rfl, b4⟩
  have F4 : Hid (Fr No w1 w4) := Lib.hid (F3.out.nn (Fr.of_below b4))
  have HN4 := Lib.hid (HN.out.keep F4.out)
  have HZ4 := Lib.hid (HZ.out.keep F4.out)
  clear b4 HN HZ
  go_wp2_with fail
  refine (check_none w4 none A n c HN4.out.now).mono ?_
  rintro e w5 ⟨rfl, f5⟩
  have HN5 := Lib.hid (HN4.out.keep f5)
  have F5 := Lib.hid f5
  clear f5
  go_wp2_with fail
  refine (seq_none w5 none HN5.out.now).mono ?_
  rintro e w' ⟨rfl, rfl⟩
  go_wp2_with fail
  refine (len_none w5 none HN5.out.now).mono ?_
  rintro e w' ⟨rfl, rfl⟩
  go_wp2_with fail
  refine (HN5.out.scan a b).mono ?_
  rintro e w6 ⟨A6, c6, rfl, f6⟩
  have HN6 := Lib.hid (HN5.out.keep f6)
  have F6 : Hid (Fr No w4 w6) := Lib.hid (F5.out.nn f6)
  clear f6
  go_wp2_with fail
  refine (HN6.out.size a b).mono ?_
  rintro e w7 ⟨rfl, f7⟩
  have HN7 := Lib.hid (HN6.out.keep f7)
  have F7 : Hid (Fr No w4 w7) := Lib.hid (F6.out.nn f7)
  clear f7
  go_wp2_with fail
  refine (values_out w7 none a (HN7.out.out a _ (Fr.refl _ _))).mono ?_
  rintro e w' ⟨rfl, rfl⟩
  go_wp2_with fail
  refine (HN7.out.match_ a b).mono ?_
  rintro e w8 ⟨rfl, f8⟩
  have HN8 := Lib.hid (HN7.out.keep f8)
  have F8 : Hid (Fr No w4 w8) := Lib.hid (F7.out.nn f8)
  clear f8
  go_wp2_with fail
  refine (segments_none w8 none HN8.out.now).mono ?_
  rintro e w' ⟨rfl, rfl⟩
  have HZ8 := Lib.hid (HZ4.out.keep F8.out)
  go_wp2_with fail
  refine (seq_none w8 _ HZ8.out.now).mono ?_
  rintro e w' ⟨rfl, rfl⟩
  go_wp2_with fail
  refine (len_none w8 _ HZ8.out.now).mono ?_
  rintro e w' ⟨rfl, rfl⟩
  go_wp2_with fail
  refine (HZ8.out.scan a b).mono ?_
  rintro e w9 ⟨A9, c9, rfl, f9⟩
  have HZ9 := Lib.hid (HZ8.out.keep f9)
  have F9 : Hid (Fr No w4 w9) := Lib.hid (F8.out.nn f9)
  clear f9
  go_wp2_with fail
  refine (values_out w9 _ 0 (HZ9.out.out 0 _ (Fr.refl _ _))).mono ?_
  rintro e w' ⟨rfl, rfl⟩
  go_wp2_with fail
  refine (HZ9.out.match_ 0 1).mono ?_
  rintro e wa ⟨rfl, fa⟩
  have FA : Hid (Fr No w wa) := Lib.hid (F1.out.nn (F4.out.nn (F9.out.nn fa)))
  clear fa
  go_wp2
  go_ret
  exact ⟨rfl, FA.out.below⟩
end Go.Proofs.Ytmaeejojmbibnaa
