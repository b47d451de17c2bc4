/- awake: the chapter's own examples. -/
import Derived.Test.YtjhjcdfhfjeogaaC3
namespace Go.Proofs.Ytjhjcdfhfjeogaa
open Go.RowKit Go.Maps
set_option linter.unusedVariables false

abbrev aHi : ByteArray := ⟨#[104, 105]⟩
abbrev aFr : ByteArray := ⟨#[2, 0, 0, 0, 172, 42, 147, 216, 104, 105]⟩
abbrev aFa : ByteArray := ⟨#[2, 0, 0, 0, 172, 42, 147, 216, 104, 105, 97, 98, 99]⟩
abbrev aTx : ByteArray := ⟨#[7, 2, 0, 0, 0, 97, 98]⟩
abbrev aAb : ByteArray := ⟨#[97, 98]⟩
abbrev aNn : ByteArray := ⟨#[49, 50, 51, 52, 53, 54, 55, 56, 57]⟩
theorem a_frame (w : World) : Calls Try.prog 15 #[.string ⟨#[104, 105]⟩] w fun e w' => e = .returned (.tuple #[.string ⟨#[2, 0, 0, 0, 172, 42, 147, 216, 104, 105]⟩, .int .i64 0]) ∧ Below w.heap.size w w' := by
  refine (frame_any [104, 105] w (by decide)).mono ?_
  rintro e w' ⟨rfl, hb⟩
  exact ⟨by rw [frameV_ok (by decide)]; have : frameR [104, 105] = [2, 0, 0, 0, 172, 42, 147, 216, 104, 105] := by kernel_rfl
            rw [this], hb⟩
theorem a_unf (w : World) : Calls Try.prog 17 #[.string ⟨#[2, 0, 0, 0, 172, 42, 147, 216, 104, 105, 97, 98, 99]⟩] w fun e w' => e = .returned (.tuple #[.string ⟨#[104, 105]⟩, .int .i64 10, .int .i64 0]) ∧ Below w.heap.size w w' := by
  refine (unf_any [2, 0, 0, 0, 172, 42, 147, 216, 104, 105, 97, 98, 99] w (by decide)).mono ?_
  rintro e w' ⟨rfl, hb⟩
  have : unfR [2, 0, 0, 0, 172, 42, 147, 216, 104, 105, 97, 98, 99] = ([104, 105], 10, 0) := by kernel_rfl
  exact ⟨by rw [this]; rfl, hb⟩
theorem a_sum (w : World) : Calls Try.prog 13 #[.string ⟨#[49, 50, 51, 52, 53, 54, 55, 56, 57]⟩] w fun e w' => e = .returned (.int .u32 3421780262) ∧ Below w.heap.size w w' := by
  refine (sum_any ⟨#[49, 50, 51, 52, 53, 54, 55, 56, 57]⟩ w (by decide)).mono ?_
  rintro e w' ⟨rfl, hb⟩
  have : crc [49, 50, 51, 52, 53, 54, 55, 56, 57] = 3421780262 := by kernel_rfl
  exact ⟨ret_u32 (by rw [show (#[49, 50, 51, 52, 53, 54, 55, 56, 57] : Array UInt8).toList = [49, 50, 51, 52, 53, 54, 55, 56, 57] from rfl, this]; rfl), hb⟩
theorem a_cat (w : World) : (Op.stringOp .add ⟨#[2, 0, 0, 0, 172, 42, 147, 216, 104, 105]⟩ ⟨#[97, 98, 99]⟩).run Try.prog w = .ok (.string ⟨#[2, 0, 0, 0, 172, 42, 147, 216, 104, 105, 97, 98, 99]⟩) w :=
  run_cat [2, 0, 0, 0, 172, 42, 147, 216, 104, 105] [97, 98, 99] (by decide) w
theorem a_w : ((WS.zero.byte 7).text [97, 98]) = ⟨[7, 2, 0, 0, 0, 97, 98], 0⟩ := by kernel_rfl
theorem a_r1 : (RS.mk [7, 2, 0, 0, 0, 97, 98] 0).byte = (7, ⟨[2, 0, 0, 0, 97, 98], 0⟩) := by kernel_rfl
theorem a_r2 : (RS.mk [2, 0, 0, 0, 97, 98] 0).text = ([97, 98], ⟨[], 0⟩) := by kernel_rfl
theorem a_r3 : (RS.mk [] 0).done = 0 := by kernel_rfl

set_option maxRecDepth 100000 in
set_option maxHeartbeats 2000000 in
theorem awake_any (w : World) : Calls Try.prog 11 #[] w fun e w' => e = .returned (.bool true) ∧ Below w.heap.size w w' := by
  have hcat := a_cat
  go_enter Try.func11, Try.ntmps11
  go_wp2_with fail
  refine (a_frame _).mono ?_
  rintro e w1 ⟨rfl, hb1⟩
  have B1 := Lib.hid hb1
  clear hb1
  go_wp2_with fail
  refine (a_unf _).mono ?_
  rintro e w2 ⟨rfl, hb2⟩
  have B2 := Lib.hid (B1.out.trans (hb2.mono B1.out.size))
  clear hb2 B1
  go_wp2_with fail
  obtain ⟨g, hg⟩ : ∃ g, w2.heap.size = g := ⟨_, rfl⟩
  have hn := WAt.new w2
  have hf : Fr No w (w2.alloc (.cells #[.slice none 0 0, .int .i64 0] 52)) := (Fr.of_below B2.out).alloc _
  have HG := Lib.hid hg
  obtain ⟨w3, hw3⟩ : ∃ w3, w2.alloc (.cells #[.slice none 0 0, .int .i64 0] 52) = w3 := ⟨_, rfl⟩
  have HC := Lib.hid (show w.heap.size ≤ g by rw [← hg]; exact B2.out.size)
  rw [hw3, hg] at hn
  rw [hw3] at hf
  rw [hg, hw3]
  have F3 := Lib.hid (hf.below)
  refine (wbyte_any (some g) _ WS.zero 7 w3 hn (by omega)).mono ?_
  rintro e w4 ⟨rfl, v4, h4, l4⟩
  have H4 := Lib.hid h4
  have hb4 : Below w.heap.size w w4 := F3.out.trans (l4.fr.below_of (by exact F3.out.size) (by
    rintro k (e | e)
    · obtain rfl := Option.some.inj e; exact HC.out
    · simp [Value.ownBlock] at e))
  have hv4 : ∀ k, v4.ownBlock = some k → w.heap.size ≤ k := fun k hk => by
    rcases l4.own k hk with e | e
    · simp [Value.ownBlock] at e
    · exact Nat.le_trans F3.out.size e
  have B4 := Lib.hid hb4
  have V4 := Lib.hid hv4
  clear hn hf hg hw3 h4 l4 hb4 hv4
  go_wp2_with fail
  refine (wtext_any (some g) _ _ [97, 98] w4 H4.out (by decide)).mono ?_
  rintro e w5 ⟨rfl, v5, h5, l5⟩
  have hb5 : Below w.heap.size w w5 := B4.out.trans (l5.fr.below_of (by exact B4.out.size) (by
    rintro k (e | e)
    · obtain rfl := Option.some.inj e; exact HC.out
    · exact V4.out k e))
  rw [a_w] at h5
  have H5 := Lib.hid h5
  have B5 := Lib.hid hb5
  clear h5 l5 hb5 B4 H4 V4
  go_wp2_with fail
  refine (wdone_any (some g) _ _ w5 H5.out).mono ?_
  rintro e w6 ⟨rfl, hf6⟩
  have B6 := Lib.hid (B5.out.trans (hf6.below.mono B5.out.size))
  clear hf6 B5 H5
  go_wp2_with fail
  refine (read_any [7, 2, 0, 0, 0, 97, 98] w6).mono ?_
  rintro e w7 ⟨rfl, hw7⟩
  have R7 := Lib.hid (RAt.new w6 [7, 2, 0, 0, 0, 97, 98] (by decide))
  have B7 : Hid (Below w.heap.size w (w6.alloc (.cells #[sv [7, 2, 0, 0, 0, 97, 98], .int .i64 0] 78))) := Lib.hid (B6.out.alloc B6.out.size _)
  have C7 := Lib.hid B6.out.size
  rw [hw7] at R7 B7
  obtain ⟨r, hr⟩ : ∃ r, w6.heap.size = r := ⟨_, rfl⟩
  rw [hr] at R7 C7 ⊢
  clear hw7 hr B6
  go_wp2_with fail
  refine (a_sum _).mono ?_
  rintro e w8 ⟨rfl, hb8⟩
  have R8 := Lib.hid (R7.out.below hb8)
  have B8 := Lib.hid (B7.out.trans (hb8.mono B7.out.size))
  clear hb8 R7 B7
  go_wp2_with fail
  refine (rbyte_any (some r) _ w8 R8.out).mono ?_
  rw [a_r1]
  rintro e w9 ⟨rfl, h9, f9⟩
  have R9 := Lib.hid h9
  have B9 : Hid (Below w.heap.size w w9) := Lib.hid (B8.out.trans (f9.below_of B8.out.size (fun k hk => by obtain rfl := Option.some.inj hk; exact C7.out)))
  clear h9 f9 R8 B8
  go_wp2_with fail
  refine (rtext_any (some r) _ w9 R9.out).mono ?_
  rw [a_r2]
  rintro e w10 ⟨rfl, h10, f10⟩
  have R10 := Lib.hid h10
  have B10 : Hid (Below w.heap.size w w10) := Lib.hid (B9.out.trans (f10.below_of B9.out.size (fun k hk => by obtain rfl := Option.some.inj hk; exact C7.out)))
  clear h10 f10 R9 B9
  go_wp2_with fail
  refine (rdone_any (some r) _ w10 R10.out).mono ?_
  rw [a_r3]
  rintro e w11 ⟨rfl, rfl⟩
  go_wp2
  go_ret
  exact ⟨rfl, B10.out⟩
end Go.Proofs.Ytjhjcdfhfjeogaa
