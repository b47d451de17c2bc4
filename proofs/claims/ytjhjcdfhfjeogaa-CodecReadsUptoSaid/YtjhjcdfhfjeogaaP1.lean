/- The document's reader in memory: Fail, take, Done, Byte, Int. -/
import Derived.Test.YtjhjcdfhfjeogaaC3
namespace Go.Proofs.Ytjhjcdfhfjeogaa
open Go.RowKit Go.Maps
set_option linter.unusedVariables false

/-- How it lies. -/
structure DAt (w : World) (g : Nat) (S : RS) : Prop where
  blk : Blk w g 73 #[sv S.rest, .int .i64 S.fault]
  len : S.rest.length ≤ 1073741824
def DFt (g k : Nat) : Prop := g = k
theorem DAt.of {w w' : World} {g : Nat} {S : RS} (h : DAt w g S) (hk : w'.heap[g]? = w.heap[g]?) : DAt w' g S := ⟨h.blk.of hk, h.len⟩
theorem DAt.lt {w : World} {g : Nat} {S : RS} (h : DAt w g S) : g < w.heap.size := h.blk.lt
theorem DAt.keep {w w' : World} {g : Nat} {S : RS} (h : DAt w g S) (hb : Fr No w w') : DAt w' g S := h.of (hb.block g h.lt id)
theorem DAt.new (w : World) (l : List UInt8) (hl : l.length ≤ 1073741824) : DAt (w.alloc (.cells #[sv l, .int .i64 0] 73)) w.heap.size ⟨l, 0⟩ := ⟨Blk.new w 73 _, hl⟩
/-- A call of it that tells v. -/
def DP (g : Nat) (w : World) (v : Value) (S' : RS) (e : Ending) (w' : World) : Prop := e = .returned v ∧ DAt w' g S' ∧ Fr (DFt g) w w'
def dpt (g : Nat) : Value := .pointer (some ⟨g, 0, Option.none⟩)

theorem dfail_any (g : Nat) (S : RS) (n : Int) (w : World) (h : DAt w g S) : Calls Try.prog 30 #[dpt g, .int .i64 n] w (DP g w (.tuple #[]) (S.fail n)) := by
  have c0 : w.cell? ⟨g, 0, none⟩ = some (sv S.rest) := h.blk.cell 0
  have c1 : w.cell? ⟨g, 1, none⟩ = some (.int .i64 S.fault) := h.blk.cell 1
  have f0 := h.blk.frozen 0
  have f1 := h.blk.frozen 1
  have H := Lib.hid h
  clear h
  unfold dpt
  by_cases h0 : S.fault = 0
  · rw [h0] at c1
    by_cases hn : n = 0
    · have HV : Hid (S.fail n = S) := Lib.hid (by unfold RS.fail; rw [if_neg (by simp [hn])])
      subst hn
      clear h0
      go_enter Try.func30, Try.ntmps30
      go_wp2
      go_end0
      exact ⟨rfl, by rw [HV.out]; exact H.out, Fr.refl _ _⟩
    · have HV : Hid (S.fail n = ⟨[], n⟩) := Lib.hid (by unfold RS.fail; rw [if_pos ⟨hn, h0⟩])
      have hd : (n != 0) = true := by simpa using hn
      have he : (n == 0) = false := by simpa using hn
      clear h0 hn
      go_enter Try.func30, Try.ntmps30
      go_wp2
      go_end0
      refine ⟨rfl, ?_, ((Fr.refl (DFt g) w).setCell (p := ⟨g, 1, none⟩) (fun _ => (rfl : g = g)) _).setCell (p := ⟨g, 0, none⟩) (fun _ => (rfl : g = g)) _⟩
      rw [HV.out]
      exact ⟨(H.out.blk.set_ 1 _).set_ 0 _, by simp⟩
  · have HV : Hid (S.fail n = S) := Lib.hid (by unfold RS.fail; rw [if_neg (by simp [h0])])
    have hd : (S.fault == 0) = false := by simpa using h0
    clear h0
    go_enter Try.func30, Try.ntmps30
    go_wp2
    go_end0
    exact ⟨rfl, by rw [HV.out]; exact H.out, Fr.refl _ _⟩
theorem ddone_any (g : Nat) (S : RS) (w : World) (h : DAt w g S) : Calls Try.prog 32 #[dpt g] w fun e w' => e = .returned (.int .i64 S.done) ∧ w = w' := by
  have c0 : w.cell? ⟨g, 0, none⟩ = some (sv S.rest) := h.blk.cell 0
  have c1 : w.cell? ⟨g, 1, none⟩ = some (.int .i64 S.fault) := h.blk.cell 1
  clear h
  unfold dpt
  obtain ⟨R, f⟩ := S
  by_cases h0 : f = 0
  · subst h0
    cases hr : R.isEmpty with
    | true =>
      have HV : Hid (RS.done ⟨R, 0⟩ = 0) := Lib.hid (by unfold RS.done; rw [if_neg (by simpa using hr)])
      go_enter Try.func32, Try.ntmps32
      go_wp2
      go_ret
      exact ⟨ret_int HV.out.symm, rfl⟩
    | false =>
      have HV : Hid (RS.done ⟨R, 0⟩ = 22) := Lib.hid (by unfold RS.done; rw [if_pos (by simpa using hr)])
      go_enter Try.func32, Try.ntmps32
      go_wp2
      go_ret
      exact ⟨ret_int HV.out.symm, rfl⟩
  · have HV : Hid (RS.done ⟨R, f⟩ = f) := Lib.hid (by unfold RS.done; rw [if_neg (by simp [h0])])
    have hd : (f == 0) = false := by simpa using h0
    clear h0
    go_enter Try.func32, Try.ntmps32
    go_wp2
    go_ret
    exact ⟨ret_int HV.out.symm, rfl⟩

set_option maxHeartbeats 1000000 in
theorem dtake_any (g : Nat) (S : RS) (n : Nat) (w : World) (h : DAt w g S) : Calls Try.prog 96 #[dpt g, .int .i64 n] w (DP g w (sv (S.take n).1) (S.take n).2) := by
  have c0 : w.cell? ⟨g, 0, none⟩ = some (sv S.rest) := h.blk.cell 0
  have c1 : w.cell? ⟨g, 1, none⟩ = some (.int .i64 S.fault) := h.blk.cell 1
  have f0 := h.blk.frozen 0
  have f1 := h.blk.frozen 1
  have H := Lib.hid h
  by_cases h0 : S.fault = 0
  · rw [h0] at c1
    by_cases hl : S.rest.length < n
    · have HV : Hid (S.take n = ([], ⟨[], 20⟩)) := Lib.hid (by unfold RS.take; rw [if_pos h0, if_pos hl])
      have HF := Lib.hid (dfail_any g S 20 w h)
      have HE : Hid (S.fail 20 = ⟨[], 20⟩) := Lib.hid (by unfold RS.fail; rw [if_pos ⟨by decide, h0⟩])
      have hlt : ((S.rest.length : Nat) : Int) < (n : Int) := by omega
      have hlr := h.len
      unfold dpt at HF ⊢
      clear h h0 hl
      go_enter Try.func96, Try.ntmps96
      go_wp2_with fail
      refine HF.out.mono ?_
      rintro e w1 ⟨rfl, h1, f1'⟩
      rw [HE.out] at h1
      have H1 := Lib.hid h1
      have F1 := Lib.hid f1'
      clear h1 f1'
      go_wp2
      go_ret
      exact ⟨by rw [HV.out]; rfl, by rw [HV.out]; exact H1.out, F1.out⟩
    · have HV : Hid (S.take n = (S.rest.take n, ⟨S.rest.drop n, 0⟩)) := Lib.hid (by unfold RS.take; rw [if_pos h0, if_neg hl])
      have hlt : (n : Int) ≤ ((S.rest.length : Nat) : Int) := by omega
      have hlr := h.len
      have hbk := h.blk
      rw [h0] at hbk
      have HW : Hid (DAt (w.setCell ⟨g, 0, none⟩ (sv (S.rest.drop n))) g ⟨S.rest.drop n, 0⟩) := Lib.hid ⟨hbk.set_ 0 _, by simp; omega⟩
      clear hbk
      have hx : (ByteArray.mk S.rest.toArray).extract 0 n = ⟨(S.rest.take n).toArray⟩ := by rw [ext_list, List.drop_zero]
      have hy : (ByteArray.mk S.rest.toArray).extract n S.rest.length = ⟨(S.rest.drop n).toArray⟩ := by rw [ext_list, List.take_length]
      unfold dpt
      clear h h0 hl
      go_enter Try.func96, Try.ntmps96
      go_wp2
      go_ret
      refine ⟨by rw [HV.out]; first | rfl | (simp only [hx]; rfl), ?_, (Fr.refl (DFt g) w).setCell (p := ⟨g, 0, none⟩) (fun _ => (rfl : g = g)) _⟩
      rw [HV.out]
      exact HW.out
  · have HV : Hid (S.take n = ([], S)) := Lib.hid (by unfold RS.take; rw [if_neg h0])
    have hd : (S.fault != 0) = true := by simpa using h0
    unfold dpt
    clear h h0
    go_enter Try.func96, Try.ntmps96
    go_wp2
    go_ret
    exact ⟨by rw [HV.out]; rfl, by rw [HV.out]; exact H.out, Fr.refl _ _⟩
end Go.Proofs.Ytjhjcdfhfjeogaa
