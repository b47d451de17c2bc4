/- The calls that only read a store's numbers: none, has, Seq, Len, Segments, span, Size, Values; New. -/
import Derived.Test.YtmaeejojmbibnaaF2
namespace Go.Proofs.Ytmaeejojmbibnaa
open Go.RowKit Go.Maps
set_option linter.unusedVariables false

/-- No store: nil, or a zero one. -/
def NoneP (p : Option Addr) (w : World) : Prop := Calls Try.prog 36 #[.pointer p] w fun e w' => e = .returned (.bool true) ∧ w = w'
section
variable (s : Nat) (Q : SRp) (S : FS) (B : List (List FactP)) (l : List FactP) (w : World) (p : Option Addr)
theorem none_any (h : SAt w s Q S) (hW : FW S B l) : Calls Try.prog 36 #[.pointer (some ⟨s, 0, none⟩)] w fun e w' => e = .returned (.bool false) ∧ w = w' := by
  have c0 := h.cells.1
  obtain ⟨A, c, e⟩ := h.dform
  rw [e] at c0
  have hk := hW.k
  have h0 : ((S.K : Int) == 0) = false := by simp; omega
  clear h hW e
  go_enter Try.func36, Try.ntmps36
  go_wp2
  go_ret
  exact ⟨rfl, rfl⟩
theorem none_nil : NoneP none w := by
  unfold NoneP
  go_enter Try.func36, Try.ntmps36
  go_wp2
  go_ret
  exact ⟨rfl, rfl⟩
def zeroS : Array Value := #[.slice none 0 0, .int .i64 0, .slice none 0 0, .slice none 0 0]
theorem none_zero (z : Nat) (h : Blk w z 60 zeroS) : NoneP (some ⟨z, 0, none⟩) w := by
  unfold NoneP
  have c0 : w.cell? ⟨z, 0, none⟩ = some (.slice none 0 0) := h.cell 0
  clear h
  go_enter Try.func36, Try.ntmps36
  go_wp2
  go_ret
  exact ⟨rfl, rfl⟩

theorem seq_none (hn : NoneP p w) : Calls Try.prog 13 #[.pointer p] w fun e w' => e = .returned (.int .i64 0) ∧ w = w' := by
  have HN : Hid (NoneP p w) := Lib.hid hn
  clear hn
  go_enter Try.func13, Try.ntmps13
  go_wp2_with (go_at_call 36; refine HN.out.mono ?_; rintro e w' ⟨rfl, rfl⟩)
  go_ret
  exact ⟨rfl, rfl⟩
theorem len_none (hn : NoneP p w) : Calls Try.prog 14 #[.pointer p] w fun e w' => e = .returned (.int .i64 0) ∧ w = w' := by
  have HN : Hid (NoneP p w) := Lib.hid hn
  clear hn
  go_enter Try.func14, Try.ntmps14
  go_wp2_with (go_at_call 36; refine HN.out.mono ?_; rintro e w' ⟨rfl, rfl⟩)
  go_ret
  exact ⟨rfl, rfl⟩
theorem segments_none (hn : NoneP p w) : Calls Try.prog 16 #[.pointer p] w fun e w' => e = .returned (.int .i64 0) ∧ w = w' := by
  have HN : Hid (NoneP p w) := Lib.hid hn
  clear hn
  go_enter Try.func16, Try.ntmps16
  go_wp2_with (go_at_call 36; refine HN.out.mono ?_; rintro e w' ⟨rfl, rfl⟩)
  go_ret
  exact ⟨rfl, rfl⟩
theorem shas_none (hn : NoneP p w) (i : Int) : Calls Try.prog 42 #[.pointer p, .int .i64 i] w fun e w' => e = .returned (.bool false) ∧ w = w' := by
  have HN : Hid (NoneP p w) := Lib.hid hn
  clear hn
  go_enter Try.func42, Try.ntmps42
  go_wp2_with (go_at_call 36; refine HN.out.mono ?_; rintro e w' ⟨rfl, rfl⟩)
  go_ret
  exact ⟨rfl, rfl⟩
/-- A dimension that is none. -/
def OutP (p : Option Addr) (i : Int) (w : World) : Prop := Calls Try.prog 42 #[.pointer p, .int .i64 i] w fun e w' => e = .returned (.bool false) ∧ w = w'
theorem values_out (i : Int) (hn : OutP p i w) : Calls Try.prog 25 #[.pointer p, .int .i64 i] w fun e w' => e = .returned (.int .i64 0) ∧ w = w' := by
  have HN : Hid (OutP p i w) := Lib.hid hn
  clear hn
  go_enter Try.func25, Try.ntmps25
  go_wp2_with (go_at_call 42; refine HN.out.mono ?_; rintro e w' ⟨rfl, rfl⟩)
  go_ret
  exact ⟨rfl, rfl⟩

theorem seq_any (h : SAt w s Q S) (hW : FW S B l) : Calls Try.prog 13 #[.pointer (some ⟨s, 0, none⟩)] w fun e w' => e = .returned (.int .i64 (B.length : Nat)) ∧ w = w' := by
  have H := Lib.hid (none_any s Q S B l w h hW)
  have c3 := h.cells.2.2.2
  obtain ⟨A, c, e⟩ := own_form h.ends
  rw [e, hW.e, endsOf_len] at c3
  have hb := hW.b
  clear h hW e
  go_enter Try.func13, Try.ntmps13
  go_wp2_with (go_at_call 36; refine H.out.mono ?_; rintro e w' ⟨rfl, rfl⟩)
  go_ret
  exact ⟨ret_int (by go_num), rfl⟩
theorem segments_any (h : SAt w s Q S) (hW : FW S B l) : Calls Try.prog 16 #[.pointer (some ⟨s, 0, none⟩)] w fun e w' => e = .returned (.int .i64 (S.G : Nat)) ∧ w = w' := by
  have H := Lib.hid (none_any s Q S B l w h hW)
  have c2 := h.cells.2.2.1
  obtain ⟨A, c, e⟩ := own_form h.segs
  rw [e] at c2
  clear h hW e
  go_enter Try.func16, Try.ntmps16
  go_wp2_with (go_at_call 36; refine H.out.mono ?_; rintro e w' ⟨rfl, rfl⟩)
  go_ret
  exact ⟨rfl, rfl⟩
theorem shas_in (h : SAt w s Q S) (hW : FW S B l) (d : Nat) (hd : d < S.K) : Calls Try.prog 42 #[.pointer (some ⟨s, 0, none⟩), .int .i64 d] w fun e w' => e = .returned (.bool true) ∧ w = w' := by
  have H := Lib.hid (none_any s Q S B l w h hW)
  have c0 := h.cells.1
  obtain ⟨A, c, e⟩ := h.dform
  rw [e] at c0
  have hk := hW.k
  clear h hW e
  go_enter Try.func42, Try.ntmps42
  go_wp2_with (go_at_call 36; refine H.out.mono ?_; rintro e w' ⟨rfl, rfl⟩)
  go_ret
  exact ⟨ret_bool (by simp), rfl⟩
theorem shas_out (h : SAt w s Q S) (hW : FW S B l) (i : Int) (hi : i < 0 ∨ (S.K : Int) ≤ i) : OutP (some ⟨s, 0, none⟩) i w := by
  unfold OutP
  have H := Lib.hid (none_any s Q S B l w h hW)
  have c0 := h.cells.1
  obtain ⟨A, c, e⟩ := h.dform
  rw [e] at c0
  have hk := hW.k
  clear h hW e
  by_cases h0 : i < 0
  · clear hi
    go_enter Try.func42, Try.ntmps42
    go_wp2_with (go_at_call 36; refine H.out.mono ?_; rintro e w' ⟨rfl, rfl⟩)
    go_ret
    exact ⟨rfl, rfl⟩
  · have h1 : (S.K : Int) ≤ i := by omega
    have h0' : 0 ≤ i := by omega
    clear hi h0
    go_enter Try.func42, Try.ntmps42
    go_wp2_with (go_at_call 36; refine H.out.mono ?_; rintro e w' ⟨rfl, rfl⟩)
    go_ret
    exact ⟨ret_bool (by simpa using h1), rfl⟩
theorem values_in (h : SAt w s Q S) (hW : FW S B l) (d : Nat) (hd : d < S.K) : Calls Try.prog 25 #[.pointer (some ⟨s, 0, none⟩), .int .i64 d] w fun e w' => e = .returned (.int .i64 ((S.D d).length : Nat)) ∧ w = w' := by
  have H := Lib.hid (shas_in s Q S B l w h hW d hd)
  have HL := Lib.hid (len_any _ _ _ _ (h.dict d hd))
  have c0 := h.cells.1
  obtain ⟨g, c, e, cp⟩ := h.ptr hd
  rw [e] at c0
  have hk := hW.k
  clear h hW e
  go_enter Try.func25, Try.ntmps25
  go_wp2_with (first
    | (go_at_call 42; refine H.out.mono ?_; rintro e w' ⟨rfl, rfl⟩)
    | (go_at_call 43; refine HL.out.mono ?_; rintro e w' ⟨rfl, rfl⟩))
  go_ret
  exact ⟨rfl, rfl⟩
end
end Go.Proofs.Ytmaeejojmbibnaa
