/- Len, span, Size. -/
import Derived.Test.YtmaeejojmbibnaaF3
namespace Go.Proofs.Ytmaeejojmbibnaa
open Go.RowKit Go.Maps
set_option linter.unusedVariables false

section
variable (s : Nat) (Q : SRp) (S : FS) (B : List (List FactP)) (l : List FactP) (w : World) (p : Option Addr)
def QuietI (n : Int) (w : World) (e : Ending) (w' : World) : Prop := e = .returned (.int .i64 n) ∧ ∃ q, w' = w.drewN q
theorem slen_any (h : SAt w s Q S) (hW : FW S B l) : Calls Try.prog 14 #[.pointer (some ⟨s, 0, none⟩)] w (QuietI (B.flatten.length : Nat) w) := by
  have H := Lib.hid (none_any s Q S B l w h hW)
  have HS : Hid (∀ q, Calls Try.prog 13 #[.pointer (some ⟨s, 0, none⟩)] (w.drewN q) fun e w' => e = .returned (.int .i64 (B.length : Nat)) ∧ w.drewN q = w') := Lib.hid fun q => seq_any s Q S B l _ (h.keep ((Fr.refl _ _).drewN q)) hW
  have c3 := h.cells.2.2.2
  obtain ⟨g, c, e, ce⟩ := h.end_ (i := B.length) (n := B.flatten.length) (by rw [hW.e, endsOf_at _ (Nat.le_refl _), List.take_length])
  rw [e, hW.e, endsOf_len] at c3
  have hb := hW.b
  clear h hW e
  generalize B.flatten.length = n at *
  generalize B.length = m at *
  go_enter Try.func14, Try.ntmps14
  go_wp2_with (go_at_call 36; refine H.out.mono ?_; rintro e w' ⟨rfl, rfl⟩)
  go_quiet ((go_at_call 13; exact Calls.quiet_of_same ((HS.out _).mono fun _ _ h => ⟨h.1, h.2.symm⟩)))
  go_wp2
  go_ret
  exact ⟨rfl, nq, rfl⟩

set_option maxHeartbeats 800000 in
theorem end_any (bx : Nat) (h : SAt w s Q S) (hW : FW S B l) (hx : Blk w bx 24 #[.pointer (some ⟨s, 0, none⟩)]) (a : Int) : Calls Try.prog 51 #[.int .i64 a, .pointer (some ⟨bx, 0, none⟩)] w (QuietI (lowS B a : Nat) w) := by
  have HS : Hid (∀ q, Calls Try.prog 13 #[.pointer (some ⟨s, 0, none⟩)] (w.drewN q) fun e w' => e = .returned (.int .i64 (B.length : Nat)) ∧ w.drewN q = w') := Lib.hid fun q => seq_any s Q S B l _ (h.keep ((Fr.refl _ _).drewN q)) hW
  have c3 := h.cells.2.2.2
  have hle : clampN B.length a ≤ B.length := Nat.min_le_right _ _
  obtain ⟨g, c, e, ce⟩ := h.end_ (i := clampN B.length a) (n := lowS B a) (by rw [hW.e, endsOf_at _ hle]; rfl)
  rw [e, hW.e, endsOf_len] at c3
  have hb := hW.b
  have b0 : w.cell? ⟨bx, 0, none⟩ = some (.pointer (some ⟨s, 0, none⟩)) := hx.cell 0
  have hcl : clampN B.length a = min a.toNat B.length := rfl
  generalize clampN B.length a = i at *
  generalize lowS B a = n at *
  generalize B.length = m at *
  clear h hW e hx
  have hq : min (max a 0) (m : Int) = (i : Int) := by omega
  clear hcl
  go_enter Try.func51, Try.ntmps51
  go_wp2
  go_quiet ((go_at_call 13; exact Calls.quiet_of_same ((HS.out _).mono fun _ _ h => ⟨h.1, h.2.symm⟩)))
  go_wp2
  go_ret
  exact ⟨rfl, nq, rfl⟩
def SpanP (lo hi : Nat) (w : World) (e : Ending) (w' : World) : Prop := e = .returned (.tuple #[.int .i64 lo, .int .i64 hi]) ∧ Fr No w w'
set_option maxHeartbeats 800000 in
theorem span_any (h : SAt w s Q S) (hW : FW S B l) (a b : Int) : Calls Try.prog 37 #[.pointer (some ⟨s, 0, none⟩), .int .i64 a, .int .i64 b] w (SpanP (lowS B a) (highS B a b) w) := by
  obtain ⟨w0, hw0⟩ : ∃ w0, w.alloc (.cells #[.pointer (some ⟨s, 0, none⟩)] 24) = w0 := ⟨_, rfl⟩
  obtain ⟨bx, hbx⟩ : ∃ bx, w.heap.size = bx := ⟨_, rfl⟩
  have f0 : Fr No w w0 := by rw [← hw0]; exact (Fr.refl _ w).alloc _
  have h0 := h.keep f0
  have hb0 : Blk w0 bx 24 #[.pointer (some ⟨s, 0, none⟩)] := by rw [← hw0, ← hbx]; exact Blk.new w 24 _
  have b0 : w0.cell? ⟨bx, 0, none⟩ = some (.pointer (some ⟨s, 0, none⟩)) := hb0.cell 0
  have HN := Lib.hid (none_any s Q S B l w0 h0 hW)
  have HA := Lib.hid (end_any s Q S B l w0 bx h0 hW hb0 a)
  have HB : Hid (∀ q, Calls Try.prog 51 #[.int .i64 b, .pointer (some ⟨bx, 0, none⟩)] (w0.drewN q) (QuietI (lowS B b : Nat) (w0.drewN q))) := Lib.hid fun q => end_any s Q S B l (w0.drewN q) bx (h0.keep ((Fr.refl _ _).drewN q)) hW (hb0.of rfl) b
  have hmf : ∀ (fn : Fn) (first cap : Array Value) (w : World), (Instr.makeFunc fn first cap).run Try.prog w = .ok (.func fn first cap) w := fun _ _ _ _ => rfl
  have HX : Hid (max (lowS B a) (lowS B b) = highS B a b) := Lib.hid rfl
  generalize lowS B a = x at *
  generalize lowS B b = y at *
  generalize highS B a b = z at *
  have HF0 := Lib.hid f0
  have HW0 := Lib.hid hw0
  have HBX := Lib.hid hbx
  clear h f0 h0 hb0 hW hw0 hbx
  have hmx : max (x : Int) (y : Int) = (z : Int) := by have := HX.out; omega
  go_enter Try.func37, Try.ntmps37
  go_upto_region 1 with fail
  rw [HW0.out, HBX.out]
  go_wp2_with (go_at_call 36; refine HN.out.mono ?_; rintro e w' ⟨rfl, rfl⟩)
  refine HA.out.mono ?_
  rintro e w1 ⟨rfl, q1, rfl⟩
  go_wp2_with fail
  refine (HB.out q1).mono ?_
  rintro e w2 ⟨rfl, q2, rfl⟩
  go_wp2
  go_ret2
  exact ⟨rfl, HF0.out.drewN (q1 + q2)⟩
theorem span_none (hn : ∀ w, NoneP p w) (a b : Int) : Calls Try.prog 37 #[.pointer p, .int .i64 a, .int .i64 b] w (SpanP 0 0 w) := by
  have HN : Hid (NoneP p (w.alloc (.cells #[.pointer p] 24))) := Lib.hid (hn _)
  clear hn
  go_enter Try.func37, Try.ntmps37
  go_wp2_with (go_at_call 36; refine HN.out.mono ?_; rintro e w' ⟨rfl, rfl⟩)
  go_ret2
  exact ⟨rfl, (Fr.refl _ w).alloc _⟩
theorem size_of (P : Option Addr) (a b : Int) (lo hi : Nat) (hl : lo ≤ hi) (hh : hi ≤ 1000000) (hs : Calls Try.prog 37 #[.pointer P, .int .i64 a, .int .i64 b] w (SpanP lo hi w)) : Calls Try.prog 23 #[.pointer P, .int .i64 a, .int .i64 b] w fun e w' => e = .returned (.int .i64 ((hi - lo : Nat) : Int)) ∧ Fr No w w' := by
  have HS := Lib.hid hs
  clear hs
  go_enter Try.func23, Try.ntmps23
  go_wp2_with (go_at_call 37; refine HS.out.mono ?_; rintro e w1 ⟨rfl, f1⟩)
  go_ret
  exact ⟨ret_int (by go_num), f1⟩
end
end Go.Proofs.Ytmaeejojmbibnaa
