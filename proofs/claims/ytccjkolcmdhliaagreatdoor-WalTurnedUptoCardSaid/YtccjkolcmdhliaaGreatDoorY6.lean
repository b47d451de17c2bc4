/- WalTurned's calls, by contract. -/
import Derived.Test.YtccjkolcmdhliaaGreatDoorY4
namespace Go.Proofs.YtccjkolcmdhliaaGreatDoor
open Go.RowKit Go.Maps Go.Sort
set_option linter.unusedVariables false

theorem y_name (w : World) (hv : Vr w) : Calls Tryz.prog 28 #[.int .i64 1] w fun e w' => e = .returned (sv (nm 1)) ∧ Fr No w w' := name_any 1 w hv (by omega) (by omega)
theorem nm1_len : (nm 1).length ≤ maxLen := nameW_max 1
theorem y_write {w : World} {X : Nat → Prop} {d : Nat} (h : Dk w X d 0 (AS.new 10000)) (F : List UInt8) (hF : F.length ≤ 10000) :
    Calls Tryz.prog 27 #[.pointer (some ⟨d, 0, none⟩), sv (nm 1), sv F] w fun e w' => e = .returned (.int .i64 0) ∧ Dk w' X d 1 (one0 F).step ∧ Fr (fun k => ¬ X k) w w' := by
  have := x_write h (by omega) (nm 1) F nm1_len (by unfold maxLen; omega)
  rw [one_write F hF] at this
  exact this
theorem y_sync {w : World} {X : Nat → Prop} {d N f : Nat} {S : AS} {F : List UInt8} (h : Dk w X d N S) (u : Uno S F f) :
    Calls Tryz.prog 29 #[.pointer (some ⟨d, 0, none⟩), sv (nm 1)] w fun e w' => e = .returned (.int .i64 0) ∧ ∃ S', Dk w' X d N S' ∧ Uno S' F F.length ∧ Fr (fun k => ¬ X k) w w' := by
  obtain ⟨u1, u2⟩ := u.sync
  have := x_sync h (nm 1) nm1_len
  rw [u1] at this
  refine this.mono ?_
  rintro e w' ⟨h1, h2, h3⟩
  exact ⟨h1, _, h2, u2, h3⟩
/-- A disk of one file, all firm. -/
structure UnoF (S : AS) (F : List UInt8) : Prop where
  uno : Uno S F F.length
  loose : S.loose = []
  firm : S.firm = S.names
theorem y_settle {w : World} {X : Nat → Prop} {d N : Nat} {S : AS} {F : List UInt8} (h : Dk w X d N S) (u : Uno S F F.length) :
    Calls Tryz.prog 30 #[.pointer (some ⟨d, 0, none⟩)] w fun e w' => e = .returned (.int .i64 0) ∧ ∃ S', Dk w' X d N S' ∧ UnoF S' F ∧ Fr (fun k => ¬ X k) w w' := by
  obtain ⟨u1, u2, u3, u4⟩ := u.settle h.inv
  have := x_settle h
  rw [u1] at this
  refine this.mono ?_
  rintro e w' ⟨h1, h2, h3⟩
  exact ⟨h1, _, h2, ⟨u2, u3, u4⟩, h3⟩
theorem y_copy {w : World} {X : Nat → Prop} {d N : Nat} {S : AS} {F : List UInt8} (h : Dk w X d N S) (u : UnoF S F) :
    Calls Tryz.prog 31 #[.pointer (some ⟨d, 0, none⟩)] w fun e w' => ∃ c, e = .returned (.pointer (some ⟨c, 0, none⟩)) ∧ Dk w' X c N S ∧ Fr No w w' := x_copy h u.uno.on
theorem y_open {w : World} {X : Nat → Prop} {d N : Nat} {S : AS} {xs : List (List UInt8)} {F : List UInt8} (h : Dk w X d N S) (u : UnoF S F) (hF : frames xs 0 = F) (hs : Small xs) (hn : xs.length ≤ 1000000) (hv : Vr w) (lo : ∀ k, k < 4 → X k) (hN : N ≤ 1000000000) :
    Calls Tryz.prog 19 #[.pointer (some ⟨d, 0, none⟩), .int .i64 0] w fun e w' => ∃ g A c, e = .returned (.tuple #[.pointer (some ⟨g, 0, none⟩), .slice A xs.length c, .int .i64 0]) ∧ Vr w' ∧ Fr (fun k => ¬ X k) w w' := by
  subst hF
  obtain ⟨S', L', ho⟩ := u.uno.opens h.inv hs hn u.loose u.firm
  refine (open_on 0 h hv lo hN u.uno.on (by omega) (by omega)).mono ?_
  rintro e w' ⟨h1, h2, h3, h4⟩
  obtain ⟨g, A, c, X1, he, _⟩ := h1 _ ho
  refine ⟨g, A, c, ?_, h3, h4⟩
  rw [he]
  have hl : (recsOf (sl xs 0 xs.length) 0).length = xs.length := by rw [recsOf_len, sl_len (Nat.le_refl _)]; omega
  simp only [hl]
  rfl
theorem y_refused {w : World} {X : Nat → Prop} {d N f : Nat} {S : AS} {F : List UInt8} (h : Dk w X d N S) (u : Uno S F f) (hb : scanW (F.length + 1) [] F 0 = none) (hv : Vr w) (lo : ∀ k, k < 4 → X k) (hN : N ≤ 1000000000) :
    Calls Tryz.prog 19 #[.pointer (some ⟨d, 0, none⟩), .int .i64 0] w fun e w' => e = .returned (.tuple #[.pointer none, .slice none 0 0, .int .i64 24]) ∧ Fr (fun k => ¬ X k) w w' := by
  refine (open_on 0 h hv lo hN u.on (by omega) (by omega)).mono ?_
  rintro e w' ⟨h1, h2, h3, h4⟩
  exact ⟨(h2 24 (u.refused h.inv hb)).1, h4⟩
end Go.Proofs.YtccjkolcmdhliaaGreatDoor
