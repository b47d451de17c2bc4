/- The law DiskNil, walked. -/
import Derived.Test.YtlopbhamlhmpbaaC6
namespace Go.Proofs.Ytlopbhamlhmpbaa
open Go.RowKit Go.Maps Go.Sort
set_option linter.unusedVariables false

theorem z2full : Z2.room < usedOf Z2.file Z2.names + ((⟨#[120]⟩ : ByteArray).size : Int) := by
  have e1 : Z2.room = 0 := by kernel_rfl
  have e2 : usedOf Z2.file Z2.names = 0 := by kernel_rfl
  rw [e1, e2]
  decide

set_option maxRecDepth 100000 in
set_option maxHeartbeats 8000000 in
theorem disknil_any (w : World) (l : List UInt8) (hl : l.length ≤ maxLen) (g n c : Nat) (A : Option Addr) (ps : List Int) (hp : PicksAt w g A n c ps) :
    Calls Try.prog 8 #[.string ⟨l.toArray⟩, .slice A n c] w fun e w' => e = .returned (.bool true) ∧ Below w.heap.size w w' := by
  have HP := Lib.hid hp
  clear hp
  go_enter Try.func8, Try.ntmps8
  go_wp2_with fail
  obtain ⟨w1, hw1⟩ : ∃ w1, w.alloc (.cells (cellsOf Z0 Rp.zero) 61) = w1 := ⟨_, rfl⟩
  have h0 : Mid w w.heap.size 0 Z0 w1 := hw1 ▸ zero_mid w
  change Calls _ _ _ (w.alloc (.cells (cellsOf Z0 Rp.zero) 61)) _
  rw [hw1]
  have H := Lib.hid h0
  clear h0 hw1
  refine (crash_nil _ _ _ _).mono ?_
  rintro e w2 ⟨rfl, rfl⟩
  go_wp2_with fail
  refine (arm_nil _ _).mono ?_
  rintro e w2 ⟨rfl, rfl⟩
  go_wp2_with fail
  refine (limit_nil _ _).mono ?_
  rintro e w2 ⟨rfl, rfl⟩
  go_wp2_with fail
  refine (read_nil _ _).mono ?_
  rintro e w2 ⟨rfl, f⟩
  have H1 := Lib.hid (H.out.keep f)
  clear H f
  go_wp2_with fail
  refine (write_nil _ _ _).mono ?_
  rintro e w3 ⟨rfl, f⟩
  have H := Lib.hid (H1.out.keep f)
  clear H1 f
  go_wp2_with fail
  refine (cut_nil _ _ _).mono ?_
  rintro e w4 ⟨rfl, f⟩
  have H1 := Lib.hid (H.out.keep f)
  clear H f
  go_wp2_with fail
  refine (sync_nil _ _).mono ?_
  rintro e w5 ⟨rfl, f⟩
  have H := Lib.hid (H1.out.keep f)
  clear H1 f
  go_wp2_with fail
  refine (settle_nil _).mono ?_
  rintro e w6 ⟨rfl, rfl⟩
  go_wp2_with fail
  refine (rename_nil _ _ _).mono ?_
  rintro e w6 ⟨rfl, f⟩
  have H1 := Lib.hid (H.out.keep f)
  clear H f
  go_wp2_with fail
  refine (remove_nil _ _).mono ?_
  rintro e w7 ⟨rfl, f⟩
  have H := Lib.hid (H1.out.keep f)
  clear H1 f
  go_wp2_with fail
  refine (list_nil _).mono ?_
  rintro e w8 ⟨rfl, rfl⟩
  go_wp2_with fail
  refine (on_nil _).mono ?_
  rintro e w8 ⟨rfl, rfl⟩
  go_wp2_with fail
  refine (used_nil _).mono ?_
  rintro e w8 ⟨rfl, rfl⟩
  go_wp2_with fail
  refine (room_nil _).mono ?_
  rintro e w8 ⟨rfl, rfl⟩
  go_wp2_with fail
  refine (steps_nil _).mono ?_
  rintro e w8 ⟨rfl, rfl⟩
  go_wp2_with fail
  have z1 := m_write H.out.dsk (by omega) [97] [] (by decide) (by decide)
  rw [zw1] at z1
  refine z1.mono ?_
  clear z1
  rintro e w8 ⟨rfl, h1, b1⟩
  have H1 := Lib.hid (H.out.turn h1 b1)
  clear H h1 b1
  go_wp2_with fail
  have z1 := m_on H1.out.dsk
  have z2 : Z0.on = false := rfl
  rw [z2] at z1
  refine z1.mono ?_
  clear z1 z2
  rintro e w9 ⟨rfl, rfl⟩
  go_wp2_with fail
  refine (m_crash H1.out.dsk g A n c ps (H1.out.picks HP.out) (fun hn => .inl (HP.out.lt hn))).mono ?_
  rintro e w9 ⟨rfl, h1, b1⟩
  rw [zero_crashed] at h1
  have H := Lib.hid (H1.out.turn h1 b1)
  clear H1 h1 b1
  go_wp2_with fail
  refine (copy_nil w9 w9.heap.size (Nat.le_refl _)).mono ?_
  rintro e w10 ⟨d2, rfl, h2, f⟩
  obtain ⟨R, hA, hf⟩ := H.out.dsk.mem
  obtain ⟨R2, hA2, hf2⟩ := h2.mem
  have hlt := hA.lt
  have H1 := Lib.hid (H.out.keep f)
  have HA := Lib.hid (hA.keep f)
  have HA2 := Lib.hid hA2
  have HAP := Lib.hid (fun k (h1 : foot w.heap.size R Z1 k) (h2 : foot d2 R2 (AS.new 0) k) => by have := hlt k h1; have := hf2 k h2; omega : ∀ k, foot w.heap.size R Z1 k → ¬ foot d2 R2 (AS.new 0) k)
  have HF := Lib.hid hf
  clear H f h2 hA hf hA2 hf2 hlt
  go_wp2_with fail
  refine (awake_any _).mono ?_
  rintro e w11 ⟨rfl, b⟩
  have H := Lib.hid (H1.out.keep (Fr.of_below b))
  have HB := Lib.hid (HA.out.below b)
  have HB2 := Lib.hid (HA2.out.below b)
  clear H1 HA HA2 b
  go_wp2_with fail
  refine (write_made HB.out H.out.dsk.inv (by omega) [97] [] (by decide) (by kernel_rfl) rfl (by decide) (by decide)).mono ?_
  rintro e w12 ⟨rfl, hi, R3, P⟩
  have z2 : Z1.stepE = 0 := rfl
  rw [z2]
  have HI := Lib.hid (show Inv 2 Z2 from hi)
  have HA := Lib.hid (show At w12 w.heap.size R3 Z2 from P.at_)
  have HA2 := Lib.hid (HB2.out.fr P.fr (fun k h1 => HAP.out k h1))
  have HL := Lib.hid (H.out.bel.trans (P.fr.below_of H.out.bel.size HF.out))
  clear H HB HB2 HAP HF hi P z2
  go_wp2_with fail
  have z3 := write_full1 w.heap.size R3 Z2 [97] (look Z2.names [97]) ⟨#[120]⟩ w12 HA.out (HI.out.wf (by omega)) (by decide) (by kernel_rfl) rfl (by have := HI.out.names.small; omega) (by decide) z2full
  refine z3.mono ?_
  clear z3
  rintro e w13 ⟨rfl, f⟩
  have HB2 := Lib.hid (HA2.out.keep f)
  have HM := Lib.hid (HL.out.trans (f.below.mono HL.out.size))
  clear HA2 HL f HI HA
  go_wp2_with fail
  refine (room_any d2 R2 (AS.new 0) w13 HB2.out).mono ?_
  rintro e w' ⟨rfl, rfl⟩
  have z4 : (AS.new 0).room = 0 := rfl
  rw [z4]
  go_wp2_with fail
  refine (on_any d2 R2 (AS.new 0) w13 HB2.out).mono ?_
  rintro e w' ⟨rfl, rfl⟩
  have z5 : (AS.new 0).on = true := rfl
  rw [z5]
  go_wp2
  go_ret
  exact ⟨rfl, HM.out⟩

end Go.Proofs.Ytlopbhamlhmpbaa
