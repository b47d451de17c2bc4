/- What was synced is there, in order: WalKeeps, walked. -/
import Derived.Test.YtccjkolcmdhliaaGreatDoorW30
import Derived.Test.YtccjkolcmdhliaaGreatDoorM5
import Derived.Deep.QuietTactic
import Derived.Deep.DeepCutAuto
namespace Go.Proofs.YtccjkolcmdhliaaGreatDoor
open Go.RowKit Go.Maps Go.Sort
set_option linter.unusedVariables false

set_option maxRecDepth 100000 in
set_option maxHeartbeats 8000000 in
theorem walKeeps_any {w : World} {V : Value} {os : List OpK} (hv : Vr w) (hV : RowE (fun k => k < w.heap.size) w 5 (opE w) V os) (hlen : ∀ o ∈ os, o.data.length ≤ 1048576) :
    Calls Tryz.prog 4 #[V] w fun e w' => e = .returned (.bool true) ∧ Below w.heap.size w w' := by
  obtain ⟨A0, c0, hVe, hmax, hcell⟩ := hV
  subst hVe
  obtain ⟨X, hX⟩ : ∃ X : Nat → Prop, (fun k => k < w.heap.size) = X := ⟨_, rfl⟩
  have HX : Hid (∀ k, X k ↔ k < w.heap.size) := Lib.hid fun k => by rw [← hX]
  have HLO : Hid (∀ k, k < 4 → X k) := Lib.hid fun k hk => (HX.out k).2 (by have := hv.lt; omega)
  have HV := Lib.hid hv
  have HC := Lib.hid hcell
  have HLEN := Lib.hid hlen
  obtain ⟨n, hn⟩ : ∃ n, os.length = n := ⟨_, rfl⟩
  have HN := Lib.hid hn
  rw [hn] at hmax ⊢
  clear hX hv hcell hlen hn
  go_enter Tryz.func4, Tryz.ntmps4
  go_wp2_with fail
  refine (awake_any w HV.out).mono ?_
  rintro e wa ⟨rfl, hva, hba⟩
  have FA : Hid (Fr (fun k => ¬ X k) w wa) := Lib.hid (((Fr.of_below hba).any))
  have HVA := Lib.hid hva
  have HSZ := Lib.hid hba.size
  clear hva hba
  go_wp2_with fail
  refine (x_new 1048576 wa X fun k hk => Nat.lt_of_lt_of_le ((HX.out k).1 hk) HSZ.out).mono ?_
  rintro e wb ⟨d, rfl, h1, f1⟩
  obtain ⟨S0, hS0⟩ : ∃ S0, AS.new 1048576 = S0 := ⟨_, rfl⟩
  have hop : openW S0 0 = .ok (S0, L0, []) := by rw [← hS0]; exact new_open _
  have hH : Al S0 L0 [] 0 0 1 := by rw [← hS0]; exact al_start
  have hon : S0.on = true := by rw [← hS0]; rfl
  have h1' : Dk wb X d 0 S0 := by rw [← hS0]; exact h1
  have H1 := Lib.hid h1'
  have HV1 := Lib.hid (HVA.out.keep f1)
  have F1 : Hid (Fr (fun k => ¬ X k) w wb) := Lib.hid (FA.out.thenX f1.any)
  have HO1 := Lib.hid (open_on 0 H1.out HV1.out HLO.out (by omega) hon (by omega) (by omega))
  have HOP := Lib.hid hop
  have HH := Lib.hid hH
  unfold dkp at HO1
  clear h1 h1' f1 hS0 hop hH hon HVA FA
  go_wp2_with fail
  refine HO1.out.mono ?_
  rintro e w1 ⟨ho, -, hv2, hf2⟩
  obtain ⟨g, A, c, X1, rfl, hx1, hl2, hg2, hown, -⟩ := ho _ HOP.out
  have HL2 := Lib.hid (show Lg w1 X d g 0 S0 L0 from hl2.less hx1 HLO.out)
  have F2 := Lib.hid (F1.out.thenX hf2)
  clear ho hv2 hf2 hx1 hl2 hg2 hown HO1 F1 H1 HV1 HOP
  unfold gpt
  have hstart : Kp w w1 w1 X d g 0 [] 0 0 S0 L0 X (.slice none 0 0) :=
    ⟨HL2.out, fun k hk => hk, fun k hk => by simp [Value.ownBlock] at hk, Grow.nilv, HH.out, Nat.zero_le _, Fr.refl _ _⟩
  have HST := Lib.hid hstart
  clear hstart
  go_wp2_with fail
  go_loopw [5, 8, 9, 10, 11] (fun lv av fv ov iv wr => ∃ (g i : Nat) (all : List (List UInt8)) (F o : Nat) (S : AS) (L : LS) (X1 : Nat → Prop) (Aa : Option Addr) (ca : Nat), i ≤ n ∧ i ≤ 80 ∧ lv = .pointer (some ⟨g, 0, none⟩) ∧ av = .slice Aa all.length ca ∧ fv = .int .i64 (F : Nat) ∧ ov = .int .i64 (o : Nat) ∧ iv = .int .i64 (i : Nat) ∧ Kp w w1 wr X d g i all F o S L X1 (.slice Aa all.length ca)) (fun _ _ _ _ iv _ => n - (intOf iv).toNat)
  case atStart => exact ⟨g, 0, [], 0, 0, S0, L0, X, none, 0, Nat.zero_le _, by omega, rfl, rfl, rfl, rfl, rfl, HST.out⟩
  case round =>
    clear HST HL2 HH
    obtain ⟨g, i, all, F, fo, S, L, X1, Aa, ca, hin, hi80, rfl, rfl, rfl, rfl, rfl, hG⟩ := hrel
    have HG := Lib.hid hG
    clear hG
    by_cases hgo : i < n ∧ i < 80
    · obtain ⟨hlt, hlt80⟩ := hgo
      refine keeps_round HV HX HLO HN hmax HC HLEN F2 HG hlt hlt80 (Lib.hid fun a w' hh h11 => ⟨hh, ?_⟩)
      rw [h11]
      show n - (intOf (.int .i64 ((i + 1 : Nat) : Int))).toNat < n - (intOf (.int .i64 ((i : Nat) : Int))).toNat
      simp only [intOf]
      omega
    · have t0 : (i < n ∧ ¬ i < 80) ∨ ¬ i < n := by omega
      rcases t0 with ⟨t1, t2⟩ | t1
      all_goals
        go_wp2_with fail
        go_ret
        exact ⟨rfl, (F2.out.thenX HG.out.fr).below_of (Nat.le_refl _) fun k hk => by have := mt (HX.out k).2 hk; omega⟩
end Go.Proofs.YtccjkolcmdhliaaGreatDoor
