/- GroupKeys walked. -/
import Derived.Test.YtlpglijikmnopaaGreatDoorG30
namespace Go.Proofs.YtlpglijikmnopaaGreatDoor
open Go.RowKit Go.Maps Go.Sort Go.Proofs
set_option linter.unusedVariables false

set_option maxRecDepth 100000 in
set_option maxHeartbeats 1000000 in
theorem groupKeys_any {K K2 : Nat → Prop} {a b : Ky} {v v2 : Value} (w : World) (h : KR K w v a) (h2 : KR K2 w v2 b) (hp : Pv w) : Calls Tryz.prog 5 #[v, v2] w (TellsB true w) := by
  have HA := Lib.hid (awake_any w hp)
  have HC := Lib.hid (fun (w' : World) (f : Fr No w w') => compare_x w' (h.no f) (h2.no f))
  have HC2 := Lib.hid (fun (w' : World) (f : Fr No w w') => compare_x w' (h2.no f) (h.no f))
  have HD := Lib.hid (fun (w' : World) (f : Fr No w w') => rcompare_any w' (h.no f) (h2.no f))
  rw [cmpK_anti a b] at HC2
  obtain ⟨A, ca, rfl, -⟩ := h.form
  obtain ⟨B, cb, rfl, -⟩ := h2.form
  obtain ⟨n, hn⟩ : ∃ n, a.length = n := ⟨_, rfl⟩
  obtain ⟨m, hm⟩ : ∃ n, b.length = n := ⟨_, rfl⟩
  rw [hn, hm] at HC HC2 HD ⊢
  obtain ⟨q, hq⟩ : ∃ q, cmpK a b = q := ⟨_, rfl⟩
  have hr := cmpK_range a b
  rw [hq] at HC HC2 HD hr
  clear h h2 hp hn hm hq
  have key : ∀ q : Int, -1 ≤ q → q ≤ 1 → Hid (∀ (w' : World), Fr No w w' → Calls Tryz.prog 25 #[.slice A n ca, .slice B m cb] w' fun e w'' => e = .returned (.int .i64 q) ∧ w' = w'') →
      Hid (∀ (w' : World), Fr No w w' → Calls Tryz.prog 25 #[.slice B m cb, .slice A n ca] w' fun e w'' => e = .returned (.int .i64 (-q)) ∧ w' = w'') →
      Hid (∀ (w' : World), Fr No w w' → Calls Tryz.prog 26 #[.slice A n ca, .slice B m cb] w' fun e w'' => e = .returned (.int .i64 q) ∧ Fr No w' w'') → Calls Tryz.prog 5 #[.slice A n ca, .slice B m cb] w (TellsB true w) := by
    intro q h1 h2 HC HC2 HD
    have hq : q = -1 ∨ q = 0 ∨ q = 1 := by omega
    clear h1 h2
    rcases hq with rfl | rfl | rfl
    all_goals
      go_enter Tryz.func5, Tryz.ntmps5
      go_upto_region 2 with (go_at_call 10; refine HA.out.mono ?_; rintro e w1 ⟨rfl, f1⟩; have H1 := Lib.hid f1; clear f1)
      go_upto_region 3 with (go_at_call 25; refine (HC.out _ H1.out).mono ?_; rintro e w2 ⟨rfl, rfl⟩)
      go_upto_region 4 with (go_at_call 26; refine (HD.out _ H1.out).mono ?_; rintro e w3 ⟨rfl, f3⟩; have H3 := Lib.hid (H1.out.tr f3); clear f3)
      go_wp2_with (go_at_call 25; refine (HC2.out _ H3.out).mono ?_; rintro e w4 ⟨rfl, rfl⟩)
      go_ret
      exact ⟨rfl, H3.out⟩
  exact key q hr.1 hr.2 HC HC2 HD
end Go.Proofs.YtlpglijikmnopaaGreatDoor
