/- quoted. -/
import Derived.Test.YtpdfenpmnpoehaaGreatDoorXA9
namespace Go.Proofs.YtpdfenpmnpoehaaGreatDoor
open Go.RowKit Go.Maps
set_option linter.unusedVariables false

theorem step_below {B d : Nat} {s : ByteArray} {w w1 : World} {v : Value} {p : Nat} {l : List Wd} (h : Sc B d s w v p l 0 0) (hw : Below w.heap.size w w1) : Sc B d s w1 v p l 0 0 ∧ Below B w w1 :=
  ⟨h.keep (Fr.of_below hw), hw.mono (by have := h.le; have := h.blk.lt; omega)⟩
theorem StepP.pre {B d : Nat} {s : ByteArray} {w w1 : World} {p : Nat} {l : List Wd} {r : Tk} {e : Ending} {w' : World} (hb : Below B w w1) (h : StepP B d s w1 p l r e w') : StepP B d s w p l r e w' := by
  obtain ⟨he, h⟩ := h
  refine ⟨he, ?_⟩
  cases r with
  | bad c on => obtain ⟨v, h1, h2⟩ := h; exact ⟨v, h1, hb.trans h2⟩
  | good k t n => obtain ⟨v, h1, h2⟩ := h; exact ⟨v, h1, hb.trans h2⟩

set_option maxRecDepth 100000 in
set_option maxHeartbeats 2000000 in
theorem quoted_any {B d : Nat} {s : ByteArray} {w : World} {v : Value} {p : Nat} {l : List Wd} (h : Sc B d s w v p l 0 0) (r : ByteArray) (hr : p + r.size ≤ s.size) (hr1 : 1 ≤ r.size) (hs : s.size ≤ 4096) (hl : l.length ≤ 5000) :
    Calls Tryz.prog 55 #[.pointer (some ⟨d, 0, none⟩), .string r] w (StepP B d s w p l (quotedT r.data.toList)) := by
  have hsm : s.size ≤ maxLen := by unfold maxLen; omega
  have HQ := Lib.hid (quotedSize_any r w hr1 (by omega))
  by_cases h0 : qsize r.data.toList = 0
  · have hT : quotedT r.data.toList = .bad 40 0 := by
      unfold qsize at h0
      unfold quotedT
      cases hu : unq (r.data.toList.drop 1) with
      | none => rfl
      | some x => rw [hu] at h0; exact absurd h0 (Nat.succ_ne_zero _)
    rw [hT]
    rw [h0] at HQ
    have HC : Hid (Calls Tryz.prog 57 #[.pointer (some ⟨d, 0, none⟩), .int .i64 40, .int .i64 0] w (StepP B d s w p l (.bad 40 0))) := Lib.hid (step_fail (q := 0) h rfl 40 0 (by omega) hsm rfl)
    clear h hT h0 hsm
    go_enter Tryz.func55, Tryz.ntmps55
    go_wp2_with fail
    refine HQ.out.mono ?_
    rintro e w' ⟨rfl, rfl⟩
    go_wp2_with fail
    refine HC.out.mono ?_
    intro e w2 hw2
    have H2 := Lib.hid hw2
    obtain ⟨rfl, _⟩ := hw2
    go_wp2
    go_end0
    exact H2.out
  · obtain ⟨q1, q2, t, n, hu, hqn, hin⟩ := qsize_le h0
    rw [len_data] at q2
    have hT : quotedT r.data.toList = if 64 < t.length then .bad 45 0 else .good 4 t (n + 1) := by
      unfold quotedT; rw [hu]
    rw [hT]
    rw [hqn] at HQ q1 q2
    have hx : half (r.extract 1 n).data.toList = t := by
      rw [ext_toList, ← half_dbl t, ← hin, List.drop_take]
    have hn1 : 1 ≤ n := by omega
    have HRA : Hid (Calls Tryz.prog 112 #[.string (r.extract 1 n), .string ⟨#[39, 39]⟩, .string ⟨#[39]⟩] w fun e w' => e = .returned (.string ⟨t.toArray⟩) ∧ Below w.heap.size w w') := Lib.hid (by
      have := replHalf_any (r.extract 1 n) w h.lr (by
        rw [← len_data, ext_toList, List.length_drop, List.length_take, len_data]; omega)
      rw [hx] at this
      exact this)
    have HSB : Hid (∀ w1, Below w.heap.size w w1 → Sc B d s w1 v p l 0 0 ∧ Below B w w1) := Lib.hid fun w1 hw => step_below h hw
    have hts : (⟨t.toArray⟩ : ByteArray).size = t.length := by rw [← len_data]
    clear hT hu hin hx h0 hqn
    have e1 : IntKind.i64.wrap (((n + 1 : Nat) : Int) - 1) = (n : Int) := by rw [IntWalk.i64_in _ (by omega)]; omega
    by_cases h64 : 64 < t.length
    · rw [if_pos h64]
      have HC : Hid (∀ w1, Sc B d s w1 v p l 0 0 → Calls Tryz.prog 57 #[.pointer (some ⟨d, 0, none⟩), .int .i64 45, .int .i64 0] w1 (StepP B d s w1 p l (.bad 45 0))) := Lib.hid fun w1 h1 => step_fail (q := 0) h1 rfl 45 0 (by omega) hsm rfl
      generalize (⟨t.toArray⟩ : ByteArray) = tb at *
      clear h hsm
      go_enter Tryz.func55, Tryz.ntmps55
      go_wp2_with fail
      refine HQ.out.mono ?_
      rintro e w' ⟨rfl, rfl⟩
      go_wp2_with fail
      refine HRA.out.mono ?_
      rintro e w1 ⟨rfl, hb1⟩
      have h1 := HSB.out w1 hb1
      have HB1 := Lib.hid h1.2
      have HC1 := Lib.hid (HC.out w1 h1.1)
      clear hb1 h1 HC
      go_wp2_with fail
      refine HC1.out.mono ?_
      intro e w2 hw2
      have H2 := Lib.hid hw2
      obtain ⟨rfl, _⟩ := hw2
      go_wp2
      go_end0
      exact StepP.pre HB1.out H2.out
    · rw [if_neg h64]
      have HC : Hid (∀ w1, Sc B d s w1 v p l 0 0 → Calls Tryz.prog 52 #[.pointer (some ⟨d, 0, none⟩), .int .i64 4, .string ⟨t.toArray⟩, .int .i64 (n + 1 : Nat)] w1 (StepP B d s w1 p l (.good 4 t (n + 1)))) := Lib.hid fun w1 h1 => step_take (q := 0) h1 rfl 4 (n + 1) ⟨t.toArray⟩ (by omega) (by omega) hsm hl rfl
      generalize (⟨t.toArray⟩ : ByteArray) = tb at *
      clear h hsm
      go_enter Tryz.func55, Tryz.ntmps55
      go_wp2_with fail
      refine HQ.out.mono ?_
      rintro e w' ⟨rfl, rfl⟩
      go_wp2_with fail
      refine HRA.out.mono ?_
      rintro e w1 ⟨rfl, hb1⟩
      have h1 := HSB.out w1 hb1
      have HB1 := Lib.hid h1.2
      have HC1 := Lib.hid (HC.out w1 h1.1)
      clear hb1 h1 HC
      go_wp2_with fail
      refine HC1.out.mono ?_
      intro e w2 hw2
      have H2 := Lib.hid hw2
      obtain ⟨rfl, _⟩ := hw2
      go_wp2
      go_end0
      exact StepP.pre HB1.out H2.out
end Go.Proofs.YtpdfenpmnpoehaaGreatDoor
