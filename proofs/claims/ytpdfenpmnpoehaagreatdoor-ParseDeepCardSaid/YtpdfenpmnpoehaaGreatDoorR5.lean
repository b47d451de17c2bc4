/- Whether a condition may be: its nodes' own. -/
import Derived.Test.YtpdfenpmnpoehaaGreatDoorR4
namespace Go.Proofs.YtpdfenpmnpoehaaGreatDoor
open Go.RowKit Go.Maps
set_option linter.unusedVariables false

/-- A node's cells. -/
structure NodeC (w : World) (g o : Nat) (k : Int) (L R : Value) (col : Tx) (op : Int) (V : Value) : Prop where
  c0 : w.cell? ⟨g, o, none⟩ = some (.int .i64 k)
  c1 : w.cell? ⟨g, o + 1, none⟩ = some L
  c2 : w.cell? ⟨g, o + 2, none⟩ = some R
  c3 : w.cell? ⟨g, o + 3, none⟩ = some (sv col)
  c4 : w.cell? ⟨g, o + 4, none⟩ = some (.int .i64 op)
  c5 : w.cell? ⟨g, o + 5, none⟩ = some V
theorem NodeC.of {w w' : World} {g o : Nat} {k : Int} {L R : Value} {col : Tx} {op : Int} {V : Value} (h : NodeC w g o k L R col op V) (e : w'.heap[g]? = w.heap[g]?) : NodeC w' g o k L R col op V := by
  obtain ⟨c0, c1, c2, c3, c4, c5⟩ := h
  refine ⟨?_, ?_, ?_, ?_, ?_, ?_⟩ <;> rw [cell_of_heap e] <;> assumption
set_option maxRecDepth 100000 in
theorem bare_any {w : World} {g o : Nat} {k : Int} {L R : Value} {col : Tx} {op : Int} {A : Option Addr} {c : Nat} {vals : List Vl} (h : NodeC w g o k L R col op (.slice A vals.length c)) : Calls Tryz.prog 95 #[.pointer (some ⟨g, o, none⟩)] w (TellsB (bareC col op vals) w) := by
  obtain ⟨c0, c1, c2, c3, c4, c5⟩ := h
  unfold bareC
  clear c0 c1 c2
  cases col with
  | cons b col =>
    go_enter Tryz.func95, Tryz.ntmps95
    go_wp2_with fail
    go_ret
    exact ⟨by simp, Fr.refl _ _⟩
  | nil =>
    by_cases ho : op = 0
    · subst ho
      cases vals with
      | nil =>
        go_enter Tryz.func95, Tryz.ntmps95
        go_wp2_with fail
        go_ret
        exact ⟨by simp, Fr.refl _ _⟩
      | cons x vals =>
        have z0 : ((((x :: vals).length : Nat) : Int) == 0) = false := by simp; omega
        go_enter Tryz.func95, Tryz.ntmps95
        go_wp2_with fail
        go_ret
        exact ⟨by simp; omega, Fr.refl _ _⟩
    · have z0 : (op == 0) = false := by simpa using ho
      go_enter Tryz.func95, Tryz.ntmps95
      go_wp2_with fail
      go_ret
      exact ⟨by simp [z0], Fr.refl _ _⟩
set_option maxRecDepth 100000 in
theorem rtest_any {K : Nat → Prop} {w : World} {g o : Nat} {k : Int} {L R : Value} {col : Tx} {op : Int} {V : Value} {vals : List Vl} (hp : Lr w) (h : NodeC w g o k L R col op V) (hr : RowE K w 3 (vlG K w) V vals) (hg : g < w.heap.size) (hcl : col.length ≤ maxLen) :
    Calls Tryz.prog 96 #[.pointer (some ⟨g, o, none⟩)] w (TellsB (testR k col op vals) w) := by
  obtain ⟨A, c, rfl⟩ : ∃ A c, V = .slice A vals.length c := by obtain ⟨A, c, e, _⟩ := hr; exact ⟨_, _, e⟩
  have HR := Lib.hid hr
  have HN := Lib.hid h
  have HI := Lib.hid (iname_any col w hp hcl)
  have HP := Lib.hid hp
  have HG := Lib.hid hg
  have HEND : Hid (∀ (bb : Bool) e w2, testR k col op vals = bb → e = .returned (.bool bb) → Fr No w w2 → TellsB (testR k col op vals) w e w2) := Lib.hid fun bb e w2 h1 h2 h3 => ⟨by rw [h2, h1], h3⟩
  obtain ⟨c0, c1, c2, c3, c4, c5⟩ := h
  clear c1 c2 hr hp
  go_enter Tryz.func96, Tryz.ntmps96
  by_cases k4 : k = 4
  · subst k4
    go_wp2_with fail
    refine HI.out.mono ?_
    rintro e w5 ⟨rfl, f5⟩
    have HF5 := Lib.hid f5
    have HN5 := Lib.hid (HN.out.of (f5.block g HG.out id))
    have HC := Lib.hid (rl138_any 1 1 (la := 1) (ma := 1) rfl rfl w5 (HP.out.no f5) (HR.out.at_ vlG_elem f5))
    have d4 := HN5.out.c4
    have d5 := HN5.out.c5
    clear f5 c0 c3 c4 c5
    cases hn : isNameB col with
    | false =>
      have HV : Hid (testR 4 col op vals = false) := Lib.hid (by unfold testR; rw [if_pos rfl, hn]; rfl)
      go_wp2_with fail
      go_ret
      exact HEND.out _ _ _ HV.out rfl HF5.out
    | true =>
      by_cases o1 : 1 ≤ op
      · by_cases o2 : op ≤ 6
        · have HV : Hid (testR 4 col op vals = rightL vals 1 1 rightV) := Lib.hid (by unfold testR; rw [if_pos rfl, hn, decide_eq_true o1, decide_eq_true o2]; rfl)
          go_wp2_with fail
          refine HC.out.mono ?_
          rintro e w6 ⟨rfl, f6⟩
          have HF6 := Lib.hid (HF5.out.trans f6 fun _ _ h => h)
          clear f6
          go_wp2_with fail
          go_ret
          exact HEND.out _ _ _ HV.out rfl HF6.out
        · have HV : Hid (testR 4 col op vals = false) := Lib.hid (by unfold testR; rw [if_pos rfl, hn, decide_eq_false o2]; simp)
          have o2' : (op ≤ 6) = False := eq_false o2
          go_wp2_with fail
          go_ret
          exact HEND.out _ _ _ HV.out (by first | rfl | simp [o2]) HF5.out
      · have HV : Hid (testR 4 col op vals = false) := Lib.hid (by unfold testR; rw [if_pos rfl, hn, decide_eq_false o1]; simp)
        have o1' : (1 ≤ op) = False := eq_false o1
        go_wp2_with fail
        go_ret
        exact HEND.out _ _ _ HV.out (by first | rfl | simp [o1]) HF5.out
  · have k4' : (k == 4) = false := by simpa using k4
    by_cases k5 : k = 5
    · subst k5
      go_wp2_with fail
      refine HI.out.mono ?_
      rintro e w5 ⟨rfl, f5⟩
      have HF5 := Lib.hid f5
      have HN5 := Lib.hid (HN.out.of (f5.block g HG.out id))
      have HC := Lib.hid (rl138_any 1 64 (la := 1) (ma := 64) rfl rfl w5 (HP.out.no f5) (HR.out.at_ vlG_elem f5))
      have d4 := HN5.out.c4
      have d5 := HN5.out.c5
      clear f5 c0 c3 c4 c5
      cases hn : isNameB col with
      | false =>
        have HV : Hid (testR 5 col op vals = false) := Lib.hid (by unfold testR; rw [if_neg (by decide), if_pos rfl, hn]; rfl)
        go_wp2_with fail
        go_ret
        exact HEND.out _ _ _ HV.out rfl HF5.out
      | true =>
        by_cases o1 : op = 0
        · subst o1
          have HV : Hid (testR 5 col 0 vals = rightL vals 1 64 rightV) := Lib.hid (by unfold testR; rw [if_neg (by decide), if_pos rfl, hn]; rfl)
          go_wp2_with fail
          refine HC.out.mono ?_
          rintro e w6 ⟨rfl, f6⟩
          have HF6 := Lib.hid (HF5.out.trans f6 fun _ _ h => h)
          clear f6
          go_wp2_with fail
          go_ret
          exact HEND.out _ _ _ HV.out rfl HF6.out
        · have o1' : (op == 0) = false := by simpa using o1
          have HV : Hid (testR 5 col op vals = false) := Lib.hid (by unfold testR; rw [if_neg (by decide), if_pos rfl, hn, o1']; rfl)
          go_wp2_with fail
          go_ret
          exact HEND.out _ _ _ HV.out rfl HF5.out
    · have k5' : (k == 5) = false := by simpa using k5
      have HV : Hid (testR k col op vals = false) := Lib.hid (by unfold testR; rw [if_neg k4, if_neg k5])
      go_wp2_with fail
      go_ret
      exact HEND.out _ _ _ HV.out rfl (Fr.refl _ _)
/-- One more node: what is left goes down by one. -/
theorem one_any {w : World} {b : Nat} {n : Int} (hb : Blk w b 77 #[.int .i64 n]) (h1 : -10 ≤ n) (h2 : n ≤ 100000) : Calls Tryz.prog 94 #[.pointer (some ⟨b, 0, none⟩)] w fun e w' => e = .returned (.bool (decide (1 ≤ n))) ∧ Blk w' b 77 #[.int .i64 (n - 1)] ∧ Fr (fun k => k = b) w w' := by
  have c0 : w.cell? ⟨b, 0, none⟩ = some (.int .i64 n) := hb.cell 0
  have x0 : w.frozen? ⟨b, 0, none⟩ = false := hb.frozen 0
  have HEND : Hid (Blk (w.setCell ⟨b, 0, none⟩ (.int .i64 (n - 1))) b 77 #[.int .i64 (n - 1)] ∧ Fr (fun k => k = b) w (w.setCell ⟨b, 0, none⟩ (.int .i64 (n - 1)))) := Lib.hid ⟨hb.set_ 0 _, fr_set (Fr.refl _ w)⟩
  have hwrap : IntKind.i64.wrap (n - 1) = n - 1 := IntWalk.i64_in _ (by omega)
  clear hb
  go_enter Tryz.func94, Tryz.ntmps94
  go_wp2_with fail
  go_ret
  exact ⟨by first | rfl | (simp; done) | (simp; omega), HEND.out⟩
end Go.Proofs.YtpdfenpmnpoehaaGreatDoor
