/- Whether a query may be: values, items, lists. -/
import Derived.Test.YtpdfenpmnpoehaaGreatDoorQ1
import Derived.Test.YtpdfenpmnpoehaaGreatDoorXC2
import Derived.Test.YtpdfenpmnpoehaaGreatDoorP4
namespace Go.Proofs.YtpdfenpmnpoehaaGreatDoor
open Go.RowKit Go.Maps
set_option linter.unusedVariables false

theorem nameB_eq (l : Tx) : nameB l = isNameB l := by
  rw [Bool.eq_iff_iff]
  unfold nameB isNameB
  have hr : runB goB l = l.length ↔ ∀ b ∈ l, goB b = true := by
    constructor
    · intro h b hb
      have := runB_take goB l b
      rw [h, List.take_length] at this
      exact this hb
    · intro h
      have := runB_app goB l [] h (fun b hb => by cases hb)
      rwa [List.append_nil] at this
  simp only [decide_eq_true_eq, Bool.and_eq_true, beq_iff_eq, List.all_eq_true, List.isEmpty_iff, kwOf_nil_iff]
  rw [hr]
  exact ⟨fun ⟨a, b, c, d⟩ => ⟨⟨⟨b, c⟩, d⟩, a⟩, fun ⟨⟨⟨b, c⟩, d⟩, a⟩ => ⟨a, b, c, d⟩⟩
/-- A call that tells a Boolean, and makes memory alone. -/
def TellsB (b : Bool) (w : World) (e : Ending) (w' : World) : Prop := e = .returned (.bool b) ∧ Fr No w w'
theorem iname_any (t : Tx) (w : World) (hp : Lr w) (ht : t.length ≤ maxLen) : Calls Tryz.prog 40 #[sv t] w (TellsB (isNameB t) w) := by
  refine (isName_any ⟨t.toArray⟩ w hp (by rw [sz]; exact ht)).mono ?_
  rintro e w' ⟨h1, n, rfl⟩
  refine ⟨?_, (Fr.refl No w).drewN n⟩
  rw [h1, ← nameB_eq]
theorem Lr.no {w w' : World} (h : Lr w) (f : Fr No w w') : Lr w' := h.keep (B := 6) (by omega) (f.below.mono (by have := h.lt; omega))
theorem rvalue_any (v : Vl) (w : World) : Calls Tryz.prog 139 #[.agg #[.bool v.isText, sv v.text, .int .i64 v.int]] w (TellsB (rightV v) w) := by
  obtain ⟨it, t, n⟩ := v
  unfold rightV
  simp only
  obtain ⟨w1, hw1⟩ : ∃ w1, w.alloc (.cells #[.bool it, sv t, .int .i64 n] 47) = w1 := ⟨_, rfl⟩
  obtain ⟨y, hy⟩ : ∃ y, w.heap.size = y := ⟨_, rfl⟩
  have f1 : Fr No w w1 := by rw [← hw1]; exact (Fr.refl No w).alloc _
  have hb : Blk w1 y 47 #[.bool it, sv t, .int .i64 n] := by rw [← hw1, ← hy]; exact Blk.new w 47 _
  have c0 : w1.cell? ⟨y, 0, none⟩ = some (.bool it) := hb.cell 0
  have c1 : w1.cell? ⟨y, 1, none⟩ = some (sv t) := hb.cell 1
  have c2 : w1.cell? ⟨y, 2, none⟩ = some (.int .i64 n) := hb.cell 2
  have F1 := Lib.hid f1
  have HW1 := Lib.hid hw1
  have HY := Lib.hid hy
  clear f1 hb hw1 hy
  have HSZ := Lib.hid (sz t)
  go_enter Tryz.func139, Tryz.ntmps139
  go_upto_region 1 with fail
  rw [HW1.out, HY.out]
  go_wp2_with fail
  all_goals
    go_ret
    exact ⟨(by first | rfl | (simp; done) | (simp_all; done) | (simp_all; omega) | (simp; omega)), F1.out⟩
theorem ritem_any (v : It) (w : World) (hp : Lr w) (ht : v.col.length ≤ maxLen) : Calls Tryz.prog 91 #[.agg #[.int .i64 v.kind, sv v.col]] w (TellsB (rightI v) w) := by
  obtain ⟨n, t⟩ := v
  unfold rightI
  simp only at ht ⊢
  obtain ⟨w1, hw1⟩ : ∃ w1, w.alloc (.cells #[.int .i64 n, sv t] 45) = w1 := ⟨_, rfl⟩
  obtain ⟨y, hy⟩ : ∃ y, w.heap.size = y := ⟨_, rfl⟩
  have f1 : Fr No w w1 := by rw [← hw1]; exact (Fr.refl No w).alloc _
  have hb : Blk w1 y 45 #[.int .i64 n, sv t] := by rw [← hw1, ← hy]; exact Blk.new w 45 _
  have c0 : w1.cell? ⟨y, 0, none⟩ = some (.int .i64 n) := hb.cell 0
  have c1 : w1.cell? ⟨y, 1, none⟩ = some (sv t) := hb.cell 1
  have F1 := Lib.hid f1
  have HW1 := Lib.hid hw1
  have HY := Lib.hid hy
  have HC := Lib.hid (iname_any t w1 (hp.no f1) ht)
  clear f1 hb hw1 hy hp ht
  go_enter Tryz.func91, Tryz.ntmps91
  go_upto_region 1 with fail
  rw [HW1.out, HY.out]
  by_cases h2 : n = 2
  · subst h2
    go_wp2_with fail
    go_ret
    exact ⟨(by first | rfl | (simp; done) | (simp_all; done) | (simp_all; omega) | (simp; omega)), F1.out⟩
  · have hn2 : (n == 2) = false := by simpa using h2
    rw [if_neg h2]
    by_cases h3 : 1 ≤ n
    · by_cases h4 : n ≤ 6
      · rw [decide_eq_true h3, decide_eq_true h4, Bool.true_and, Bool.true_and]
        go_wp2_with fail
        refine HC.out.mono ?_
        rintro e w2 ⟨rfl, f2⟩
        have F2 := Lib.hid (F1.out.trans f2 fun _ _ h => h)
        clear f2
        go_wp2_with fail
        go_ret
        exact ⟨rfl, F2.out⟩
      · rw [decide_eq_true h3, decide_eq_false h4]
        go_wp2_with fail
        go_ret
        exact ⟨(by first | rfl | (simp; done) | (simp_all; done) | (simp_all; omega) | (simp; omega)), F1.out⟩
    · rw [decide_eq_false h3]
      go_wp2_with fail
      go_ret
      exact ⟨(by first | rfl | (simp; done) | (simp_all; done) | (simp_all; omega) | (simp; omega)), F1.out⟩
end Go.Proofs.YtpdfenpmnpoehaaGreatDoor
