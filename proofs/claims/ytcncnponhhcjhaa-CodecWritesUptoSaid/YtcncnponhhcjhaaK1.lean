/- The document's bytes of a cell. -/
import Derived.Test.YtcncnponhhcjhaaH2
namespace Go.Proofs.Ytcncnponhhcjhaa
open Go.RowKit Go.Maps Go.Sort
set_option linter.unusedVariables false

def ok2 (ok : Bool) (l : List UInt8) : List UInt8 := if ok = true then l else []
/-- Bytes, and whether a thing may be. -/
def Told2 (l : List UInt8) (ok : Bool) (w : World) (e : Ending) (w' : World) : Prop := e = .returned (.tuple #[sv (ok2 ok l), .bool ok]) ∧ Below w.heap.size w w'
theorem u64_nat (n : Int) : IntKind.u64.wrap n = (((n % 18446744073709551616).toNat : Nat) : Int) := by rw [IntKind.wrap_u64]; omega
set_option maxRecDepth 100000 in
set_option maxHeartbeats 4000000 in
theorem dcell_any (c : CellP) (w : World) (hb : c.kind = 2 → c.text.length ≤ 1152921504606846976) : Calls Try.prog 55 #[c.val] w (Told2 (bCell c) c.may w) := by
  obtain ⟨k, n, t⟩ := c
  have hbl : Below w.heap.size w (w.alloc (.cells #[.int .i64 k, .int .i64 n, sv t] 93)) := (Below.refl _ _).alloc (Nat.le_refl _) _
  have HB := Lib.hid hbl
  clear hbl
  unfold CellP.val Told2
  by_cases h0 : k = 0
  · subst h0
    have HQ : Hid (bCell ⟨0, n, t⟩ = [0]) := Lib.hid (by unfold bCell; simp [low])
    clear hb
    by_cases hn : n = 0
    · subst hn
      have HM : Hid (CellP.may ⟨0, 0, t⟩ = t.isEmpty) := Lib.hid (by simp [CellP.may])
      cases ht : t.isEmpty <;> rw [ht] at HM
      all_goals
        go_enter Try.func55, Try.ntmps55
        go_wp2
        go_ret2
        exact ⟨by rw [HM.out, HQ.out]; rfl, HB.out⟩
    · have HM : Hid (CellP.may ⟨0, n, t⟩ = false) := Lib.hid (by simp [CellP.may, hn])
      have h1 : (n == 0) = false := by simpa using hn
      clear hn
      go_enter Try.func55, Try.ntmps55
      go_wp2
      go_ret2
      exact ⟨by rw [HM.out, HQ.out]; rfl, HB.out⟩
  · by_cases h1 : k = 1
    · subst h1
      have HM : Hid (CellP.may ⟨1, n, t⟩ = t.isEmpty) := Lib.hid (by simp [CellP.may])
      have HQ : Hid (bCell ⟨1, n, t⟩ = [1] ++ enc8 n) := Lib.hid (by unfold bCell; simp [low])
      have hk := u64_nat n
      have HL := Lib.hid (fun w => Num_any (n % 18446744073709551616).toNat 8 w (by omega) (by omega))
      unfold Low at HL
      have he8 : low (n % 18446744073709551616).toNat 8 = enc8 n := rfl
      rw [he8] at HL
      have hl8 : (enc8 n).length = 8 := by unfold enc8; rw [low_len]
      have hcat : ∀ w0, (Op.stringOp .add ⟨#[1]⟩ ⟨(enc8 n).toArray⟩).run Try.prog w0 = .ok (.string ⟨([1] ++ enc8 n).toArray⟩) w0 := fun w0 => run_cat [1] _ (by rw [hl8]; simp) w0
      obtain ⟨X, hX⟩ : ∃ X, [1] ++ enc8 n = X := ⟨_, rfl⟩
      rw [hX] at HQ hcat
      generalize enc8 n = T at *
      generalize (n % 18446744073709551616).toNat = tt at *
      clear hX he8 hl8 hb h0
      cases ht : t.isEmpty <;> rw [ht] at HM
      · go_enter Try.func55, Try.ntmps55
        go_wp2
        go_ret2
        exact ⟨by rw [HM.out]; rfl, HB.out⟩
      · go_enter Try.func55, Try.ntmps55
        go_wp2_with fail
        refine (HL.out _).mono ?_
        rintro e w3 ⟨rfl, hb3⟩
        have B3 := Lib.hid (HB.out.trans (hb3.mono HB.out.size))
        clear hb3
        go_wp2
        go_ret2
        exact ⟨by rw [HM.out, HQ.out]; rfl, B3.out⟩
    · by_cases h2 : k = 2
      · subst h2
        have HM : Hid (CellP.may ⟨2, n, t⟩ = (n == 0)) := Lib.hid (by simp [CellP.may])
        have HQ : Hid (bCell ⟨2, n, t⟩ = [2] ++ bText t) := Lib.hid (by unfold bCell; simp [low])
        have htl := hb rfl
        simp only at htl
        have HL := Lib.hid (fun w => dtext_any t (by omega) w)
        unfold Told at HL
        have hl8 : (bText t).length = 4 + t.length := by unfold bText; rw [List.length_append, low_len]
        have hcat : ∀ w0, (Op.stringOp .add ⟨#[2]⟩ ⟨(bText t).toArray⟩).run Try.prog w0 = .ok (.string ⟨([2] ++ bText t).toArray⟩) w0 := fun w0 => run_cat [2] _ (by rw [hl8]; simp only [List.length_cons, List.length_nil]; omega) w0
        obtain ⟨X, hX⟩ : ∃ X, [2] ++ bText t = X := ⟨_, rfl⟩
        rw [hX] at HQ hcat
        generalize bText t = T at *
        clear hX hl8 hb h0 h1 htl
        by_cases hn : n = 0
        · subst hn
          go_enter Try.func55, Try.ntmps55
          go_wp2_with fail
          refine (HL.out _).mono ?_
          rintro e w3 ⟨rfl, hb3⟩
          have B3 := Lib.hid (HB.out.trans (hb3.mono HB.out.size))
          clear hb3
          go_wp2
          go_ret2
          exact ⟨by rw [HM.out, HQ.out]; rfl, B3.out⟩
        · have h1 : (n == 0) = false := by simpa using hn
          rw [h1] at HM
          clear hn
          go_enter Try.func55, Try.ntmps55
          go_wp2
          go_ret2
          exact ⟨by rw [HM.out]; rfl, HB.out⟩
      · have HM : Hid (CellP.may ⟨k, n, t⟩ = false) := Lib.hid (by simp [CellP.may, h0, h1, h2])
        have e0 : (k == 0) = false := by simpa using h0
        have e1 : (k == 1) = false := by simpa using h1
        have e2 : (k == 2) = false := by simpa using h2
        clear h0 h1 h2 hb
        go_enter Try.func55, Try.ntmps55
        go_wp2
        go_ret2
        exact ⟨by rw [HM.out]; rfl, HB.out⟩
end Go.Proofs.Ytcncnponhhcjhaa
