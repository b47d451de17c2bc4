/- swap, walked. For DiskSwaps. -/
import Derived.Test.YtlopbhamlhmpbaaF3
namespace Go.Proofs.Ytlopbhamlhmpbaa
open Go.RowKit Go.Maps Go.Sort
set_option linter.unusedVariables false

structure Swapped (S S' : AS) (E : Int) (was t : List UInt8) : Prop where
  last : S'.last ≤ S.last + 5
  how : (E = 0 ∧ S'.on = true ∧ S'.loose = [] ∧ Safe S' (fun b => b = t)) ∨ (E = 13 ∧ S'.on = false ∧ Safe S' (fun b => b = was ∨ b = t))

set_option maxRecDepth 100000 in
set_option maxHeartbeats 4000000 in
theorem swap_any {w w0 : World} {d N : Nat} {S : AS} {was : List UInt8} (hM : Mid w d N S w0) (hN : N + 2 ≤ 1000000000000) (h : Safe S (fun b => b = was)) (hw : was.length ≤ 100000) (t : List UInt8) (ht : t.length ≤ 100000) (hpre : S.on = false ∨ (S.on = true ∧ look S.names lNew = none)) :
    Calls Try.prog 24 #[.pointer (some ⟨d, 0, none⟩), .string ⟨t.toArray⟩] w0 fun e w' => ∃ (S' : AS) (E : Int), e = .returned (.int .i64 E) ∧ Mid w d (N + 2) S' w' ∧ Swapped S S' E was t := by
  have htm : t.length ≤ maxLen := by unfold maxLen; omega
  have HM := Lib.hid hM
  have HH := Lib.hid h
  have hcon := m_write hM.dsk (by omega) lNew t (by decide) htm
  rcases hpre with hoff | ⟨hon, hno⟩
  · rw [(off_all hoff t).1] at hcon
    have HC := Lib.hid hcon
    clear hcon hM h
    go_enter Try.func24, Try.ntmps24
    go_wp2_with fail
    refine HC.out.mono ?_
    rintro e w1 ⟨rfl, h1, b1⟩
    have h1' : Dsk w1 w.heap.size d (N + 1) S := h1
    have HM1 := Lib.hid (HM.out.turn (h1'.more (M := N + 2) (by omega) hN) b1)
    clear HC h1 h1' b1
    go_wp2
    go_ret
    exact ⟨S, 13, rfl, HM1.out, ⟨by omega, .inr ⟨rfl, hoff, HH.out.mono fun b hb => .inl hb⟩⟩⟩
  · obtain ⟨a1, n, k, b1, b2, b3⟩ := swap_write h hM.dsk.inv hon hno (fun b hb => by rw [hb]; exact hw) t ht
    have HC := Lib.hid hcon
    have HB1 := Lib.hid b1
    have HB2 := Lib.hid b2
    have HB3 := Lib.hid b3
    have ha := a1.how
    have HA := Lib.hid a1
    clear hcon hM h b1 b2 b3 a1
    obtain ⟨S1, hS1⟩ : ∃ S1, (S.write lNew t).1 = S1 := ⟨_, rfl⟩
    obtain ⟨E1, hE1⟩ : ∃ E1, (S.write lNew t).2 = E1 := ⟨_, rfl⟩
    rw [hS1, hE1] at HA HC ha
    rw [hS1] at HB1 HB2 HB3
    clear hS1 hE1
    go_enter Try.func24, Try.ntmps24
    go_wp2_with fail
    refine HC.out.mono ?_
    rintro e w1 ⟨rfl, h1, c1⟩
    have HM1 := Lib.hid (HM.out.turn h1 c1)
    clear HC h1 c1 HM
    rcases ha with ⟨rfl, o1⟩ | ⟨rfl, o1⟩
    · go_wp2_with fail
      have hla1 := HA.out.last
      obtain ⟨a2, f2⟩ := swap_sync HA.out.safe o1 HB1.out HB2.out HB3.out
      have ha := a2.how
      have HA2 := Lib.hid a2
      have HF2 := Lib.hid f2
      have HC := Lib.hid (m_sync HM1.out.dsk lNew (by decide))
      clear a2 f2
      obtain ⟨S2, hS2⟩ : ∃ S2, (S1.sync lNew).1 = S2 := ⟨_, rfl⟩
      obtain ⟨E2, hE2⟩ : ∃ E2, (S1.sync lNew).2 = E2 := ⟨_, rfl⟩
      rw [hS2, hE2] at HA2 HC ha HF2
      clear hS2 hE2
      refine HC.out.mono ?_
      rintro e w2 ⟨rfl, h1, c1⟩
      have HM2 := Lib.hid (HM1.out.turn h1 c1)
      have hla2 := HA2.out.last
      clear HC h1 c1 HM1 HB1 HB2 HB3 HA
      rcases ha with ⟨rfl, o2⟩ | ⟨rfl, o2⟩
      · obtain ⟨g1, g2⟩ := HF2.out rfl
        have HG1 := Lib.hid g1
        have HG2 := Lib.hid g2
        clear HF2 g1 g2
        go_wp2_with fail
        obtain ⟨a3, f3⟩ := swap_settle HA2.out.safe HM2.out.dsk.inv o2
        have ha := a3.how
        have HA3 := Lib.hid a3
        have HF3 := Lib.hid f3
        have HC := Lib.hid (m_settle HM2.out.dsk)
        clear a3 f3
        obtain ⟨S3, hS3⟩ : ∃ S3, S2.settle.1 = S3 := ⟨_, rfl⟩
        obtain ⟨E3, hE3⟩ : ∃ E3, S2.settle.2 = E3 := ⟨_, rfl⟩
        rw [hS3, hE3] at HA3 HC ha HF3
        clear hS3 hE3
        refine HC.out.mono ?_
        rintro e w3 ⟨rfl, h1, c1⟩
        have HM3 := Lib.hid (HM2.out.turn h1 c1)
        have hla3 := HA3.out.last
        clear HC h1 c1 HM2 HA2
        rcases ha with ⟨rfl, o3⟩ | ⟨rfl, o3⟩
        · obtain ⟨g1, g2, g3⟩ := HF3.out rfl
          have hn3 : look S3.names lNew = some n := by rw [g2]; exact HG1.out
          have hf3 := (g3 lNew n HG1.out).trans HG2.out
          have hs3 : Safe S3 (fun b => b = was ∨ b = t) := HA3.out.safe.mono fun b hb => .inl hb
          obtain ⟨a4, f4, f5⟩ := swap_rename hs3 HM3.out.dsk.inv o3 hn3 hf3 rfl (.inr rfl)
          have ha := a4.how
          have HA4 := Lib.hid a4
          have HF4 := Lib.hid f4
          have HF5 := Lib.hid f5
          have HC := Lib.hid (m_rename HM3.out.dsk (by omega) lNew lOld (by decide) (by decide))
          clear a4 f4 f5 g1 g2 g3 hn3 hf3 hs3 HF3 HG1 HG2
          obtain ⟨S4, hS4⟩ : ∃ S4, (S3.rename lNew lOld).1 = S4 := ⟨_, rfl⟩
          obtain ⟨E4, hE4⟩ : ∃ E4, (S3.rename lNew lOld).2 = E4 := ⟨_, rfl⟩
          rw [hS4, hE4] at HA4 HC ha
          rw [hS4] at HF4 HF5
          clear hS4 hE4
          go_wp2_with fail
          refine HC.out.mono ?_
          rintro e w4 ⟨rfl, h1, c1⟩
          have HM4 := Lib.hid (HM3.out.turn h1 c1)
          have hla4 := HA4.out.last
          clear HC h1 c1 HM3 HA3
          rcases ha with ⟨rfl, o4⟩ | ⟨rfl, o4⟩
          · obtain ⟨a5, f6⟩ := swap_settle HA4.out.safe HM4.out.dsk.inv o4
            have ha := a5.how
            have HA5 := Lib.hid a5
            have HF6 := Lib.hid f6
            have HC := Lib.hid (m_settle HM4.out.dsk)
            clear a5 f6
            obtain ⟨S5, hS5⟩ : ∃ S5, S4.settle.1 = S5 := ⟨_, rfl⟩
            obtain ⟨E5, hE5⟩ : ∃ E5, S4.settle.2 = E5 := ⟨_, rfl⟩
            rw [hS5, hE5] at HA5 HC ha HF6
            clear hS5 hE5
            go_wp2_with fail
            refine HC.out.mono ?_
            rintro e w5 ⟨rfl, h1, c1⟩
            have HM5 := Lib.hid (HM4.out.turn h1 c1)
            have hla5 := HA5.out.last
            clear HC h1 c1 HM4 HA4
            rcases ha with ⟨rfl, o5⟩ | ⟨rfl, o5⟩
            · obtain ⟨g1, g2, g3⟩ := HF6.out rfl
              have hx : Safe S5 (fun b => b = t) := HA5.out.safe.exact HM5.out.dsk.inv g1 (by rw [g2]; exact HF5.out) ((g3 lOld n HF5.out).trans HF4.out) rfl
              go_wp2
              go_ret
              exact ⟨S5, 0, rfl, HM5.out, ⟨by omega, .inl ⟨rfl, o5, g1, hx⟩⟩⟩
            · go_wp2
              go_ret
              exact ⟨S5, 13, rfl, HM5.out, ⟨by omega, .inr ⟨rfl, o5, HA5.out.safe⟩⟩⟩
          · go_wp2
            go_ret
            exact ⟨S4, 13, rfl, HM4.out, ⟨by omega, .inr ⟨rfl, o4, HA4.out.safe⟩⟩⟩
        · go_wp2
          go_ret
          exact ⟨S3, 13, rfl, ⟨HM3.out.dsk.more (by omega) hN, HM3.out.bel⟩, ⟨by omega, .inr ⟨rfl, o3, HA3.out.safe.mono fun b hb => .inl hb⟩⟩⟩
      · go_wp2
        go_ret
        exact ⟨S2, 13, rfl, ⟨HM2.out.dsk.more (by omega) hN, HM2.out.bel⟩, ⟨by omega, .inr ⟨rfl, o2, HA2.out.safe.mono fun b hb => .inl hb⟩⟩⟩
    · have hla1 := HA.out.last
      go_wp2
      go_ret
      exact ⟨S1, 13, rfl, ⟨HM1.out.dsk.more (by omega) hN, HM1.out.bel⟩, ⟨by omega, .inr ⟨rfl, o1, HA.out.safe.mono fun b hb => .inl hb⟩⟩⟩

end Go.Proofs.Ytlopbhamlhmpbaa
