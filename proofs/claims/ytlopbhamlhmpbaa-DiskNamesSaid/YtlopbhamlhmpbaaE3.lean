/- The law DiskNames, walked. -/
import Derived.Test.YtlopbhamlhmpbaaE2
import Derived.Test.YtlopbhamlhmpbaaE1
namespace Go.Proofs.Ytlopbhamlhmpbaa
open Go.RowKit Go.Maps Go.Sort
open Go.Proofs (encStr)
set_option linter.unusedVariables false

theorem isFile_l (l : List UInt8) (w : World) (hs : l.length ≤ maxLen) :
    Calls Try.prog 28 #[.string ⟨l.toArray⟩] w fun e w' => e = .returned (.bool (nameOk l)) ∧ w = w' := isFile_any ⟨l.toArray⟩ w (by simpa [ByteArray.size] using hs)

theorem m_list1 {w : World} {B d N : Nat} {S : AS} {l : List UInt8} (h : Dsk w B d N S) (hon : S.on = true) (hs : sortedKeys S.names = [l]) :
    Calls Try.prog 30 #[.pointer (some ⟨d, 0, none⟩)] w fun e w' => ∃ g c, e = .returned (.slice (some ⟨g, 0, none⟩) 1 c) ∧ 1 ≤ c ∧ w'.cell? ⟨g, 0, none⟩ = some (.string ⟨l.toArray⟩) ∧ Fr No w w' := by
  refine (m_list h hon).mono ?_
  rintro e w' ⟨A, c, rfl, hr, hf⟩
  rw [hs] at hr
  have hk := own_base hr (Nat.zero_le _)
  rcases hk.2 with ⟨_, h0⟩ | ⟨gk, cap, cur, e, _, _, hn, hc⟩
  · simp at h0
  · cases e
    have hcell := hk.cells (g := gk) rfl 0 (encStr l) rfl
    exact ⟨gk, c, by rw [hs]; rfl, hn, hcell, hf⟩

set_option maxRecDepth 100000 in
set_option maxHeartbeats 8000000 in
theorem disknames_any (w : World) (data : List UInt8) (g n c g2 n2 c2 : Nat) (A A2 : Option Addr) (ss : List (List UInt8)) (ps : List Int) (hs : StrsAt w g A n c ss) (hdl : data.length ≤ maxLen) (hp : PicksAt w g2 A2 n2 c2 ps) :
    Calls Try.prog 7 #[.slice A n c, .string ⟨data.toArray⟩, .slice A2 n2 c2] w fun e w' => e = .returned (.bool true) ∧ Below w.heap.size w w' := by
  have HS := Lib.hid hs
  have HP := Lib.hid hp
  clear hs hp
  go_enter Try.func7, Try.ntmps7
  go_wp2_with fail
  refine (awake_any _).mono ?_
  rintro e w1 ⟨rfl, b⟩
  have HB := Lib.hid b
  clear b
  go_wp2_with fail
  refine (m_new 16777216 w1 w.heap.size HB.out.size).mono ?_
  rintro e w2 ⟨d, rfl, h0, f0⟩
  have hm : Mid w d 64 (AS.new 16777216) w2 := ⟨h0.more (by omega) (by omega), HB.out.trans (f0.below.mono HB.out.size)⟩
  have HM := Lib.hid hm
  clear HB f0 hm h0
  by_cases hbig : (data.length : Int) > 200000
  · go_wp2
    go_ret
    exact ⟨rfl, HM.out.bel⟩
  · go_wp2_with fail
    go_loopw [9, 10] (fun av iv wr => ∃ (k : Nat) (S : AS) (l : List UInt8), k ≤ n ∧ iv = .int .i64 k ∧ av = .string ⟨l.toArray⟩ ∧ Mid w d 64 S wr ∧ ((l = [] ∧ S = AS.new 16777216) ∨ (Sole S l data ∧ S.loose = []))) (fun _ iv _ => n - (intOf iv).toNat)
    case atStart => exact ⟨0, _, [], Nat.zero_le _, rfl, rfl, HM.out, .inl ⟨rfl, rfl⟩⟩
    case round =>
      obtain ⟨k, S, l, hk, rfl, rfl, hM, hcase⟩ := hrel
      have hcap := HS.out.cap
      have hcap2 : n ≤ 9223372036854775807 := by have := hcap.2; unfold maxLen at this; omega
      have HM0 := Lib.hid hM
      have HC := Lib.hid hcase
      clear hM hcase HM
      by_cases hkn : k < n
      · by_cases hk60 : k < 60
        · obtain ⟨ad, rfl, _, nm, hnm, hcell, hnl⟩ := (HM0.out.strs HS.out).cell hkn
          go_wp2_with fail
          refine (isFile_l nm wr hnl).mono ?_
          rintro e wx ⟨rfl, rfl⟩
          clear hcell
          go_upto_region 11 with fail
          go_cut [55] (fun b wx => wr = wx ∧ b = .bool l.isEmpty)
          case first =>
            cases hl : l.isEmpty with
            | true =>
              go_wp2_with fail
              go_meet
              exact ⟨rfl, by rw [hl]⟩
            | false =>
              go_wp2_with fail
              go_meet
              exact ⟨rfl, by rw [hl]⟩
          case rest =>
          obtain ⟨rfl, rfl⟩ := hcut
          go_upto_if 55 with fail
          go_cut [9, 12, 53, 55] (fun av _ _ _ wx => ∃ (S' : AS) (l' : List UInt8), av = .string ⟨l'.toArray⟩ ∧ l'.length ≤ maxLen ∧ Mid w d 65 S' wx ∧ Sole S' l' data)
          case first =>
            rcases HC.out with ⟨rfl, rfl⟩ | ⟨hso, hlo⟩
            · cases hok : nameOk nm with
              | true =>
                obtain ⟨h0, hso⟩ := new_sole hok (data := data) (by omega)
                have hcon := m_write HM0.out.dsk (by omega) nm data hnl hdl
                rw [h0] at hcon
                have HSO := Lib.hid hso
                have HCON := Lib.hid hcon
                clear hso hcon h0
                go_wp2_with fail
                refine HCON.out.mono ?_
                rintro e wz ⟨rfl, h1, b1⟩
                have HM1 := Lib.hid (HM0.out.turn h1 b1)
                clear h1 b1 HCON
                go_wp2_with fail
                go_meet
                exact ⟨_, nm, rfl, hnl, HM1.out, HSO.out⟩
              | false =>
                have hcon := m_write HM0.out.dsk (by omega) nm data hnl hdl
                rw [write_noname rfl hok] at hcon
                have HCON := Lib.hid hcon
                clear hcon
                go_wp2_with fail
                refine HCON.out.mono ?_
                rintro e wz ⟨rfl, h1, b1⟩
                have HM1 := Lib.hid (HM0.out.turn (h1.refit (M := 64) (by decide) (by decide) (by omega)) b1)
                clear h1 b1 HCON
                go_wp2
                refine ⟨⟨k + 1, _, [], by omega, by go_num, rfl, HM1.out, .inl ⟨rfl, rfl⟩⟩, by simp [intOf]; omega⟩
            · have hle : l.isEmpty = false := by
                cases l with
                | nil => have := hso.ok; simp [nameOk] at this
                | cons a l => rfl
              rw [hle]
              have hll : l.length ≤ maxLen := nameOk_max hso.ok
              have HSO0 := Lib.hid hso
              have HLO := Lib.hid hlo
              clear hso hlo
              cases hok : nameOk nm with
              | true =>
                obtain ⟨h0, hso⟩ := HSO0.out.renamed HM0.out.dsk.inv.names hok
                have hcon := m_rename HM0.out.dsk (by omega) l nm hll hnl
                rw [h0] at hcon
                have HSO := Lib.hid hso
                have HCON := Lib.hid hcon
                clear hso hcon h0
                go_wp2_with fail
                refine HCON.out.mono ?_
                rintro e wz ⟨rfl, h1, b1⟩
                have HM1 := Lib.hid (HM0.out.turn h1 b1)
                clear h1 b1 HCON
                go_wp2_with fail
                go_meet
                exact ⟨_, nm, rfl, hnl, HM1.out, HSO.out⟩
              | false =>
                have hcon := m_rename HM0.out.dsk (by omega) l nm hll hnl
                rw [rename_noname HSO0.out.on hok] at hcon
                have HCON := Lib.hid hcon
                clear hcon
                go_wp2_with fail
                refine HCON.out.mono ?_
                rintro e wz ⟨rfl, h1, b1⟩
                have h1' : Dsk wz w.heap.size d (64 + 1) S := h1
                have HM1 := Lib.hid (HM0.out.turn (h1'.refit (M := 64) HSO0.out.last (by rw [HLO.out]; simp) (by omega)) b1)
                clear h1 h1' b1 HCON
                go_wp2
                refine ⟨⟨k + 1, S, l, by omega, by go_num, rfl, HM1.out, .inr ⟨HSO0.out, HLO.out⟩⟩, by simp [intOf]; omega⟩
          case rest =>
          obtain ⟨S', l', rfl, hl', hM', hso'⟩ := hcut
          have HM1 := Lib.hid hM'
          have HSO := Lib.hid hso'
          clear hM' hso' HM0 HC
          have hg0 := HM1.out.dsk.inv.names
          go_wp2_with fail
          refine (m_sync HM1.out.dsk l' hl').mono ?_
          rintro e wx ⟨rfl, h1, b1⟩
          have HM2 := Lib.hid (HM1.out.turn h1 b1)
          have HG0 := Lib.hid hg0
          clear h1 b1 HM1 hg0
          go_wp2_with fail
          refine (m_settle HM2.out.dsk).mono ?_
          rintro e wy ⟨rfl, h1, b1⟩
          have HM3 := Lib.hid (HM2.out.turn h1 b1)
          have hg1 : Good (S'.sync l').1.settle.1.file (S'.sync l').1.settle.1.firm := by
            have := h1.inv.good 0 (Nat.zero_le _)
            rw [past_zero] at this
            exact this
          obtain ⟨q1, q2, q3, q4, q5⟩ := HSO.out.after HG0.out hg1 ps
          have HQ3 := Lib.hid q3
          have HQ5 := Lib.hid q5
          have HQ4 := Lib.hid q4
          rw [q2]
          obtain ⟨S1, hS1⟩ : ∃ S1, (S'.sync l').1.settle.1 = S1 := ⟨_, rfl⟩
          obtain ⟨e1, he1⟩ : ∃ e1, (S'.sync l').2 = e1 := ⟨_, rfl⟩
          rw [hS1] at HM3 HQ3 HQ4 HQ5
          rw [he1] at q1 ⊢
          subst q1
          clear h1 b1 HM2 q2 q3 q4 q5 hg1 hS1 he1 HSO HG0
          go_wp2_with fail
          refine (m_crash HM3.out.dsk g2 A2 n2 c2 ps (HM3.out.picks HP.out) (fun hn => .inl (HP.out.lt hn))).mono ?_
          rintro e wz ⟨rfl, h1, b1⟩
          have HM4 := Lib.hid (HM3.out.turn (h1.refit (M := 64) HQ3.out.last (by rw [HQ4.out]; simp) (by omega)) b1)
          clear h1 b1 HM3
          go_wp2_with fail
          refine (m_read HM4.out.dsk l' hl').mono ?_
          rintro e wa ⟨rfl, fr⟩
          rw [HQ3.out.read]
          have HM5 := Lib.hid (HM4.out.keep fr)
          clear fr HM4
          go_wp2_with fail
          refine (m_list1 HM5.out.dsk HQ3.out.on HQ5.out).mono ?_
          rintro e wb ⟨g3, c3, rfl, hc3, hcell, fr⟩
          have HM6 := Lib.hid (HM5.out.keep fr)
          clear fr HM5
          go_wp2
          refine ⟨⟨k + 1, _, l', by omega, by go_num, rfl, HM6.out, .inr ⟨HQ3.out, HQ4.out⟩⟩, by simp [intOf]; omega⟩
        · go_wp2
          go_ret
          exact ⟨rfl, HM0.out.bel⟩
      · go_wp2
        go_ret
        exact ⟨rfl, HM0.out.bel⟩

end Go.Proofs.Ytlopbhamlhmpbaa
