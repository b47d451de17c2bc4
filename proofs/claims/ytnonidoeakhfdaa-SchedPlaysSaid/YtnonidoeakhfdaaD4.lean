/- The law SchedLatches, walked. -/
import Derived.Test.YtnonidoeakhfdaaD3
namespace Go.Proofs.Ytnonidoeakhfdaa
open Go.RowKit Go.Maps Go.Sort
set_option linter.unusedVariables false

structure LatAt (w : World) (d : Nat) (late : List Bool) (latch : Int) (i u : Nat) (wr : World) : Prop where
  ex : ∃ S, Sc wr (Old w.heap.size) d S ∧ LI late latch S i u
  fr : Fr (Out (Old w.heap.size)) w wr
structure LoAt (w : World) (d : Nat) (latch : Int) (i u : Nat) (wr : World) : Prop where
  ex : ∃ S, Sc wr (Old w.heap.size) d S ∧ LO latch S i u
  fr : Fr (Out (Old w.heap.size)) w wr

theorem list_old {α : Type} {f : α → Value} {w wr : World} {A : Option Addr} {n c : Nat} {zs : List α} (h : ListAt f w A n c zs) (hf : Fr (Out (Old w.heap.size)) w wr) : ListAt f wr A n c zs :=
  h.of (fun g hg => hf.block g hg fun ho => ho hg) hf.size

theorem list_old' {α : Type} {f : α → Value} {w : World} {A : Option Addr} {n c : Nat} {zs : List α} (h : ListAt f w A n c zs) {k : Nat} (hk : k < n) :
    ∃ g off, A = some ⟨g, off, none⟩ ∧ ∃ (hj : k < zs.length), ∀ wr, Fr (Out (Old w.heap.size)) w wr → wr.cell? ⟨g, off + k, none⟩ = some (f zs[k]) := by
  obtain ⟨g, off, e, hg, h2⟩ := h.at_ (by omega)
  have hj : k < zs.length := by have := h.len; omega
  exact ⟨g, off, e, hj, fun wr hf => by rw [World.cell?_of_block (hf.block g hg fun ho => ho hg)]; exact h2 k hj⟩

theorem LatAt.late {w wr : World} {d i u : Nat} {late : List Bool} {latch : Int} (h : LatAt w d late latch i u wr) (hi : i < 64) (hu : u < 1000000) (hl : lateB late i = true) :
    Calls Try.prog 20 #[.pointer (some ⟨d, 0, none⟩)] wr fun e w' => e = .returned (.tuple #[.int .i64 ((i : Int) + 1), .int .i64 0]) ∧ LatAt w d late latch (i + 1) (u + 1) w' := by
  obtain ⟨⟨S, h1, h2⟩, h3⟩ := h
  obtain ⟨e1, h4⟩ := h2.late hi hl
  have := h2.ti.used
  refine (m_start h1 (by omega)).mono ?_
  rintro e w' ⟨rfl, h5, h6⟩
  rw [e1]
  exact ⟨rfl, ⟨_, h5, h4⟩, frO h3 h6⟩

/-- What comes of the three calls for one that waits. -/
structure Early (w : World) (d : Nat) (late : List Bool) (latch : Int) (i u : Nat) (w1 : World) : Prop where
  await : Calls Try.prog 25 #[.pointer (some ⟨d, 0, none⟩), .int .i64 ((i : Int) + 1), .int .i64 latch] w1 fun e w2 => e = .returned (.tuple #[.bool false, .int .i64 0]) ∧
    Calls Try.prog 24 #[.pointer (some ⟨d, 0, none⟩), .int .i64 ((i : Int) + 1)] w2 fun e w3 => e = .returned (.int .i64 51) ∧ LatAt w d late latch (i + 1) (u + 1) w3
  fr : Fr (Out (Old w.heap.size)) w w1
theorem LatAt.early {w wr : World} {d i u : Nat} {late : List Bool} {latch : Int} (h : LatAt w d late latch i u wr) (hi : i < 64) (hu : u < 1000000) (h0 : 0 ≤ latch) (hlw : (Lit.int .i64 latch).wf = true) (hl : lateB late i = false) :
    Calls Try.prog 20 #[.pointer (some ⟨d, 0, none⟩)] wr fun e w' => e = .returned (.tuple #[.int .i64 ((i : Int) + 1), .int .i64 0]) ∧ Early w d late latch i u w' := by
  obtain ⟨⟨S, h1, h2⟩, h3⟩ := h
  obtain ⟨e1, e2, h4, e3⟩ := h2.early hi h0 hl
  have := h2.ti.used
  have hw : (Lit.int .i64 ((i : Int) + 1)).wf = true := wf64 (by omega) (by omega)
  refine (m_start h1 (by omega)).mono ?_
  rintro e w' ⟨rfl, h5, h6⟩
  rw [e1]
  refine ⟨rfl, ⟨(m_await h5 _ latch hw hlw).mono ?_, frO h3 h6⟩⟩
  rintro e w2 ⟨rfl, h7, h8⟩
  rw [e2]
  refine ⟨rfl, (m_end h7 _ hw).mono ?_⟩
  rintro e w3 ⟨rfl, h9, h10⟩
  rw [e3] at h9 ⊢
  exact ⟨rfl, ⟨_, h9, h4⟩, frO (frO (frO h3 h6) h8) h10⟩
theorem LatAt.open {w wr : World} {d i u : Nat} {late : List Bool} {latch : Int} (h : LatAt w d late latch i u wr) (hu : u < 1000000) (h0 : 0 ≤ latch) (hlw : (Lit.int .i64 latch).wf = true) :
    Calls Try.prog 26 #[.pointer (some ⟨d, 0, none⟩), .int .i64 latch] wr fun e w' => e = .returned (.int .i64 (cF late i : Nat)) ∧ LoAt w d latch i (u + 1) w' := by
  obtain ⟨⟨S, h1, h2⟩, h3⟩ := h
  obtain ⟨e1, h4⟩ := h2.open h0
  have := h2.ti.used
  refine (m_open h1 latch hlw (by omega)).mono ?_
  rintro e w' ⟨rfl, h5, h6⟩
  rw [e1]
  exact ⟨rfl, ⟨_, h5, h4⟩, frO h3 h6⟩
theorem LoAt.await {w wr : World} {d i u m : Nat} {latch : Int} (h : LoAt w d latch i u wr) (h0 : 0 ≤ latch) (hlw : (Lit.int .i64 latch).wf = true) (hm : m < i) (hi : i ≤ 64) :
    Calls Try.prog 25 #[.pointer (some ⟨d, 0, none⟩), .int .i64 ((m : Int) + 1), .int .i64 latch] wr fun e w' => e = .returned (.tuple #[.bool true, .int .i64 0]) ∧ LoAt w d latch i u w' := by
  obtain ⟨⟨S, h1, h2⟩, h3⟩ := h
  have hw : (Lit.int .i64 ((m : Int) + 1)).wf = true := wf64 (by omega) (by omega)
  refine (m_await h1 _ latch hw hlw).mono ?_
  rintro e w' ⟨rfl, h5, h6⟩
  rw [h2.await h0 hm] at h5 ⊢
  exact ⟨rfl, ⟨_, h5, h2⟩, frO h3 h6⟩
theorem LoAt.open {w wr : World} {d i u : Nat} {latch : Int} (h : LoAt w d latch i u wr) (hu : u < 1000000) (h0 : 0 ≤ latch) (hlw : (Lit.int .i64 latch).wf = true) :
    Calls Try.prog 26 #[.pointer (some ⟨d, 0, none⟩), .int .i64 latch] wr fun e w' => e = .returned (.int .i64 0) ∧ Fr (Out (Old w.heap.size)) w w' := by
  obtain ⟨⟨S, h1, h2⟩, h3⟩ := h
  have := h2.ti.used
  refine (m_open h1 latch hlw (by omega)).mono ?_
  rintro e w' ⟨rfl, h5, h6⟩
  rw [h2.open h0]
  exact ⟨rfl, frO h3 h6⟩

set_option maxRecDepth 100000 in
set_option maxHeartbeats 4000000 in
theorem schedlatches_any (w : World) (A : Option Addr) (n c : Nat) (late : List Bool) (latch : Int) (hL : ListAt Value.bool w A n c late) (hlw : (Lit.int .i64 latch).wf = true) :
    Calls Try.prog 6 #[.slice A n c, .int .i64 latch] w fun e w' => e = .returned (.bool true) ∧ Below w.heap.size w w' := by
  have HA := Lib.hid hL
  have HW := Lib.hid hlw
  have hcap : (n : Int) ≤ 9223372036854775807 := by have := hL.cap; unfold maxLen at this; omega
  clear hL hlw
  go_enter Try.func6, Try.ntmps6
  go_wp2_with fail
  refine (awake_any _).mono ?_
  rintro e w1 ⟨rfl, b⟩
  have F0 := Lib.hid (frO_bel b)
  have hw1 := b.size
  clear b
  go_wp2_with fail
  refine (m_new (Old w.heap.size) fun k hk => Nat.lt_of_lt_of_le hk hw1).mono ?_
  rintro e w2 ⟨d, rfl, h0, f0⟩
  have HT : Hid (LatAt w d late latch 0 0 w2) := Lib.hid ⟨⟨_, h0, ⟨TI.zero _, fun n => rfl⟩⟩, frO F0.out f0.any⟩
  clear h0 f0 F0 hw1
  by_cases hneg : latch < 0
  · go_wp2
    go_ret
    exact ⟨rfl, bel_of HT.out.fr (Nat.le_refl _)⟩
  · have hl0 : 0 ≤ latch := by omega
    go_wp2
    go_loopw [7, 8] (fun nv iv wr => ∃ i : Nat, i ≤ n ∧ i ≤ 30 ∧ iv = .int .i64 i ∧ nv = .int .i64 (cF late i : Nat) ∧ LatAt w d late latch i i wr) (fun _ iv _ => 30 - (intOf iv).toNat)
    case atStart => exact ⟨0, Nat.zero_le _, Nat.zero_le _, rfl, rfl, HT.out⟩
    case round =>
      obtain ⟨i, hi, hi30, rfl, rfl, hT⟩ := hrel
      have HT1 := Lib.hid hT
      clear hT HT
      have hcf := cF_le late i
      go_upto_region 7 with fail
      go_cut [37] (fun bv wx => wr = wx ∧ bv = .bool (decide (i < n ∧ i < 30)))
      case first =>
        by_cases h1 : i < n
        · go_wp2_with fail
          go_meet
          exact ⟨rfl, by congr 1; simp [h1] <;> omega⟩
        · go_wp2_with fail
          go_meet
          exact ⟨rfl, by congr 1; simp [h1] <;> omega⟩
      case rest =>
      obtain ⟨rfl, rfl⟩ := hcut
      by_cases hlt : i < n ∧ i < 30
      · have hd : decide (i < n ∧ i < 30) = true := by simpa using hlt
        obtain ⟨hlt1, hlt2⟩ := hlt
        obtain ⟨g, off, rfl, hj, hcell⟩ := list_old' HA.out hlt1
        have hb : lateB late i = late[i] := getD_of late false i hj
        cases hv : late[i]
        · rw [hv] at hcell hb
          have HB := Lib.hid hb
          have HCe := Lib.hid hcell
          clear hv hb hcell
          rw [hd]
          clear hd
          have HI := Lib.hid (HT1.out.early (by omega) (by omega) hl0 HW.out HB.out)
          go_wp2_with (first
            | (go_at_call 20; refine HI.out.mono ?_; rintro e w3 ⟨rfl, hE⟩; have HE := Lib.hid hE; have hcell := HCe.out _ hE.fr; clear hE HI)
            | (go_at_call 25; refine HE.out.await.mono ?_; rintro e w4 ⟨rfl, hE2⟩; have HE2 := Lib.hid hE2; clear hE2 HE)
            | (go_at_call 24; refine HE2.out.mono ?_; rintro e w5 ⟨rfl, hT2⟩; have HT2 := Lib.hid hT2; clear hT2 HE2))
          go_roundw
          case rel => exact ⟨i + 1, by omega, by omega, by go_num, by rw [cF_early HB.out]; go_num, HT2.out⟩
          case measure => simp [intOf]; omega
        · rw [hv] at hcell hb
          have HB := Lib.hid hb
          have HCe := Lib.hid hcell
          clear hv hb hcell
          rw [hd]
          clear hd
          have HI := Lib.hid (HT1.out.late (by omega) (by omega) HB.out)
          go_wp2_with (go_at_call 20; refine HI.out.mono ?_; rintro e w3 ⟨rfl, hT2⟩; have HT2 := Lib.hid hT2; have hcell := HCe.out _ hT2.fr; clear hT2 HI)
          go_roundw
          case rel => exact ⟨i + 1, by omega, by omega, by go_num, by rw [cF_late HB.out], HT2.out⟩
          case measure => simp [intOf]; omega
      · have hd : decide (i < n ∧ i < 30) = false := by simpa using hlt
        rw [hd]
        clear hd
        have HI := Lib.hid (HT1.out.open (by omega) hl0 HW.out)
        go_wp2_with (go_at_call 26; refine HI.out.mono ?_; rintro e w3 ⟨rfl, hT2⟩; have HT2 := Lib.hid hT2; clear hT2 HI)
        go_loopw [14] (fun jv wr => ∃ j : Nat, j ≤ i ∧ jv = .int .i64 j ∧ LoAt w d latch i (i + 1) wr) (fun jv _ => 30 - (intOf jv).toNat)
        case atStart => exact ⟨0, Nat.zero_le _, rfl, HT2.out⟩
        case round =>
          obtain ⟨j, hj, rfl, hT⟩ := hrel
          have HT3 := Lib.hid hT
          clear hT HT2 HT1
          go_upto_region 19 with fail
          go_cut [88] (fun bv wx => wr = wx ∧ bv = .bool (decide (j < i)))
          case first =>
            by_cases h1 : j < n
            · go_wp2_with fail
              go_meet
              exact ⟨rfl, by congr 1; simp; omega⟩
            · go_wp2_with fail
              go_meet
              exact ⟨rfl, by congr 1; simp; omega⟩
          case rest =>
          obtain ⟨rfl, rfl⟩ := hcut
          by_cases hji : j < i
          · have hd : decide (j < i) = true := by simpa using hji
            rw [hd]
            clear hd
            have HI := Lib.hid (HT3.out.await hl0 HW.out hji (by omega))
            go_wp2_with (go_at_call 25; refine HI.out.mono ?_; rintro e w4 ⟨rfl, hT4⟩; have HT4 := Lib.hid hT4; clear hT4 HI)
            go_roundw
            case rel => exact ⟨j + 1, by omega, by go_num, HT4.out⟩
            case measure => simp [intOf]; omega
          · have hd : decide (j < i) = false := by simpa using hji
            rw [hd]
            clear hd
            have HI := Lib.hid (HT3.out.open (by omega) hl0 HW.out)
            go_wp2_with (go_at_call 26; refine HI.out.mono ?_; rintro e w4 ⟨rfl, hF⟩; have HF := Lib.hid hF; clear hF HI)
            go_ret
            exact ⟨rfl, bel_of HF.out (Nat.le_refl _)⟩

end Go.Proofs.Ytnonidoeakhfdaa
