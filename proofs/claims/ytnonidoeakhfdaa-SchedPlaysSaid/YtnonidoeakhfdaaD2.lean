/- The law SchedTurns, walked. -/
import Derived.Test.YtnonidoeakhfdaaD1
import Derived.Deep.DeepCutAuto
namespace Go.Proofs.Ytnonidoeakhfdaa
open Go.RowKit Go.Maps Go.Sort
set_option linter.unusedVariables false

structure TurnAt (w : World) (d n : Nat) (T : Nat → TS) (u : Nat) (wr : World) : Prop where
  ex : ∃ S, Sc wr (Old w.heap.size) d S ∧ TI S n T u
  fr : Fr (Out (Old w.heap.size)) w wr

theorem TI.congr {S : SS} {n u : Nat} {T T' : Nat → TS} (h : TI S n T u) (hT : ∀ m, m < n → T m = T' m) {u' : Nat} (hu : u ≤ u') : TI S n T' u' :=
  ⟨h.keys, h.last, fun m hm => by rw [h.task m hm, hT m hm], Nat.le_trans h.used hu⟩
theorem TurnAt.congr {w wr : World} {d n u : Nat} {T T' : Nat → TS} (h : TurnAt w d n T u wr) (hT : ∀ m, m < n → T m = T' m) {u' : Nat} (hu : u ≤ u') : TurnAt w d n T' u' wr := by
  obtain ⟨⟨S, h1, h2⟩, h3⟩ := h
  exact ⟨⟨S, h1, h2.congr hT hu⟩, h3⟩
def T0 (m : Nat) : TS := ⟨0, 0, 0⟩
theorem TurnAt.start {w wr : World} {d n u : Nat} (h : TurnAt w d n T0 u wr) (hn : n < 64) (hu : u < 1000000) :
    Calls Try.prog 20 #[.pointer (some ⟨d, 0, none⟩)] wr fun e w' => e = .returned (.tuple #[.int .i64 ((n : Int) + 1), .int .i64 0]) ∧ TurnAt w d (n + 1) T0 (u + 1) w' := by
  obtain ⟨⟨S, h1, h2⟩, h3⟩ := h
  obtain ⟨e1, h4⟩ := h2.start hn
  have := h2.used
  refine (m_start h1 (by omega)).mono ?_
  rintro e w' ⟨rfl, h5, h6⟩
  rw [e1]
  exact ⟨rfl, ⟨_, h5, h4.congr (fun m hm => by unfold T0; split <;> rfl) (Nat.le_refl _)⟩, frO h3 h6⟩
theorem TurnAt.pick0 {w wr : World} {d u : Nat} {T : Nat → TS} (h : TurnAt w d 0 T u wr) (i : Nat) (hi : i ≤ 1000) (hu : u < 1000000) :
    Calls Try.prog 23 #[.pointer (some ⟨d, 0, none⟩), .int .i64 i] wr fun e w' => e = .returned (.tuple #[.int .i64 0, .bool false]) ∧ TurnAt w d 0 T u w' := by
  obtain ⟨⟨S, h1, h2⟩, h3⟩ := h
  have := h2.used
  refine (m_pick h1 i (by omega) (by omega)).mono ?_
  rintro e w' ⟨rfl, h5, h6⟩
  rw [h2.pick0] at h5 ⊢
  exact ⟨rfl, ⟨_, h5, h2⟩, frO h3 h6⟩
def TC (n i m : Nat) : TS := ⟨cnt n i m, 0, 0⟩
theorem TurnAt.pick {w wr : World} {d n i u : Nat} (h : TurnAt w d n (TC n i) u wr) (hn : 0 < n) (hi : i ≤ 1000) (hu : u < 1000000) :
    Calls Try.prog 23 #[.pointer (some ⟨d, 0, none⟩), .int .i64 i] wr fun e w' => e = .returned (.tuple #[.int .i64 ((i : Int) % (n : Int) + 1), .bool true]) ∧ TurnAt w d n (TC n (i + 1)) (u + 1) w' := by
  obtain ⟨⟨S, h1, h2⟩, h3⟩ := h
  have := h2.used
  obtain ⟨e1, h4⟩ := h2.pick (fun m hm => rfl) hn i
  refine (m_pick h1 i (by omega) (by omega)).mono ?_
  rintro e w' ⟨rfl, h5, h6⟩
  rw [e1]
  refine ⟨by simp only [Int.natCast_emod], ⟨_, h5, h4.congr (fun m hm => ?_) (Nat.le_refl _)⟩, frO h3 h6⟩
  unfold TC
  rw [cnt_step hn hm]
  split <;> simp
theorem TurnAt.picks {w wr : World} {d n u : Nat} {T : Nat → TS} (h : TurnAt w d n T u wr) {m : Nat} (hm : m < n) (hn : n ≤ 1000) :
    Calls Try.prog 18 #[.pointer (some ⟨d, 0, none⟩), .int .i64 ((m : Int) + 1)] wr fun e w' => e = .returned (.int .i64 (T m).picks) ∧ wr = w' := by
  obtain ⟨⟨S, h1, h2⟩, h3⟩ := h
  refine (m_picks h1 _ (wf64 (by omega) (by omega))).mono ?_
  rintro e w' ⟨rfl, rfl⟩
  rw [h2.picks hm]
  exact ⟨rfl, rfl⟩

theorem tmod_small (x m : Int) (hm : 0 < m) : -m < x.tmod m ∧ x.tmod m < m := by
  have h1 := Int.tmod_lt_of_pos x hm
  have h2 := Int.tmod_lt_of_pos (-x) hm
  rw [Int.neg_tmod] at h2
  omega

set_option maxRecDepth 100000 in
set_option maxHeartbeats 4000000 in
theorem schedturns_any (w : World) (tasks picks : Int) (ht : -9223372036854775808 ≤ tasks ∧ tasks ≤ 9223372036854775807) (hp : -9223372036854775808 ≤ picks ∧ picks ≤ 9223372036854775807) :
    Calls Try.prog 8 #[.int .i64 tasks, .int .i64 picks] w fun e w' => e = .returned (.bool true) ∧ Below w.heap.size w w' := by
  have b1 := tmod_small tasks 31 (by omega)
  have b2 := tmod_small picks 301 (by omega)
  clear ht hp
  go_enter Try.func8, Try.ntmps8
  go_wp2_with fail
  refine (awake_any _).mono ?_
  rintro e w1 ⟨rfl, b⟩
  have F0 := Lib.hid (frO_bel b)
  have hw1 := b.size
  clear b
  go_wp2_with fail
  refine (m_new (Old w.heap.size) fun k hk => Nat.lt_of_lt_of_le hk hw1).mono ?_
  rintro e w2 ⟨d, rfl, h0, f0⟩
  have HT : Hid (TurnAt w d 0 T0 0 w2) := Lib.hid ⟨⟨_, h0, TI.zero T0⟩, frO F0.out f0.any⟩
  clear h0 f0 F0 hw1
  go_upto_if 22 with fail
  go_cut [7] (fun v wx => w2 = wx ∧ ∃ n : Nat, n ≤ 30 ∧ v = .int .i64 n)
  case first =>
    by_cases hn : tasks.tmod 31 < 0
    · have e1 : IntKind.i64.wrap (-(tasks.tmod 31)) = -(tasks.tmod 31) := IntWalk.i64_in _ (by omega)
      go_wp2_with fail
      go_meet
      exact ⟨rfl, (-(tasks.tmod 31)).toNat, by omega, by rw [Int.toNat_of_nonneg (by omega)]⟩
    · go_wp2_with fail
      go_meet
      exact ⟨rfl, (tasks.tmod 31).toNat, by omega, by rw [Int.toNat_of_nonneg (by omega)]⟩
  case rest =>
  obtain ⟨rfl, n, hn, rfl⟩ := hcut
  clear b1
  go_upto_if 28 with fail
  go_cut [8] (fun v wx => w2 = wx ∧ ∃ k : Nat, k ≤ 300 ∧ v = .int .i64 k)
  case first =>
    by_cases hn : picks.tmod 301 < 0
    · have e1 : IntKind.i64.wrap (-(picks.tmod 301)) = -(picks.tmod 301) := IntWalk.i64_in _ (by omega)
      go_wp2_with fail
      go_meet
      exact ⟨rfl, (-(picks.tmod 301)).toNat, by omega, by rw [Int.toNat_of_nonneg (by omega)]⟩
    · go_wp2_with fail
      go_meet
      exact ⟨rfl, (picks.tmod 301).toNat, by omega, by rw [Int.toNat_of_nonneg (by omega)]⟩
  case rest =>
  obtain ⟨rfl, k, hk, rfl⟩ := hcut
  clear b2
  go_wp2
  go_loopw [9] (fun iv wr => ∃ i : Nat, i ≤ n ∧ iv = .int .i64 i ∧ TurnAt w d i T0 i wr) (fun iv _ => n - (intOf iv).toNat)
  case atStart => exact ⟨0, Nat.zero_le _, rfl, HT.out⟩
  case round =>
    obtain ⟨i, hi, rfl, hT⟩ := hrel
    have HT1 := Lib.hid hT
    clear hT HT
    by_cases hlt : i < n
    · go_wp2_with (go_at_call 20; refine (HT1.out.start (by omega) (by omega)).mono ?_; rintro e w3 ⟨rfl, h1⟩; have HT2 := Lib.hid h1; clear h1)
      go_roundw
      case rel => exact ⟨i + 1, by omega, by go_num, HT2.out⟩
      case measure => simp [intOf]; omega
    · have hin : i = n := by omega
      subst hin
      clear hlt hi
      go_wp2
      go_loopw [10] (fun iv wr => ∃ j : Nat, j ≤ k ∧ iv = .int .i64 j ∧ TurnAt w d i (TC i j) (i + j) wr) (fun iv _ => k - (intOf iv).toNat)
      case atStart => exact ⟨0, Nat.zero_le _, rfl, HT1.out.congr (fun m hm => by unfold T0 TC cnt; simp) (by omega)⟩
      case round =>
        obtain ⟨j, hj, rfl, hT⟩ := hrel
        have HT2 := Lib.hid hT
        clear hT HT1
        by_cases hlt : j < k
        · by_cases hz : i = 0
          · have hc : Calls Try.prog 23 #[.pointer (some ⟨d, 0, none⟩), .int .i64 j] wr fun e w' => e = .returned (.tuple #[.int .i64 0, .bool false]) ∧ TurnAt w d i (TC i (j + 1)) (i + (j + 1)) w' := by
              have h0 := HT2.out
              subst hz
              exact (h0.pick0 j (by omega) (by omega)).mono fun e w' ⟨h1, h2⟩ => ⟨h1, h2.congr (fun m hm => by omega) (by omega)⟩
            obtain ⟨I, hI⟩ : ∃ I : Int, (i : Int) = I := ⟨_, rfl⟩
            have hz' : ¬ (0 : Int) < I := by omega
            have HI := Lib.hid hI
            rw [hI]
            clear hI
            clear hz
            go_wp2_with (go_at_call 23; refine hc.mono ?_; rintro e w3 ⟨rfl, h1⟩; have HT3 := Lib.hid h1; clear h1)
            go_roundw
            case rel => exact ⟨j + 1, by omega, by go_num, HT3.out⟩
            case measure => simp [intOf]; omega
          · have hpos : (0 : Int) < (i : Int) := by omega
            have hj0 : (0 : Int) ≤ (j : Int) := by omega
            have hm0 : 0 ≤ (j : Int) % (i : Int) := Int.emod_nonneg _ (by omega)
            have hm1 : (j : Int) % (i : Int) < (i : Int) := Int.emod_lt_of_pos _ hpos
            go_wp2_with (go_at_call 23; refine (HT2.out.pick (by omega) (by omega) (by omega)).mono ?_; rintro e w3 ⟨rfl, h1⟩; have HT3 := Lib.hid h1; clear h1)
            go_roundw
            case rel => exact ⟨j + 1, by omega, by go_num, HT3.out⟩
            case measure => simp [intOf]; omega
        · have hjk : j = k := by omega
          subst hjk
          clear hlt hj
          go_wp2
          go_loopw [13] (fun iv wr => ∃ m : Nat, m ≤ i ∧ iv = .int .i64 ((m : Int) + 1) ∧ TurnAt w d i (TC i j) (i + j) wr) (fun iv _ => i + 1 - (intOf iv).toNat)
          case atStart => exact ⟨0, Nat.zero_le _, rfl, HT2.out⟩
          case round =>
            obtain ⟨m, hm, rfl, hT⟩ := hrel
            have HT3 := Lib.hid hT
            clear hT HT2
            by_cases hlt : m < i
            · have hc := HT3.out.picks hlt (by omega)
              have hpos : (0 : Int) < (i : Int) := by omega
              have hj0 : (0 : Int) ≤ (j : Int) := by omega
              have hcn : (TC i j m).picks = (j : Int) / (i : Int) ∨ (TC i j m).picks = (j : Int) / (i : Int) + 1 := by
                show cnt i j m = _ ∨ cnt i j m = _
                unfold cnt
                split
                · right; simp
                · left; simp
              have hq0 : 0 ≤ (j : Int) / (i : Int) := Int.ediv_nonneg (by omega) (by omega)
              have hq1 : (j : Int) / (i : Int) ≤ (j : Int) := Int.ediv_le_self _ (by omega)
              rcases hcn with hcn | hcn
              · rw [hcn] at hc
                clear hcn
                go_wp2_with (go_at_call 18; refine hc.mono ?_; rintro e w3 ⟨rfl, rfl⟩)
                go_roundw
                case rel => exact ⟨m + 1, by omega, by go_num, HT3.out⟩
                case measure => simp [intOf]; omega
              · rw [hcn] at hc
                have hb : ((j : Int) / (i : Int) + 1 != (j : Int) / (i : Int)) = true := bne_iff_ne.2 (by omega)
                clear hcn
                go_wp2_with (go_at_call 18; refine hc.mono ?_; rintro e w3 ⟨rfl, rfl⟩)
                go_roundw
                case rel => exact ⟨m + 1, by omega, by go_num, HT3.out⟩
                case measure => simp [intOf]; omega
            · go_wp2
              go_ret
              exact ⟨rfl, bel_of HT3.out.fr (Nat.le_refl _)⟩

end Go.Proofs.Ytnonidoeakhfdaa
