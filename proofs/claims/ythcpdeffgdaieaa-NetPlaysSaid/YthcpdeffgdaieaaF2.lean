/- The law NetPlays, walked. -/
import Derived.Test.YthcpdeffgdaieaaF1
import Derived.Test.YthcpdeffgdaieaaE1
import Derived.Test.YthcpdeffgdaieaaB8
namespace Go.Proofs.Ythcpdeffgdaieaa
open Go.RowKit Go.Maps
set_option linter.unusedVariables false

theorem rzero_at {w : World} {r : Nat} (h : Blk w r 29 #[.int .i64 0, .slice none 0 0]) : RAt w r ⟨.slice none 0 0, fun _ => 0⟩ NS.zero where
  blk := h
  row := World.ownsRow_nil _ _ _ _
  con n hn := by cases hn
  ap n hn := by cases hn
theorem zero_rw : RW NS.zero := ⟨zero_wf, (fun n K hK => by cases hK), by show 0 ≤ 8; omega⟩
theorem plays_start {w2 : World} {X : Nat → Prop} {d : Nat} (h : Nt w2 X d NS.zero) : NN (w2.alloc (.cells #[.int .i64 0, .slice none 0 0] 29)) X d w2.heap.size NS.zero NS.zero := by
  obtain ⟨⟨R, hA, hR⟩, _, ht⟩ := h
  have hfoot : ∀ k, footR w2.heap.size ⟨.slice none 0 0, fun _ => 0⟩ NS.zero k → k = w2.heap.size := fun k hk => by
    rcases hk with hk | hk | ⟨n, hn, _⟩
    · exact hk
    · cases hk
    · cases hn
  refine ⟨⟨R, _, hA.keep ((Fr.refl _ w2).alloc _), rzero_at (Blk.new w2 29 _), hR, fun k hk hx => ?_, fun k hk hq => ?_⟩, fun k hk => by have := ht k hk; simp; omega⟩
  · have := hfoot k hk; have := ht k hx; omega
  · have := hfoot k hq; have := hA.lt k hk; omega

def LoopN (w0 w : World) (d r n : Nat) (iv : Value) : Prop :=
  ∃ (k : Nat) (S : NS), k ≤ n ∧ iv = .int .i64 k ∧ NN w (Old w0.heap.size) d r S S ∧ RW S ∧ S.last ≤ k ∧ Below w0.heap.size w0 w

/-- What lies at place j of both lists. -/
theorem NN.both {w w3 : World} {X : Nat → Prop} {d r : Nat} {S : NS} {v : Value} {base : Nat} (h : NN w3 X d r S S) (hv : w3.ownsRow base 3 1 v S.keys.length (S.keys.map encZ)) :
    ∃ A c A' c', v = .slice A S.keys.length c ∧ w3.cell? ⟨r, 1, none⟩ = some (.slice A' S.keys.length c') ∧ ∀ j, j < S.keys.length → ∃ g g' b n, A = some ⟨g, 0, none⟩ ∧ A' = some ⟨g', 0, none⟩ ∧
      w3.cell? ⟨g, j, none⟩ = some (.int .i64 n) ∧ w3.cell? ⟨g', j, none⟩ = some (.pointer (some ⟨b, 0, none⟩)) ∧ w3.cell? ⟨b, 0, none⟩ = some (.int .i64 n) := by
  obtain ⟨⟨R, Q, hA, hB, x1, x2, x3⟩, ht⟩ := h
  obtain ⟨A', c', hlv⟩ := hB.lv
  have hvf : ∃ A c, v = .slice A S.keys.length c := by
    rcases hv.2 with ⟨e, h0⟩ | ⟨g, cap, cur, e, _⟩
    · exact ⟨none, 0, by rw [e, h0]⟩
    · exact ⟨_, _, e⟩
  obtain ⟨A, c, rfl⟩ := hvf
  refine ⟨A, c, A', c', rfl, by rw [hB.blk.cell 1, ← hlv]; rfl, fun j hj => ?_⟩
  obtain ⟨g', cap', n, K, sh, e1, e2, hn, e3, hc, hb, _⟩ := hB.at_ hj
  rw [hlv] at e1
  cases e1
  obtain ⟨g, cap, ev, _, _⟩ := hv.form (by omega)
  cases ev
  have hcc := hv.cells (g := g) (by rfl) j (encZ n) (by rw [List.getElem?_map, e2]; rfl)
  have e : ((⟨g, 0, none⟩ : Addr).add j) = ⟨g, j, none⟩ := by rw [Addr.add_lit]; simp
  rw [e] at hcc
  exact ⟨g, g', Q.rg n, n, rfl, rfl, hcc, hc, hb.cell 0⟩

set_option maxRecDepth 100000 in
set_option maxHeartbeats 8000000 in
theorem netplays_any (w : World) (g n c : Nat) (A : Option Addr) (os : List OpV) (hs : OpsAt w g A n c os) :
    Calls Try.prog 3 #[.slice A n c] w fun e w' => e = .returned (.bool true) ∧ Below w.heap.size w w' := by
  have HS := Lib.hid hs
  clear hs
  go_enter Try.func3, Try.ntmps3
  go_wp2_with fail
  refine (awake_any _).mono ?_
  rintro e w1 ⟨rfl, b⟩
  have HB := Lib.hid b
  clear b
  go_wp2_with fail
  refine (m_new (Old w.heap.size) fun k hk => Nat.lt_of_lt_of_le hk HB.out.size).mono ?_
  rintro e w2 ⟨d, rfl, h0, f0⟩
  have HB1 := Lib.hid (HB.out.trans (f0.below.mono HB.out.size))
  have HL := Lib.hid (show LoopN w (w2.alloc (.cells #[.int .i64 0, .slice none 0 0] 29)) d w2.heap.size n (.int .i64 0) from ⟨0, NS.zero, Nat.zero_le _, rfl, plays_start h0, zero_rw, by show (0 : Int) ≤ _; omega, HB1.out.trans (((Below.refl _ w2).alloc (Nat.le_refl _) _).mono HB1.out.size)⟩)
  clear HB HB1 f0 h0
  go_wp2_with fail
  obtain ⟨w4, hw4⟩ : ∃ w4, w2.alloc (.cells #[.int .i64 0, .slice none 0 0] 29) = w4 := ⟨_, rfl⟩
  obtain ⟨r, hr⟩ : ∃ r, w2.heap.size = r := ⟨_, rfl⟩
  rw [hw4, hr] at HL ⊢
  clear hw4 hr
  go_loopw [6] (fun iv wr => LoopN w wr d r n iv) (fun iv _ => n - (intOf iv).toNat)
  case atStart => exact HL.out
  case round =>
    obtain ⟨k, S, hk, rfl, hN, hW, hlast, hbel⟩ := hrel
    have HN := Lib.hid hN
    have HW := Lib.hid hW
    have HBe := Lib.hid hbel
    have HLa := Lib.hid hlast
    clear hN hW hbel hlast HL
    by_cases hlt : k < n
    · have hcap := HS.out.cap
      obtain ⟨off, o, rfl, hdat, hok, c0, c1, c2, c3, c4⟩ := (HS.out.below HBe.out).cell hlt
      have HD := Lib.hid (does_any wr (Old w.heap.size) d r S o HN.out HW.out hok (by have := HLa.out; omega))
      clear hdat hok
      go_wp2_with fail
      refine (show Calls Try.prog 9 _ _ _ from HD.out).mono ?_
      rintro e wa ⟨rfl, S', h1, hW1, hl1, f1⟩
      have HN1 := Lib.hid h1
      have HW1 := Lib.hid hW1
      have HB1 := Lib.hid (HBe.out.trans (bel_of f1 HBe.out.size))
      have HL1 := Lib.hid (show S'.last ≤ ((k + 1 : Nat) : Int) by have := HLa.out; omega)
      have h8 := hW1.few
      clear h1 hW1 hl1 f1 HD HN HW HBe HLa c0 c1 c2 c3 c4
      obtain ⟨⟨R, Q, hA, _⟩, _⟩ := HN1.out
      have HC := Lib.hid (conns_call d R S' wa hA HW1.out.wf.right h8)
      clear hA
      go_wp2_with fail
      refine HC.out.mono ?_
      rintro e wb ⟨v, rfl, hrow, hb⟩
      have HN2 := Lib.hid (HN1.out.keep (Fr.of_below hb))
      have HB2 := Lib.hid (HB1.out.trans (hb.mono HB1.out.size))
      obtain ⟨A1, cc, A2, c2, rfl, x1, hall⟩ := NN.both (w := wb) HN2.out hrow
      have HA := Lib.hid hall
      clear hrow hb hall HC HN1 HB1
      go_wp2_with fail
      go_loopw [9] (fun iv wq => ∃ j : Nat, j ≤ S'.keys.length ∧ iv = .int .i64 j ∧ ∃ m, wq = wb.drewN m) (fun iv _ => S'.keys.length - (intOf iv).toNat)
      case atStart => exact ⟨0, Nat.zero_le _, rfl, 0, rfl⟩
      case round =>
        obtain ⟨j, hj, rfl, m, rfl⟩ := hrel
        have y1 : (wb.drewN m).cell? ⟨r, 1, none⟩ = some (.slice A2 S'.keys.length c2) := x1
        by_cases hjl : j < S'.keys.length
        · obtain ⟨g1, g2, b, x, rfl, rfl, z1, z2, z3⟩ := HA.out j hjl
          have u1 : (wb.drewN m).cell? ⟨g1, j, none⟩ = some (.int .i64 x) := z1
          have u2 : (wb.drewN m).cell? ⟨g2, j, none⟩ = some (.pointer (some ⟨b, 0, none⟩)) := z2
          have u3 : (wb.drewN m).cell? ⟨b, 0, none⟩ = some (.int .i64 x) := z3
          clear z1 z2 z3 x1
          obtain ⟨wz, hwz⟩ : ∃ wz, wb.drewN m = wz := ⟨_, rfl⟩
          have HZ := Lib.hid hwz
          rw [hwz] at y1 u1 u2 u3 ⊢
          clear hwz
          go_wp2_with fail
          go_quiet (fail)
          go_wp2
          refine ⟨⟨j + 1, by omega, by go_num, m + _, by rw [← HZ.out]; exact (World.drewN_drewN _ _ _)⟩, by simp [intOf]; omega⟩
        · go_wp2
          refine ⟨⟨k + 1, S', by omega, by go_num, HN2.out.keep ((Fr.refl _ wb).drewN m), HW1.out, HL1.out, HB2.out.trans ((((Fr.refl No wb).drewN m).below).mono HB2.out.size)⟩, by simp [intOf]; omega⟩
    · go_wp2
      go_ret
      exact ⟨rfl, HBe.out⟩

end Go.Proofs.Ythcpdeffgdaieaa
