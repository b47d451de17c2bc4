/- Picks, and what a crash leaves of one file. -/
import Derived.Test.YtpeafckomahjgaaGreatDoorDB7
namespace Go.Proofs.YtpeafckomahjgaaGreatDoor
open Go.RowKit Go.Maps Go.Sort
set_option linter.unusedVariables false

/-- A list of picks, lying in block g. -/
structure PicksAt (w : World) (g : Nat) (A : Option Addr) (n c : Nat) (ps : List Int) : Prop where
  len : n = ps.length
  cap : n ≤ c ∧ c ≤ 9223372036854775807
  rng : ∀ p ∈ ps, -9223372036854775808 ≤ p ∧ p ≤ 9223372036854775807
  at_ : 0 < n → ∃ off, A = some ⟨g, off, none⟩ ∧ ∀ j (hj : j < ps.length), w.cell? ⟨g, off + j, none⟩ = some (.int .i64 ps[j])

theorem PicksAt.of {w w' : World} {g : Nat} {A : Option Addr} {n c : Nat} {ps : List Int} (h : PicksAt w g A n c ps) (hk : 0 < n → w'.heap[g]? = w.heap[g]?) : PicksAt w' g A n c ps :=
  ⟨h.len, h.cap, h.rng, fun hn => by
    obtain ⟨off, e, hc⟩ := h.at_ hn
    exact ⟨off, e, fun j hj => (World.cell?_of_block (w := w) (hk hn)).trans (hc j hj)⟩⟩
theorem PicksAt.lt {w : World} {g : Nat} {A : Option Addr} {n c : Nat} {ps : List Int} (h : PicksAt w g A n c ps) (hn : 0 < n) : g < w.heap.size := by
  obtain ⟨off, e, hc⟩ := h.at_ hn
  exact World.block_lt_of_cell? w _ (hc 0 (by have := h.len; omega))
theorem PicksAt.nil {w : World} {g c : Nat} {A : Option Addr} (hc : c ≤ 9223372036854775807) : PicksAt w g A 0 c [] := ⟨rfl, ⟨Nat.zero_le _, hc⟩, by simp, fun h => absurd h (by omega)⟩
theorem PicksAt.fr {F : Nat → Prop} {w w' : World} {g : Nat} {A : Option Addr} {n c : Nat} {ps : List Int} (h : PicksAt w g A n c ps) (hf : Fr F w w') (hg : 0 < n → ¬ F g) : PicksAt w' g A n c ps :=
  h.of fun hn => hf.block g (h.lt hn) (hg hn)

def pickN (ps : List Int) (most : Int) : Int := match ps with | [] => 0 | p :: _ => pickOf p % (most + 1)
theorem pickN_bd (ps : List Int) (most : Int) (h : 0 ≤ most) : 0 ≤ pickN ps most ∧ pickN ps most ≤ most := by
  unfold pickN
  cases ps with
  | nil => simp; omega
  | cons p t =>
    have h1 := Int.emod_nonneg (pickOf p) (show most + 1 ≠ 0 by omega)
    have h2 := Int.emod_lt_of_pos (pickOf p) (show 0 < most + 1 by omega)
    simp only
    omega

theorem pick_any (g : Nat) (A : Option Addr) (n c : Nat) (ps : List Int) (most : Int) (w : World) (h : PicksAt w g A n c ps) (hm0 : 0 ≤ most) (hm1 : most < 9223372036854775807) :
    Calls Tryz.prog 61 #[.slice A n c, .int .i64 most] w fun e w' => ∃ A' n' c' k, e = .returned (.tuple #[.int .i64 (pickN ps most), .slice A' n' c']) ∧ w' = w.drewN k ∧ PicksAt w g A' n' c' ps.tail := by
  cases ps with
  | nil =>
    have hn : n = 0 := h.len
    subst hn
    refine (pick_none A c most w).mono ?_
    rintro e w' ⟨rfl, rfl⟩
    exact ⟨none, 0, 0, 0, rfl, rfl, PicksAt.nil (by omega)⟩
  | cons p t =>
    have hn : n = t.length + 1 := by simpa using h.len
    obtain ⟨off, rfl, hc⟩ := h.at_ (by omega)
    have hp := h.rng p (by simp)
    have h0 := hc 0 (by simp)
    refine (pick_some ⟨g, off, none⟩ n c p most w (by omega) h.cap.1 h.cap.2 (by simpa using h0) hp.1 hp.2 hm0 hm1).mono ?_
    rintro e w' ⟨rfl, k, rfl⟩
    refine ⟨_, _, _, k, rfl, rfl, ⟨by simp [hn], ⟨by have := h.cap; omega, by have := h.cap; omega⟩, fun q hq => h.rng q (by simp [List.mem_of_mem_tail (l := p :: t) hq] ), fun hn' => ?_⟩⟩
    have hc1 : c ≠ 1 := by have := h.cap; omega
    refine ⟨off + 1, by rw [if_neg hc1]; simp [Addr.add], fun j hj => ?_⟩
    have := hc (j + 1) (by simpa using hj)
    rw [show off + 1 + j = off + (j + 1) by omega]
    simpa using this

/-- A file behind a crash, and the picks that are left. -/
def FR.crash (r : FR) (ps : List Int) : FR :=
  if r.firm < r.bytes.length then { bytes := r.bytes.take (r.firm + (pickN ps (r.bytes.length - r.firm)).toNat), firm := r.firm + (pickN ps (r.bytes.length - r.firm)).toNat }
  else { bytes := r.bytes, firm := r.bytes.length }
def FR.rest (r : FR) (ps : List Int) : List Int := if r.firm < r.bytes.length then ps.tail else ps

theorem fcrash_end {w w2 : World} {k gr vc N : Nat} {r : FR} {ps : List Int} {T : Int} (hb : Blk w k 122 #[.slice (some ⟨gr, 0, none⟩) r.bytes.length vc, .int .i64 r.firm]) (ho : w.ownsRow 0 5 1 (.slice (some ⟨gr, 0, none⟩) r.bytes.length vc) r.bytes.length (r.bytes.map byteV))
    (hT : pickN ps ((r.bytes.length : Int) - r.firm) = T) (hw : w2 = w.drewN N) (ht : r.firm < r.bytes.length) (ht0 : 0 ≤ T) (ht1 : T ≤ (r.bytes.length : Int) - r.firm) :
    Fr (One k) w (((w2.setCell ⟨k, 0, none⟩ (.slice (some ⟨gr, 0, none⟩) ((r.firm : Int) + T).toNat vc)).setCell ⟨k, 1, none⟩ (.int .i64 (max ((r.firm : Int) + T) 0))).drew) ∧
    Blk (((w2.setCell ⟨k, 0, none⟩ (.slice (some ⟨gr, 0, none⟩) ((r.firm : Int) + T).toNat vc)).setCell ⟨k, 1, none⟩ (.int .i64 (max ((r.firm : Int) + T) 0))).drew) k 122 #[.slice (some ⟨gr, 0, none⟩) ((r.firm : Int) + T).toNat vc, .int .i64 (r.crash ps).firm] ∧
    (((w2.setCell ⟨k, 0, none⟩ (.slice (some ⟨gr, 0, none⟩) ((r.firm : Int) + T).toNat vc)).setCell ⟨k, 1, none⟩ (.int .i64 (max ((r.firm : Int) + T) 0))).drew).ownsRow 0 5 1 (.slice (some ⟨gr, 0, none⟩) ((r.firm : Int) + T).toNat vc) (r.crash ps).bytes.length ((r.crash ps).bytes.map byteV) := by
  subst hw
  have e1 : ((r.firm : Int) + T).toNat = r.firm + T.toNat := by omega
  have e2 : max ((r.firm : Int) + T) 0 = ((r.firm + T.toNat : Nat) : Int) := by omega
  have e3 : r.crash ps = { bytes := r.bytes.take (r.firm + T.toNat), firm := r.firm + T.toNat } := by unfold FR.crash; rw [if_pos ht, hT]
  rw [e1, e2, e3]
  have hkg : gr ≠ k := own_blk_ne ho rfl hb (by decide)
  have hl : (r.bytes.take (r.firm + T.toNat)).length = r.firm + T.toNat := by rw [List.length_take]; omega
  refine ⟨((((Fr.refl _ w).drewN N).set1 0 _).set1 1 _).drew, ?_, ?_⟩
  · have hb' : Blk (w.drewN N) k 122 #[.slice (some ⟨gr, 0, none⟩) r.bytes.length vc, .int .i64 r.firm] := hb
    exact (hb'.set_ 0 _).set_ 1 _
  · rw [hl, List.map_take]
    refine own_of (own_take ho (r.firm + T.toNat) (by omega)) (fun j hj => ?_)
    have : j = gr := by simpa [Value.ownBlock] using hj.symm
    subst this
    exact (Below.heap_setCell _ _ _ _ hkg).trans (Below.heap_setCell _ _ _ _ hkg)

set_option maxRecDepth 100000 in
set_option maxHeartbeats 2000000 in
theorem fcrash_some (k : Nat) (v : Value) (r : FR) (g : Nat) (A : Option Addr) (n c : Nat) (ps : List Int) (w : World) (hb : Blk w k 122 #[v, .int .i64 r.firm]) (ho : w.ownsRow 0 5 1 v r.bytes.length (r.bytes.map byteV)) (hlen : r.bytes.length ≤ 16777216)
    (hp : PicksAt w g A n c ps) (ht : r.firm < r.bytes.length) :
    Calls Tryz.prog 65 #[.pointer (some ⟨k, 0, none⟩), .slice A n c] w fun e w' => ∃ A' n' c' v', e = .returned (.slice A' n' c') ∧ PicksAt w g A' n' c' ps.tail ∧
      Fr (One k) w w' ∧ Blk w' k 122 #[v', .int .i64 (r.crash ps).firm] ∧ w'.ownsRow 0 5 1 v' (r.crash ps).bytes.length ((r.crash ps).bytes.map byteV) ∧ v'.ownBlock = v.ownBlock := by
  obtain ⟨vA, vc, rfl⟩ := len_row ho
  have c0 : w.cell? ⟨k, 0, none⟩ = some (.slice vA r.bytes.length vc) := hb.cell 0
  have c1 : w.cell? ⟨k, 1, none⟩ = some (.int .i64 r.firm) := hb.cell 1
  have z0 := hb.frozen 0
  have z1 := hb.frozen 1
  have e1 : IntKind.i64.wrap ((r.bytes.length : Int) - r.firm) = (r.bytes.length : Int) - r.firm := IntWalk.i64_in _ (by omega)
  obtain ⟨gr, hvA, hvc, hvm⟩ : ∃ gr, vA = some ⟨gr, 0, none⟩ ∧ r.bytes.length ≤ vc ∧ vc ≤ 9223372036854775807 := by
    rcases ho.2 with ⟨_, h0⟩ | ⟨gr, cap, cur, e, _, _, h1, h2, _⟩
    · omega
    · cases e; exact ⟨gr, rfl, h1, by unfold maxLen at h2; omega⟩
  subst hvA
  obtain ⟨ht0, ht1⟩ := pickN_bd ps ((r.bytes.length : Int) - r.firm) (by omega)
  generalize hT : pickN ps ((r.bytes.length : Int) - r.firm) = T at *
  have e2 : IntKind.i64.wrap ((r.firm : Int) + T) = (r.firm : Int) + T := IntWalk.i64_in _ (by omega)
  have HB := Lib.hid hb
  have HO := Lib.hid ho
  have HP := Lib.hid hp
  have HT := Lib.hid hT
  have HE2 := Lib.hid e2
  clear hb ho hp hT e2
  go_enter Tryz.func65, Tryz.ntmps65
  go_wp2_with fail
  go_quiet (fail)
  go_wp2_with fail
  clear e1
  have hpk := pick_any g A n c ps ((r.bytes.length : Int) - r.firm) (w.drewN nq) (HP.out.of (fun _ => rfl)) (by omega) (by omega)
  refine hpk.mono ?_
  rintro e w2 ⟨A', n', c', kk, rfl, hw2, hp2⟩
  rw [HT.out]
  have HP2 := Lib.hid hp2
  have d0 : w2.cell? ⟨k, 0, none⟩ = some (.slice (some ⟨gr, 0, none⟩) r.bytes.length vc) := by rw [hw2]; exact c0
  have d1 : w2.cell? ⟨k, 1, none⟩ = some (.int .i64 r.firm) := by rw [hw2]; exact c1
  have y0 : w2.frozen? ⟨k, 0, none⟩ = false := by rw [hw2]; exact z0
  have y1 : w2.frozen? ⟨k, 1, none⟩ = false := by rw [hw2]; exact z1
  have HW2 := Lib.hid hw2
  clear hp2 hw2 c0 c1 z0 z1 hpk
  go_wp2_with fail
  have b1 : (0 : Int) ≤ (r.firm : Int) + T := by omega
  have b2 : (r.firm : Int) + T ≤ (vc : Int) := by omega
  have e2 := HE2.out
  go_still_tail 12, (by kernel_rfl)
  change wpList _ _ _ _ _ (World.drew _)
  go_wp2
  go_ret
  obtain ⟨q1, q2, q3⟩ := fcrash_end HB.out HO.out HT.out (HW2.out.trans (World.drewN_drewN _ _ _)) ht ht0 ht1
  exact ⟨A', n', c', _, rfl, PicksAt.of (w := w.drewN nq) HP2.out (fun hn => rfl), q1, q2, q3, rfl⟩


set_option maxRecDepth 100000 in
set_option maxHeartbeats 2000000 in
theorem fcrash_none (k : Nat) (v : Value) (r : FR) (A : Option Addr) (n c : Nat) (w : World) (hb : Blk w k 122 #[v, .int .i64 r.firm]) (ho : w.ownsRow 0 5 1 v r.bytes.length (r.bytes.map byteV)) (hlen : r.bytes.length ≤ 16777216)
    (ht : ¬ r.firm < r.bytes.length) (hfl : r.firm ≤ r.bytes.length) :
    Calls Tryz.prog 65 #[.pointer (some ⟨k, 0, none⟩), .slice A n c] w fun e w' => e = .returned (.slice A n c) ∧
      Fr (One k) w w' ∧ Blk w' k 122 #[v, .int .i64 r.bytes.length] ∧ w'.ownsRow 0 5 1 v r.bytes.length (r.bytes.map byteV) := by
  obtain ⟨vA, vc, rfl⟩ := len_row ho
  have c0 : w.cell? ⟨k, 0, none⟩ = some (.slice vA r.bytes.length vc) := hb.cell 0
  have c1 : w.cell? ⟨k, 1, none⟩ = some (.int .i64 r.firm) := hb.cell 1
  have z0 := hb.frozen 0
  have z1 := hb.frozen 1
  have e1 : IntKind.i64.wrap ((r.bytes.length : Int) - r.firm) = (r.bytes.length : Int) - r.firm := IntWalk.i64_in _ (by omega)
  have t1 : decide ((0 : Int) < (r.bytes.length : Int) - r.firm) = false := by simp; omega
  have HB := Lib.hid hb
  have HO := Lib.hid ho
  clear hb ho
  go_enter Tryz.func65, Tryz.ntmps65
  go_wp2_with fail
  go_quiet (fail)
  clear e1
  go_wp2
  go_ret
  have hb' : Blk (w.drewN nq) k 122 #[.slice vA r.bytes.length vc, .int .i64 r.firm] := HB.out
  refine ⟨rfl, ((Fr.refl _ w).drewN nq).set1 1 _, hb'.set_ 1 _, own_of HO.out (fun j hj => Below.heap_setCell _ _ _ _ (own_blk_ne HO.out hj HB.out (by decide)))⟩

/-- A file's crash, whatever is loose. -/
theorem fcrash_any (k : Nat) (v : Value) (r : FR) (g : Nat) (A : Option Addr) (n c : Nat) (ps : List Int) (w : World) (hb : Blk w k 122 #[v, .int .i64 r.firm]) (ho : w.ownsRow 0 5 1 v r.bytes.length (r.bytes.map byteV)) (hlen : r.bytes.length ≤ 16777216) (hfl : r.firm ≤ r.bytes.length)
    (hp : PicksAt w g A n c ps) (hgk : 0 < n → g ≠ k) :
    Calls Tryz.prog 65 #[.pointer (some ⟨k, 0, none⟩), .slice A n c] w fun e w' => ∃ A' n' c' v', e = .returned (.slice A' n' c') ∧ PicksAt w' g A' n' c' (r.rest ps) ∧
      Fr (One k) w w' ∧ Blk w' k 122 #[v', .int .i64 (r.crash ps).firm] ∧ w'.ownsRow 0 5 1 v' (r.crash ps).bytes.length ((r.crash ps).bytes.map byteV) ∧ v'.ownBlock = v.ownBlock := by
  by_cases ht : r.firm < r.bytes.length
  · rw [show r.rest ps = ps.tail from by unfold FR.rest; rw [if_pos ht]]
    refine (fcrash_some k v r g A n c ps w hb ho hlen hp ht).mono ?_
    rintro e w' ⟨A', n', c', v', he, hp', hf, h1, h2, h3⟩
    exact ⟨A', n', c', v', he, hp'.of fun hn => by
      have h0 : 0 < n := by have a := hp'.len; have b := hp.len; have := List.length_tail (l := ps); omega
      exact hf.block g (hp.lt h0) (hgk h0), hf, h1, h2, h3⟩
  · rw [show r.rest ps = ps from by unfold FR.rest; rw [if_neg ht], show r.crash ps = { bytes := r.bytes, firm := r.bytes.length } from by unfold FR.crash; rw [if_neg ht]]
    refine (fcrash_none k v r A n c w hb ho hlen ht hfl).mono ?_
    rintro e w' ⟨he, hf, h1, h2⟩
    exact ⟨A, n, c, v, he, hp.fr hf hgk, hf, h1, h2, rfl⟩

end Go.Proofs.YtpeafckomahjgaaGreatDoor
