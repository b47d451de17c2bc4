/- One file, written to and synced, and crashed again and again (no program here, but for a pick). -/
import Derived.Test.YtlopbhamlhmpbaaE2
namespace Go.Proofs.Ytlopbhamlhmpbaa
open Go.RowKit Go.Maps Go.Sort
set_option linter.unusedVariables false

theorem lawpick_any (c n : Int) (w : World) (hc : -9223372036854775808 ≤ c ∧ c ≤ 9223372036854775807) (hn : 0 < n ∧ n ≤ 1000) :
    Calls Try.prog 18 #[.int .i64 c, .int .i64 n] w fun e w' => e = .returned (.int .i64 (pickOf c % n)) ∧ w = w' := by
  by_cases h : c < 0
  · have e1 : pickOf c % n = (-(c + 1)).tmod n := by
      unfold pickOf; rw [if_pos h, Int.tmod_eq_emod_of_nonneg (by omega)]
    rw [e1]
    clear e1
    have hne : n ≠ 0 := by omega
    go_enter Try.func18, Try.ntmps18
    go_wp2
    go_ret
    first | exact ⟨rfl, rfl⟩ | exact ⟨by rw [Int.neg_tmod]; rfl, rfl⟩
  · have e1 : pickOf c % n = c % n := by unfold pickOf; rw [if_neg h]
    rw [e1]
    clear e1
    have hne : n ≠ 0 := by omega
    go_enter Try.func18, Try.ntmps18
    go_wp2
    go_ret
    exact ⟨rfl, rfl⟩

def intV (p : Int) : Value := .int .i64 p
theorem picks_row {w : World} {A : Option Addr} {n c B : Nat} {ps : List Int} (h : w.ownsRow B 3 1 (.slice A n c) n (ps.map intV)) (hr : ∀ p ∈ ps, -9223372036854775808 ≤ p ∧ p ≤ 9223372036854775807) :
    ∃ g, PicksAt w g A n c ps ∧ (0 < n → ∃ cs fz, w.heap[g]? = some (.cells cs 3 fz)) := by
  have hl := h.1
  rw [List.length_map] at hl
  rcases h.2 with ⟨e, h0⟩ | ⟨g, cap, cur, e, hb, hh, hn, hm, hs, ht⟩
  · cases e
    have : ps = [] := List.eq_nil_of_length_eq_zero (by omega)
    subst this
    exact ⟨0, PicksAt.nil (by omega), fun hn => absurd hn (by omega)⟩
  · cases e
    refine ⟨g, ⟨by omega, ⟨hn, by unfold maxLen at hm; omega⟩, hr, fun _ => ⟨0, rfl, fun j hj => ?_⟩⟩, fun _ => ⟨_, _, hh⟩⟩
    have := h.cells (g := g) rfl j (intV ps[j]) (by simp [List.getElem?_eq_getElem hj])
    have add : ((⟨g, 0, none⟩ : Addr).add j) = ⟨g, 0 + j, none⟩ := by unfold Addr.add; split <;> simp_all
    rw [add] at this
    exact this

def lF : List UInt8 := [102]
structure FirmInv (S : AS) (all : List UInt8) (fm : Nat) : Prop where
  on : S.on = true
  armed : S.armed = false
  loose : S.loose = []
  firm : S.firm = S.names
  room : S.room = 16777216
  last : S.last ≤ 64
  keys : ∀ s m, look S.names s = some m → s = [102]
  file : ∃ n r, look S.names [102] = some n ∧ S.file n = some r ∧ r.bytes = all ∧ fm ≤ r.firm

theorem FirmInv.check {S : AS} {all : List UInt8} {fm : Nat} (h : FirmInv S all fm) : checkOf S.on [[102]] = 0 := by rw [h.on]; kernel_rfl
theorem FirmInv.read {S : AS} {all : List UInt8} {fm : Nat} (h : FirmInv S all fm) : S.read [102] = (all, 0) := by
  obtain ⟨n, r, hn, hr, hd, _⟩ := h.file
  unfold AS.read
  rw [if_pos h.check, hn]
  simp only [hr, hd]
theorem FirmInv.used {S : AS} {all : List UInt8} {fm : Nat} (h : FirmInv S all fm) (g : Good S.file S.names) : usedOf S.file S.names = all.length := by
  obtain ⟨n, r, hn, hr, hd, _⟩ := h.file
  rw [used_keys g (ks := [[102]]) (by simp) (fun s m hs => by rw [h.keys s m hs]; simp)]
  simp only [List.map_cons, List.map_nil, List.sum_cons, List.sum_nil, Int.add_zero]
  unfold flk
  rw [hn]
  simp only [hr, hd]
theorem FirmInv.size {N : Nat} {S : AS} {all : List UInt8} {fm : Nat} (h : FirmInv S all fm) (hi : Inv N S) : all.length ≤ 16777216 ∧ fm ≤ all.length := by
  obtain ⟨n, r, hn, hr, hd, hf⟩ := h.file
  have := hi.file n r hr
  rw [hd] at this
  omega
theorem FirmInv.write {N : Nat} {S : AS} {all : List UInt8} {fm : Nat} (h : FirmInv S all fm) (hi : Inv N S) (data : List UInt8) (hle : all.length + data.length ≤ 16777216) :
    (S.write [102] data).2 = 0 ∧ FirmInv (S.write [102] data).1 (all ++ data) fm := by
  have hu := h.used hi.names
  obtain ⟨n, r, hn, hr, hd, hf⟩ := h.file
  unfold AS.write
  rw [if_pos h.check, if_neg (by rw [hu, h.room]; omega), hn]
  simp only [hr]
  refine ⟨stepE_calm (S := S.written n r data) h.armed, ?_⟩
  rw [step_calm (S := S.written n r data) h.armed]
  refine ⟨h.on, h.armed, h.loose, h.firm, h.room, h.last, h.keys, ⟨n, { bytes := r.bytes ++ data, firm := r.firm }, hn, ?_, by rw [hd], hf⟩⟩
  exact upd_same _ _ _
theorem FirmInv.sync {S : AS} {all : List UInt8} {fm : Nat} (h : FirmInv S all fm) : (S.sync [102]).2 = 0 ∧ FirmInv (S.sync [102]).1 all all.length := by
  obtain ⟨n, r, hn, hr, hd, hf⟩ := h.file
  obtain ⟨a1, a2, a3, a4, a5, a6, a7, a8, a9, a10⟩ := sync_calm h.armed h.check hn hr
  exact ⟨a1, ⟨a5.trans h.on, a6, a4.trans h.loose, by rw [a3, a2]; exact h.firm, a8.trans h.room, by rw [a7]; exact h.last, by rw [a2]; exact h.keys, ⟨n, _, by rw [a2]; exact hn, a9, hd, by rw [hd]; exact Nat.le_refl _⟩⟩⟩

theorem crash_take (r : FR) (ps : List Int) (h : r.firm ≤ r.bytes.length) : ∃ m, (r.crash ps).bytes = r.bytes.take m ∧ m ≤ r.bytes.length ∧ r.firm ≤ m ∧ (r.crash ps).firm = m := by
  unfold FR.crash
  by_cases hlt : r.firm < r.bytes.length
  · rw [if_pos hlt]
    have := pickN_bd ps ((r.bytes.length : Int) - r.firm) (by omega)
    exact ⟨_, rfl, by omega, by omega, rfl⟩
  · rw [if_neg hlt]
    exact ⟨r.bytes.length, by rw [List.take_length], Nat.le_refl _, h, rfl⟩
theorem FirmInv.crash {N : Nat} {S : AS} {all : List UInt8} {fm : Nat} (h : FirmInv S all fm) (hi : Inv N S) (ps : List Int) : ∃ m, fm ≤ m ∧ m ≤ all.length ∧ FirmInv (S.crashed ps) (all.take m) m := by
  obtain ⟨n, r, hn, hr, hd, hf⟩ := h.file
  have hg : Good S.file S.firm := by rw [h.firm]; exact hi.names
  obtain ⟨c1, c2, c3, c4, c5, c6, c7, c8⟩ := crash_calm ps h.loose hg (l := [102]) (n := n) (r := r) (by rw [h.firm]; exact h.keys) (by rw [h.firm]; exact hn) hr
  obtain ⟨m, m1, m2, m3, m4⟩ := crash_take r ps.tail (hi.file n r hr).2.2.1
  rw [hd] at m1 m2
  refine ⟨m, by omega, m2, ⟨c4, c5, c3, by rw [c1, c2], c7.trans h.room, by rw [c6]; exact h.last, by rw [c1, h.firm]; exact h.keys, ⟨n, _, by rw [c1, h.firm]; exact hn, c8, m1, by rw [m4]; exact Nat.le_refl _⟩⟩⟩
theorem firm_start (S : AS) (hS : S = ((AS.new 16777216).write [102] []).1) (hi : Good S.file S.names) : ((AS.new 16777216).write [102] []).2 = 0 ∧ S.settle.2 = 0 ∧ FirmInv S.settle.1 [] 0 := by
  have hE : checkOf (AS.new 16777216).on [[102]] = 0 := by kernel_rfl
  have h0 : usedOf (AS.new 16777216).file (AS.new 16777216).names = 0 := rfl
  have hrm : (AS.new 16777216).room = 16777216 := by kernel_rfl
  obtain ⟨h1, hso⟩ := new_sole (l := [102]) (data := []) (by kernel_rfl) (by simp)
  obtain ⟨_, hw⟩ := wrote (inv_new 16777216) rfl hE (data := []) (by rw [h0, hrm]; simp) (by decide)
  rw [← hS] at hso hw
  obtain ⟨n, r, hn, hr, hd⟩ := hso.file
  obtain ⟨b1, b2, b3, b4, b5, b6, b7, b8, b9⟩ := settle_calm hso.on hso.armed
  exact ⟨h1, b1, ⟨b5, b6, b4, by rw [b3, b2], (b8.trans hw.room).trans hrm, by rw [b7]; exact hso.last, by rw [b2]; exact hso.keys, ⟨n, r, by rw [b2]; exact hn, (b9 n (keeps_of hi hn)).trans hr, hd, Nat.zero_le _⟩⟩⟩

end Go.Proofs.Ytlopbhamlhmpbaa
