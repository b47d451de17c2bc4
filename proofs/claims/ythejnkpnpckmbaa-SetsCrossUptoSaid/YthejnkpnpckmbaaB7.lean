/- The closure that chooses, whole. -/
import Derived.Test.YthejnkpnpckmbaaB6
import Derived.Deep.DrawnRows
namespace Go.Proofs.Ythejnkpnpckmbaa
open Go.RowKit Go.Maps
set_option linter.unusedVariables false
attribute [local go_sem ↓] Go.wp_at_zero Go.wp_at_succ

theorem row_at {α : Type} {X : Nat → Prop} {w : World} {E : EG α} {A : Option Addr} {c : Nat} {ls : List α} (h : RowE X w 1 (E X w) (.slice A ls.length c) ls) {k : Nat} (hk : k < ls.length) :
    ∃ g off cs, A = some ⟨g, off, none⟩ ∧ X g ∧ g < w.heap.size ∧ cs.length = 1 ∧ (∀ i, i < 1 → w.cell? ⟨g, off + k * 1 + i, none⟩ = cs[i]?) ∧ E X w ls[k] cs := by
  obtain ⟨A0, c0, e0, _, _, hrow⟩ := h
  injection e0 with e1 e2 e3
  subst e1
  obtain ⟨g, off, e, hX, hg, hel⟩ := hrow (by omega)
  obtain ⟨cs, h1, h2, h3⟩ := hel k hk
  exact ⟨g, off, cs, e, hX, hg, h1, h2, h3⟩
set_option maxRecDepth 100000 in
set_option maxHeartbeats 2000000 in
theorem choose_step {X : Nat → Prop} {cb lb fb b0 : Nat} {ls : List (List Nat)} {acc : List Nat} {w : World} (s k : Nat) (c : List Nat) (cs : List (List Nat)) (h : CS X cb lb fb b0 ls acc w) (hk : k < ls.length) (hc : ls[k] = c) (hs : s < 64) (hx : ∀ x ∈ c, x < 64)
    (IH : ∀ (s : Nat) (acc : List Nat) (w : World), s < 64 → acc.length + (choose s cs).length ≤ 1000000 → CS X cb lb fb b0 ls acc w → Calls Try.prog 34 #[.int .i64 (s : Int), .int .i64 ((k : Int) + 1), pt cb, pt lb, pt fb] w (ChP X cb lb fb b0 ls (acc ++ choose s cs) w))
    (hlen : acc.length + (flatC s c cs).length ≤ 1000000) :
    Calls Try.prog 34 #[.int .i64 (s : Int), .int .i64 (k : Int), pt cb, pt lb, pt fb] w (ChP X cb lb fb b0 ls (acc ++ flatC s c cs) w) := by
  obtain ⟨A1, c1, hcb, hrow⟩ := h.ch
  obtain ⟨g1, o1, cs1, rfl, hX1, hg1, _, hcs1, v1, hv1, _, hr1⟩ := row_at hrow hk
  rw [hc] at hr1
  obtain ⟨A2, n, c2, rfl, hn⟩ := row_form hr1
  have d1 : w.cell? ⟨cb, 0, none⟩ = some (.slice (some ⟨g1, o1, none⟩) ls.length c1) := hcb.cell 0
  have d2 : w.cell? ⟨g1, o1 + k, none⟩ = some (.slice A2 n c2) := by have := hcs1 0 (by decide); rw [hv1] at this; simpa using this
  have HX := h.xs
  have HXL := Lib.hid h.xl
  have HR1 := Lib.hid hr1
  have HIH := Lib.hid IH
  have HXB := Lib.hid hx
  have HS := Lib.hid hs
  have HN := Lib.hid hn
  have HCS : Hid (CS X cb lb fb b0 ls (acc ++ flatC s (c.take 0) cs) w) := Lib.hid (by rw [show flatC s (c.take 0) cs = [] from rfl, List.append_nil]; exact h)
  have HLEN := Lib.hid hlen
  have hlc1 : ls.length ≤ c1 ∧ c1 ≤ maxLen := by
    obtain ⟨A0, c0, e0, h1, h2, _⟩ := hrow
    injection e0 with e1 e2 e3
    subst e3
    exact ⟨h1, h2⟩
  have hlc2 : n ≤ c2 ∧ c2 ≤ maxLen := by
    obtain ⟨A0, c0, e0, h1, h2, _⟩ := hr1
    injection e0 with e1 e2 e3
    subst e3
    exact ⟨by rw [hn]; exact h1, h2⟩
  unfold maxLen at hlc1 hlc2
  obtain ⟨q1, q2⟩ := hlc1
  obtain ⟨q3, q4⟩ := hlc2
  have hneq : ((k : Int) == (ls.length : Int)) = false := by simp; omega
  have hki : (k : Int) < (ls.length : Int) := by omega
  clear hrow hcs1 hv1 hr1 hcb h hs hx hn IH hlen hc hk
  generalize ls.length = L at *
  go_enter Try.func34, Try.ntmps34
  go_wp2_with fail
  go_loopg [8, 22] n (fun g r8 r22 wr => Hid (∃ j : Nat, r22 = .int .i64 (j : Nat) ∧ j + g = n ∧ CS X cb lb fb b0 ls (acc ++ flatC s (c.take j) cs) wr ∧ Fr (NX X) w wr))
  case atStart => exact Lib.hid ⟨0, rfl, by omega, HCS.out, Fr.refl _ _⟩
  case round =>
  obtain ⟨j, rfl, hjn, hcs, hf⟩ := hrel.out
  clear hrel
  have HC := Lib.hid hcs
  have HF := Lib.hid hf
  by_cases hj : j < n
  · have hji : (j : Int) < (n : Int) := by omega
    have hjl : j < c.length := by rw [← HN.out]; exact hj
    have hr2 : RowE X wr 1 (natG X wr) (.slice A2 n c2) c := HR1.out.mono (fun k hk hl => ⟨hk, hf.block k hl fun hn => hn hk⟩) fun x cs hx => hx
    rw [HN.out] at hr2
    obtain ⟨g2, o2, cs2, rfl, _, _, _, hcs2, hE⟩ := row_at (E := natG) hr2 hjl
    have e0 : wr.cell? ⟨g2, o2 + j, none⟩ = some (.int .i64 (c[j] : Nat)) := by have := hcs2 0 (by decide); rw [hE] at this; simpa using this
    have hT := flatC_take (s := s) (cs := cs) hjl
    have hx64 : c[j] < 64 := HXB.out _ (List.getElem_mem _)
    obtain ⟨x, hx⟩ : ∃ x, c[j] = x := ⟨_, rfl⟩
    rw [hx] at e0 hT hx64
    obtain ⟨z, hz⟩ : ∃ z, s ||| x = z := ⟨_, rfl⟩
    have hz64 : z < 64 := by rw [← hz]; exact or64 HS.out hx64
    rw [hz] at hT
    have HT := Lib.hid hT
    have hle : (acc ++ flatC s (c.take j) cs).length + (choose z cs).length ≤ 1000000 := by
      have h1 := HLEN.out
      have h2 := flatC_le (s := s) (c := c) (cs := cs) (j + 1)
      rw [hT, List.length_append] at h2
      rw [List.length_append]; omega
    have HI : Hid (∀ wx, Fr No wr wx → Calls Try.prog 34 #[.int .i64 (z : Int), .int .i64 ((k : Int) + 1), pt cb, pt lb, pt fb] wx (ChP X cb lb fb b0 ls (acc ++ flatC s (c.take (j + 1)) cs) wx)) := Lib.hid fun wx fx => by
      rw [HT.out, ← List.append_assoc]
      exact HIH.out z _ wx hz64 hle (HC.out.keep fx)
    have HU : Hid (∀ wx h, Blk wx h 3 #[.int .i64 (s : Int), .int .i64 (x : Int)] → Calls Try.prog 33 #[.slice (some ⟨h, 0, none⟩) 2 2] wx (TellsI (z : Nat) wx)) := Lib.hid fun wx h hb => by
      have hr : RowE (fun _ => True) wx 1 (natG (fun _ => True) wx) (.slice (some ⟨h, 0, none⟩) 2 2) [s, x] := ⟨_, 2, rfl, by simp, by unfold maxLen; omega, fun _ => ⟨h, 0, rfl, trivial, hb.lt, fun i hi => by
        rcases i with _ | _ | i
        · exact ⟨[_], rfl, fun i hi => by obtain rfl : i = 0 := by omega
                                          exact hb.cell 0, rfl⟩
        · exact ⟨[_], rfl, fun i hi => by obtain rfl : i = 0 := by omega
                                          exact hb.cell 1, rfl⟩
        · simp at hi; omega⟩⟩
      have := union_any wx hr (by intro y hy; simp at hy; rcases hy with rfl | rfl; exact HS.out; exact hx64)
      rw [show uni [s, x] = z by rw [← hz]; simp [uni]] at this
      exact this
    have f0 : wr.cell? ⟨fb, 0, none⟩ = some (chv cb lb fb) := HC.out.fn.cell 0
    have HFB : Hid (∀ wx, Fr No wr wx → wx.cell? ⟨fb, 0, none⟩ = some (chv cb lb fb)) := Lib.hid fun wx fx => (HC.out.keep fx).fn.cell 0
    obtain ⟨w2, hw2⟩ : ∃ w2, (wr.alloc (.cells #[.int .i64 (s : Int), .int .i64 (x : Int)] 3)).drew = w2 := ⟨_, rfl⟩
    obtain ⟨y, hy⟩ : ∃ y, wr.heap.size = y := ⟨_, rfl⟩
    have HW2 := Lib.hid hw2
    have f2a : (wr.alloc (.cells #[.int .i64 (s : Int), .int .i64 (x : Int)] 3)).cell? ⟨fb, 0, none⟩ = some (.func (.func 34) #[] #[.pointer (some ⟨cb, 0, none⟩), .pointer (some ⟨lb, 0, none⟩), .pointer (some ⟨fb, 0, none⟩)]) := HFB.out _ ((Fr.refl No wr).alloc _)
    have hfb : fb < wr.heap.size := HC.out.fn.lt
    have hfb2 : (fb == wr.heap.size) = false := by simp; omega
    have HY := Lib.hid hy
    have HF2 : Hid (Fr No wr w2) := Lib.hid (by rw [← hw2]; exact ((Fr.refl No wr).alloc _).drew)
    have HU2 := Lib.hid (HU.out w2 y (by rw [← hw2, ← hy]; exact Blk.new wr 3 _))
    clear hcs hf hr2 hcs2 hE hT hx hz hw2 hy hle hx64 HC HT
    have HWK : Hid (IntKind.i64.wrap ((k : Int) + 1) = (k : Int) + 1) := Lib.hid (by rw [IntKind.wrap_i64]; omega)
    go_upto_region 5 with fail
    go_region_with (first
        | (go_at_call 33; rw [HY.out, HW2.out]; (with_reducible refine HU2.out.mono ?_); rintro e w3 ⟨rfl, f3⟩; have HF3 := Lib.hid (HF2.out.trans f3 fun _ _ h => h); have f3' := HFB.out _ HF3.out; clear f3)
        | (go_at_call 34; rw [HWK.out]; (with_reducible refine (HI.out _ HF3.out).mono ?_); rintro e w4 ⟨rfl, hc4, f4⟩; have HC4 := Lib.hid hc4; have HF4 := Lib.hid f4; clear hc4 f4))
    all_goals
      go_wp2_with fail
      obtain ⟨g3, rfl⟩ : ∃ g3, gk = g3 + 1 := ⟨gk - 1, by omega⟩
      go_roundg g3
      case rel => exact Lib.hid ⟨j + 1, by go_num, by omega, HC4.out, (HF.out.trans HF3.out.any fun _ _ h => h).trans HF4.out fun _ _ h => h⟩
      all_goals omega
  · have hji : (n : Int) ≤ (j : Int) := by omega
    have HT : Hid (c.take j = c) := Lib.hid (List.take_of_length_le (by rw [← HN.out]; omega))
    clear hcs hf
    go_wp2_with fail
    go_end0
    have := HC.out
    rw [HT.out] at this
    exact ⟨rfl, this, HF.out⟩
theorem choose_any {X : Nat → Prop} {cb lb fb b0 : Nat} {ls : List (List Nat)} : ∀ (rest : List (List Nat)) (k s : Nat) (acc : List Nat) (w : World), ls.drop k = rest → k ≤ ls.length → s < 64 → (∀ c ∈ rest, ∀ x ∈ c, x < 64) → acc.length + (choose s rest).length ≤ 1000000 → CS X cb lb fb b0 ls acc w →
    Calls Try.prog 34 #[.int .i64 (s : Int), .int .i64 (k : Int), pt cb, pt lb, pt fb] w (ChP X cb lb fb b0 ls (acc ++ choose s rest) w)
  | [], k, s, acc, w, hd, hk, hs, hx, hl, h => by
    have : k = ls.length := by
      have := congrArg List.length hd
      rw [List.length_drop, List.length_nil] at this
      omega
    have e : choose s [] = [s] := rfl
    rw [e]
    exact choose_end s k h this (by omega)
  | c :: cs, k, s, acc, w, hd, hk, hs, hx, hl, h => by
    have hk2 : k < ls.length := by
      have := congrArg List.length hd
      rw [List.length_drop, List.length_cons] at this
      omega
    rw [List.drop_eq_getElem_cons hk2] at hd
    injection hd with h1 h2
    refine choose_step s k c cs h hk2 h1 hs (hx c (by simp)) (fun s' acc' w' hs' hl' h' => ?_) hl
    have := choose_any cs (k + 1) s' acc' w' h2 (by omega) hs' (fun c' hc' => hx c' (by simp [hc'])) hl' h'
    rwa [show (((k + 1 : Nat)) : Int) = (k : Int) + 1 by omega] at this
end Go.Proofs.Ythejnkpnpckmbaa
