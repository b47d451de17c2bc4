/- Whether a query may be: sets, elements. -/
import Derived.Test.YtpdfenpmnpoehaaGreatDoorR2
namespace Go.Proofs.YtpdfenpmnpoehaaGreatDoor
open Go.RowKit Go.Maps
set_option linter.unusedVariables false

theorem RowE.at_ {α : Type} {K : Nat → Prop} {w w' : World} {size : Nat} {E : EG α} (hE : Elem E) {v : Value} {l : List α} (h : RowE K w size (E K w) v l) (f : Fr No w w') : RowE K w' size (E K w') v l :=
  h.mono (fun k hk hkl => ⟨hk, f.block k hkl id⟩) fun _ _ hx => hE.mono _ _ _ _ _ _ hx fun k hk hkl => ⟨hk, f.block k hkl id⟩
def setB (s : List Tx) : Bool := rightL s 0 16 isNameB
theorem rset_any {K : Nat → Prop} {l : List Tx} {v : Value} (w : World) (hp : Lr w) (h : RowE K w 1 (strG K w) v l) : Calls Tryz.prog 142 #[v] w (TellsB (setB l) w) := by
  have HC := Lib.hid (rl140_any 0 16 (la := 0) (ma := 16) rfl rfl w hp h)
  obtain ⟨A, c, rfl, _⟩ := h
  go_enter Tryz.func142, Tryz.ntmps142
  go_wp2_with fail
  refine HC.out.mono ?_
  rintro e w5 ⟨rfl, f5⟩
  have HF5 := Lib.hid f5
  clear f5
  go_wp2_with fail
  go_ret
  exact ⟨rfl, HF5.out⟩

set_option maxRecDepth 100000 in
theorem rl141_any {K : Nat → Prop} {l : List (List Tx)} {v : Value} (least most : Nat) {la ma : Int} (hla : la = (least : Nat)) (hma : ma = (most : Nat)) (w : World) (hp : Lr w) (h : RowE K w 1 (lsG K w) v l) :
    Calls Tryz.prog 141 #[v, .int .i64 la, .int .i64 ma, .func (.func 142) #[] #[]] w (TellsB (rightL l least most setB) w) := by
  obtain ⟨A, c, rfl, hlc, hcm, hrow⟩ := h
  obtain ⟨n, hn⟩ : ∃ n, l.length = n := ⟨_, rfl⟩
  unfold rightL
  rw [hn] at hlc ⊢
  have HROW := Lib.hid hrow
  have HN := Lib.hid hn
  have HP := Lib.hid hp
  unfold maxLen at hcm
  clear hrow hp hn
  subst hla hma
  go_enter Tryz.func141, Tryz.ntmps141
  by_cases h1 : least ≤ n
  · by_cases h2 : n ≤ most
    · have k1 : (n < least) = False := eq_false (by omega)
      have k2 : (most < n) = False := eq_false (by omega)
      have HV : Hid ((decide (least ≤ n) && decide (n ≤ most) && l.all setB) = l.all setB) := Lib.hid (by rw [decide_eq_true h1, decide_eq_true h2]; rfl)
      rw [HV.out]
      go_wp2_with fail
      go_loopg [10, 23] n (fun k r10 r23 wr => Hid (∃ j : Nat, r23 = .int .i64 (j : Nat) ∧ j + k = n ∧ Fr No w wr ∧ (l.take j).all setB = true))
      case atStart => exact Lib.hid ⟨0, rfl, by omega, Fr.refl _ _, rfl⟩
      case round =>
      obtain ⟨j, rfl, hjn, hf, hall⟩ := hrel.out
      have HALL := Lib.hid hall
      clear hrel hall
      by_cases hj : j < n
      · have hji : (j : Int) < (n : Int) := by omega
        have hjl : j < l.length := by rw [HN.out]; exact hj
        obtain ⟨g, off, rfl, hK, hg, hel⟩ := HROW.out (by omega)
        obtain ⟨cs, hcl, hcs, hE⟩ := hel j hjl
        obtain ⟨x, hx⟩ : ∃ x, l[j] = x := ⟨_, rfl⟩
        have HX := Lib.hid hx
        rw [hx] at hE
        obtain ⟨v0, hE, _, hR⟩ := hE
        obtain ⟨A1, n1, c1, rfl⟩ : ∃ A1 n1 c1, v0 = .slice A1 n1 c1 := by obtain ⟨A1, c1, e, _⟩ := hR; exact ⟨_, _, _, e⟩
        have e0 : wr.cell? ⟨g, off + j, none⟩ = some (.slice A1 n1 c1) := (cell_of_heap (hf.block g hg id)).trans (by have := hcs 0 (by decide); rw [hE] at this; simpa using this)
        have HFN : Hid (Fr No w wr) := Lib.hid hf
        have HC := Lib.hid (rset_any wr (HP.out.no HFN.out) (hR.at_ strG_elem HFN.out))
        clear hcs hcl hel hK hf hE hR
        go_wp2_with fail
        refine HC.out.mono ?_
        rintro e w5 ⟨rfl, f5⟩
        have HF5 := Lib.hid (HFN.out.trans f5 fun _ _ h => h)
        clear f5
        cases hb : setB x with
        | true =>
          have HT : Hid ((l.take (j + 1)).all setB = true) := Lib.hid (by rw [take_all hjl HALL.out, HX.out, hb])
          clear hb
          go_wp2_with fail
          obtain ⟨g1, rfl⟩ : ∃ g1, gk = g1 + 1 := ⟨gk - 1, by omega⟩
          go_roundg g1
          case rel => exact Lib.hid ⟨j + 1, by go_num, by omega, HF5.out, HT.out⟩
          all_goals omega
        | false =>
          have HT : Hid (l.all setB = false) := Lib.hid (take_bad hjl (by rw [HX.out]; exact hb))
          clear hb
          go_wp2_with fail
          go_ret
          exact ⟨by rw [HT.out]; rfl, HF5.out⟩
      · have hji : (n : Int) ≤ (j : Int) := by omega
        have HT : Hid (l.all setB = true) := Lib.hid (by have := HALL.out; rwa [List.take_of_length_le (by rw [HN.out]; omega)] at this)
        have HFE := Lib.hid hf
        clear hf
        go_wp2_with fail
        go_ret
        exact ⟨by rw [HT.out]; rfl, HFE.out⟩
    · have k1 : (n < least) = False := eq_false (by omega)
      have k2 : (most < n) = True := eq_true (by omega)
      rw [decide_eq_false h2, Bool.and_false, Bool.false_and]
      go_wp2_with fail
      go_ret
      exact ⟨rfl, Fr.refl _ _⟩
  · have k1 : (n < least) = True := eq_true (by omega)
    rw [decide_eq_false h1, Bool.false_and, Bool.false_and]
    go_wp2_with fail
    go_ret
    exact ⟨rfl, Fr.refl _ _⟩
end Go.Proofs.YtpdfenpmnpoehaaGreatDoor
