/- The document's comparison of names and of elements. -/
import Derived.Test.YtkcnbmgaeompjaaGreatDoorGT
import Derived.BigQuiet
namespace Go.Proofs.YtkcnbmgaeompjaaGreatDoor
open Go.RowKit Go.Maps
set_option linter.unusedVariables false

/-- A bool, told with nothing but draws. -/
def TellsQ (b : Bool) (w : World) (e : Ending) (w' : World) : Prop := e = .returned (.bool b) ∧ ∃ n, w' = w.drewN n
theorem TellsQ.fr {b : Bool} {w w' : World} {e : Ending} (h : TellsQ b w e w') : TellsB b w e w' := by
  obtain ⟨rfl, n, rfl⟩ := h
  exact ⟨rfl, (Fr.refl No w).drewN n⟩
theorem RowE.drewN {α : Type} {K : Nat → Prop} {w : World} {size : Nat} {E : (Nat → Prop) → World → α → List Value → Prop} {v : Value} {l : List α} (hE : Elem E) (h : RowE K w size (E K w) v l) (n : Nat) : RowE K (w.drewN n) size (E K (w.drewN n)) v l := h.at_ hE ((Fr.refl No w).drewN n)

set_option maxRecDepth 100000 in
theorem rnames_any {K K2 : Nat → Prop} {l m : List Tx} {a b : Value} (w : World) (h : RowE K w 1 (strG K w) a l) (h2 : RowE K2 w 1 (strG K2 w) b m) :
    Calls Tryz.prog 80 #[a, b] w (TellsQ (decide (l = m)) w) := by
  obtain ⟨A, c, rfl, hlc, hcm, hrow⟩ := h
  obtain ⟨A2, c2, rfl, hlc2, hcm2, hrow2⟩ := h2
  by_cases hlm : l.length = m.length
  · obtain ⟨n, hn⟩ : ∃ n, l.length = n := ⟨_, rfl⟩
    have hn2 : m.length = n := by omega
    rw [hn] at hlc ⊢
    rw [hn2] at hlc2 ⊢
    have HROW := Lib.hid hrow
    have HROW2 := Lib.hid hrow2
    have HN := Lib.hid hn
    have HN2 := Lib.hid hn2
    unfold maxLen at hcm hcm2
    clear hrow hrow2 hn hn2 hlm
    go_enter Tryz.func80, Tryz.ntmps80
    go_wp2_with fail
    go_loopg [5] n (fun k r5 wr => Hid (∃ j : Nat, r5 = .int .i64 (j : Nat) ∧ j + k = n ∧ (∃ q, wr = w.drewN q) ∧ l.take j = m.take j))
    case atStart => exact Lib.hid ⟨0, rfl, by omega, ⟨0, rfl⟩, rfl⟩
    case round =>
      obtain ⟨j, rfl, hjn, ⟨qq, rfl⟩, hall⟩ := hrel.out
      have HALL := Lib.hid hall
      clear hrel hall
      by_cases hj : j < n
      · have hji : (j : Int) < (n : Int) := by omega
        have hjl : j < l.length := by rw [HN.out]; exact hj
        have hjm : j < m.length := by rw [HN2.out]; exact hj
        obtain ⟨g, off, rfl, hK, hg, hel⟩ := HROW.out (by omega)
        obtain ⟨g2, off2, rfl, hK2, hg2, hel2⟩ := HROW2.out (by omega)
        obtain ⟨cs, hcl, hcs, hE⟩ := hel j hjl
        obtain ⟨cs2, hcl2, hcs2, hE2⟩ := hel2 j hjm
        obtain ⟨x, hx⟩ : ∃ x, l[j] = x := ⟨_, rfl⟩
        obtain ⟨y, hy⟩ : ∃ y, m[j] = y := ⟨_, rfl⟩
        have HX := Lib.hid hx
        have HY := Lib.hid hy
        rw [hx] at hE
        rw [hy] at hE2
        have hE := hE.1
        have hE2 := hE2.1
        have p0 : w.cell? ⟨g, off + j, none⟩ = some (sv x) := (by have := hcs 0 (by decide); rw [hE] at this; simpa using this)
        have q0 : w.cell? ⟨g2, off2 + j, none⟩ = some (sv y) := (by have := hcs2 0 (by decide); rw [hE2] at this; simpa using this)
        clear hcs hcl hel hK hE hcs2 hcl2 hel2 hK2 hE2 hx hy
        by_cases hxy : x = y
        · have hne : ∀ w, (binOp .neq 9 (sv x) (sv y)).run Tryz.prog w = .ok (.bool false) w := fun w => by rw [neq_str x y, decide_eq_false (by simpa using hxy)]
          have HT : Hid (l.take (j + 1) = m.take (j + 1)) := Lib.hid (take_eq hjl hjm HALL.out (by rw [HX.out, HY.out]; exact hxy))
          have hbe : (x == y) = true := by simpa using hxy
          clear hxy
          go_upto_region 6 with fail
          go_quiet (fail)
          all_goals
            go_wp2_with fail
            obtain ⟨g1, rfl⟩ : ∃ g1, gk = g1 + 1 := ⟨gk - 1, by omega⟩
            go_roundg g1
            case rel => exact Lib.hid ⟨j + 1, by go_num, by omega, ⟨_, by first | rfl | rw [World.drewN_drewN]⟩, HT.out⟩
            all_goals omega
        · have hne : ∀ w, (binOp .neq 9 (sv x) (sv y)).run Tryz.prog w = .ok (.bool true) w := fun w => by rw [neq_str x y, decide_eq_true (by simpa using hxy)]
          have HT : Hid (decide (l = m) = false) := Lib.hid (decide_eq_false (nth_ne hjl hjm (by rw [HX.out, HY.out]; exact hxy)))
          have hbe : (x == y) = false := by simpa using hxy
          clear hxy
          go_upto_region 6 with fail
          go_quiet (fail)
          all_goals
            go_wp2_with fail
            go_ret
            exact ⟨by rw [HT.out]; rfl, _, by first | rfl | rw [World.drewN_drewN]⟩
      · have hji : (n : Int) ≤ (j : Int) := by omega
        have HT : Hid (decide (l = m) = true) := Lib.hid (decide_eq_true (by have := HALL.out; rwa [List.take_of_length_le (by rw [HN.out]; omega), List.take_of_length_le (by rw [HN2.out]; omega)] at this))
        go_wp2_with fail
        go_ret
        exact ⟨by rw [HT.out]; rfl, _, rfl⟩
  · have hne : ((l.length : Int) != (m.length : Int)) = true := by simp; omega
    have HT : Hid (decide (l = m) = false) := Lib.hid (decide_eq_false (fun e => hlm (by rw [e])))
    clear hrow hrow2
    go_enter Tryz.func80, Tryz.ntmps80
    go_wp2_with fail
    go_ret
    exact ⟨by rw [HT.out]; rfl, 0, rfl⟩
end Go.Proofs.YtkcnbmgaeompjaaGreatDoor
