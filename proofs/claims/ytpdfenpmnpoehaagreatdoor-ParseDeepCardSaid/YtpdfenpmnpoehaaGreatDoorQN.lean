/- Reading a query: names in brackets, a set. -/
import Derived.Test.YtpdfenpmnpoehaaGreatDoorQC
namespace Go.Proofs.YtpdfenpmnpoehaaGreatDoor
open Go.RowKit Go.Maps
set_option linter.unusedVariables false

theorem row_up {α : Type} {E : EG α} (hE : Elem E) {w wi wj : World} {size : Nat} {v : Value} {l : List α} (h : RowE (fun k => wi.heap.size ≤ k) wj size (E (fun k => wi.heap.size ≤ k) wj) v l) (hw : w.heap.size ≤ wi.heap.size) : RowE (fun k => w.heap.size ≤ k) wj size (E (fun k => w.heap.size ≤ k) wj) v l :=
  h.mono (fun k hk _ => ⟨by omega, rfl⟩) fun x cs hx => hE.mono _ _ _ _ _ _ hx fun k hk _ => ⟨by omega, rfl⟩
theorem row_form {α : Type} {K : Nat → Prop} {w : World} {size : Nat} {E : α → List Value → Prop} {v : Value} {l : List α} (h : RowE K w size E v l) : ∃ A n c, v = .slice A n c ∧ n = l.length := by
  obtain ⟨A, c, e, _⟩ := h
  exact ⟨A, _, c, e, rfl⟩
def RowJ {α : Type} (w : World) (size : Nat) (E : EG α) (v : Value) (l : List α) (x : World) : Prop := RowE (fun k => w.heap.size ≤ k) x size (E (fun k => w.heap.size ≤ k) x) v l
theorem stable_rowj {α : Type} {C : Cx} {w : World} {size : Nat} {E : EG α} (hE : Elem E) {v : Value} {l : List α} (hB : C.d < w.heap.size) : Stable C (RowJ w size E v l) := stable_row hE hB
set_option maxRecDepth 100000 in
set_option maxHeartbeats 8000000 in
theorem prest_any {C : Cx} {w : World} {r : List Wd} {b : Bool} (h : Rd C w r b) (he : Ended r) : Calls Tryz.prog 151 #[rp C] w (RdP C w lsR (namesW r b)) := by
  have HD := Lib.hid h.lt
  have HG := Lib.hid h.glt
  have HS0 := Lib.hid (St.start h he)
  clear h he
  unfold rp
  go_enter Tryz.func151, Tryz.ntmps151
  have CA := Lib.hid (HS0.out.call (lnames_any HS0.out.rd HS0.out.en) (keeps_list keeps_name))
  unfold rp at CA
  go_wp2_with fail
  refine CA.out.mono ?_
  clear CA
  rintro e w1 hp
  cases hR : listW 16 nameW r b with
  | bad cc p =>
    rw [hR] at hp
    obtain ⟨rfl, f⟩ := hp
    have HF := Lib.hid f
    have HV : Hid (namesW r b = .bad cc p) := Lib.hid (by simp only [namesW, hR, PR.then])
    clear hR f
    go_wp2_with fail
    exact ⟨rfl, St.bad HV.out HF.out⟩
  | ok l r1 b1 =>
    rw [hR] at hp
    obtain ⟨⟨v, rfl, hv⟩, hs9, f9⟩ := hp
    have HS1 := Lib.hid hs9
    have E1 := Lib.hid hR
    have hv : RowE (fun k => w.heap.size ≤ k) w1 1 (strG (fun k => w.heap.size ≤ k) w1) v l := hv
    obtain ⟨A, n, c, rfl, hn⟩ := row_form hv
    have HS2 := Lib.hid (HS1.out.more (J' := RowJ w 1 strG (.slice A n c) l) hv (stable_rowj strG_elem HD.out))
    clear hv hn
    clear hR hs9 f9
    have CA := Lib.hid (all_s HS2.out [[41]] 1 rfl (by decide) #[sv [41]] rfl)
    unfold rp at CA
    go_wp2_with fail
    refine CA.out.mono ?_
    clear CA
    rintro e w2 hp
    cases hR : allW [[41]] r1 b1 with
    | bad cc p =>
      rw [hR] at hp
      obtain ⟨rfl, f⟩ := hp
      have HF := Lib.hid f
      have HV : Hid (namesW r b = .bad cc p) := Lib.hid (by have q0 := E1.out; simp only [namesW, q0, hR, PR.then, PR.map])
      clear hR f
      go_wp2_with fail
      exact ⟨rfl, St.bad HV.out HF.out⟩
    | ok u r2 b2 =>
      rw [hR] at hp
      obtain ⟨⟨v, rfl, rfl⟩, hs9, -⟩ := hp
      have HS3 := Lib.hid hs9
      have E2 := Lib.hid hR
      clear hR hs9
      have HV : Hid (namesW r b = .ok l r2 b2) := Lib.hid (by have q0 := E1.out; have q1 := E2.out; simp only [namesW, q0, q1, PR.then, PR.map])
      go_wp2
      go_ret
      exact HS3.out.ok HV.out HS3.out.j.2
theorem prest_s {C : Cx} {w wi : World} {J : World → Prop} {r : List Wd} {b : Bool} (h : St C w J wi r b) : Calls Tryz.prog 151 #[rp C] wi (SP C w J wi lsR (namesW r b)) := h.call (prest_any h.rd h.en) keeps_names
set_option maxRecDepth 100000 in
set_option maxHeartbeats 8000000 in
theorem plist_any {C : Cx} {w : World} {r : List Wd} {b : Bool} (h : Rd C w r b) (he : Ended r) : Calls Tryz.prog 120 #[rp C] w (RdP C w lsR (lstW r b)) := by
  have HD := Lib.hid h.lt
  have HG := Lib.hid h.glt
  have HS0 := Lib.hid (St.start h he)
  clear h he
  unfold rp
  go_enter Tryz.func120, Tryz.ntmps120
  have CA := Lib.hid (all_s HS0.out [[40]] 1 rfl (by decide) #[sv [40]] rfl)
  unfold rp at CA
  go_wp2_with fail
  refine CA.out.mono ?_
  clear CA
  rintro e w1 hp
  cases hR : allW [[40]] r b with
  | bad cc p =>
    rw [hR] at hp
    obtain ⟨rfl, f⟩ := hp
    have HF := Lib.hid f
    have HV : Hid (lstW r b = .bad cc p) := Lib.hid (by simp only [lstW, hR, PR.then])
    clear hR f
    go_wp2_with fail
    exact ⟨rfl, St.bad HV.out HF.out⟩
  | ok u r1 b1 =>
    rw [hR] at hp
    obtain ⟨⟨v, rfl, rfl⟩, hs9, -⟩ := hp
    have HS1 := Lib.hid hs9
    have E1 := Lib.hid hR
    clear hR hs9
    have CA := Lib.hid (prest_s HS1.out)
    unfold rp at CA
    go_wp2_with fail
    refine CA.out.mono ?_
    clear CA
    rintro e w2 hp
    cases hR : namesW r1 b1 with
    | bad cc p =>
      rw [hR] at hp
      obtain ⟨rfl, f⟩ := hp
      have HF := Lib.hid f
      have HV : Hid (lstW r b = .bad cc p) := Lib.hid (by have q0 := E1.out; simp only [lstW, q0, hR, PR.then])
      clear hR f
      go_wp2_with fail
      exact ⟨rfl, St.bad HV.out HF.out⟩
    | ok l r2 b2 =>
      rw [hR] at hp
      obtain ⟨⟨v, rfl, hv⟩, hs9, f9⟩ := hp
      have HS2 := Lib.hid hs9
      have E2 := Lib.hid hR
      have HROW : Hid (RowJ w 1 strG v l w2) := Lib.hid (row_up strG_elem hv HS1.out.fr.size)
      have HV : Hid (lstW r b = .ok l r2 b2) := Lib.hid (by have q0 := E1.out; simp only [lstW, q0, hR, PR.then])
      clear hv
      clear hR hs9 f9
      go_wp2
      go_ret
      exact HS2.out.ok HV.out HROW.out
theorem plist_s {C : Cx} {w wi : World} {J : World → Prop} {r : List Wd} {b : Bool} (h : St C w J wi r b) : Calls Tryz.prog 120 #[rp C] wi (SP C w J wi lsR (lstW r b)) := h.call (plist_any h.rd h.en) keeps_lst
set_option maxRecDepth 100000 in
set_option maxHeartbeats 8000000 in
theorem pset_any {C : Cx} {w : World} {r : List Wd} {b : Bool} (h : Rd C w r b) (he : Ended r) : Calls Tryz.prog 122 #[rp C] w (RdP C w lsR (setW r b)) := by
  have HD := Lib.hid h.lt
  have HG := Lib.hid h.glt
  have HS0 := Lib.hid (St.start h he)
  clear h he
  unfold rp
  go_enter Tryz.func122, Tryz.ntmps122
  go_wp2_with fail
  refine (of_any 1 w).mono ?_
  rintro e wx ⟨⟨mv, rfl, hm⟩, f1⟩
  have HC := Lib.hid (sees_s (HS0.out.no f1) hm)
  unfold rp at HC
  clear hm f1
  go_wp2_with fail
  refine HC.out.mono ?_
  rintro e w2 ⟨rfl, hs, -⟩
  have HS2 := Lib.hid hs
  clear hs HC
  cases h4 : seesW (ofW 1) r with
  | true =>
    have E1 := Lib.hid h4
    clear h4
    have CA := Lib.hid (name_s HS2.out)
    unfold rp at CA
    go_wp2_with fail
    refine CA.out.mono ?_
    clear CA
    rintro e w4 hp
    cases hR : nameW r b with
    | bad cc p =>
      rw [hR] at hp
      obtain ⟨rfl, f⟩ := hp
      have HF := Lib.hid f
      have HV : Hid (setW r b = .bad cc p) := Lib.hid (by have q0 := E1.out; simp only [setW, q0, hR, if_true, PR.map, PR.then])
      clear hR f
      go_wp2_with fail
      exact ⟨rfl, St.bad HV.out HF.out⟩
    | ok t r1 b1 =>
      rw [hR] at hp
      obtain ⟨⟨v, rfl, rfl, ht8⟩, hs9, f9⟩ := hp
      have HS4 := Lib.hid hs9
      have E2 := Lib.hid hR
      have HV : Hid (setW r b = .ok [t] r1 b1) := Lib.hid (by have q0 := E1.out; simp only [setW, q0, hR, if_true, PR.map, PR.then])
      obtain ⟨w5, hw5⟩ : ∃ w5, w4.alloc (.cells #[sv t] 9) = w5 := ⟨_, rfl⟩
      obtain ⟨z, hz⟩ : ∃ z, w4.heap.size = z := ⟨_, rfl⟩
      have f5 : Fr No w4 w5 := by rw [← hw5]; exact (Fr.refl No w4).alloc _
      have hg5 : Grow w.heap.size 9 1 strG w5 (.slice (some ⟨z, 0, none⟩) 1 1) [t] := by
        rw [← hw5, ← hz]
        exact Grow.single strG_elem (w0 := w) (Nat.le_refl _) HS4.out.fr.size t [sv t] rfl ⟨rfl, by unfold maxLen; omega⟩ (by decide)
      have HROW : Hid (RowJ w 1 strG (.slice (some ⟨z, 0, none⟩) 1 1) [t] w5) := Lib.hid (hg5.row strG_elem)
      have HS5 := Lib.hid (HS4.out.no f5)
      have HW5 := Lib.hid hw5
      have HZ := Lib.hid hz
      clear hw5 hz f5 hg5 ht8
      clear hR hs9 f9
      go_wp2_with fail
      go_ret
      rw [HW5.out, HZ.out]
      exact HS5.out.ok HV.out HROW.out
  | false =>
    have E1 := Lib.hid h4
    clear h4
    have CA := Lib.hid (all_s HS2.out [[40]] 1 rfl (by decide) #[sv [40]] rfl)
    unfold rp at CA
    go_wp2_with fail
    refine CA.out.mono ?_
    clear CA
    rintro e w3 hp
    cases hR : allW [[40]] r b with
    | bad cc p =>
      rw [hR] at hp
      obtain ⟨rfl, f⟩ := hp
      have HF := Lib.hid f
      have HV : Hid (setW r b = .bad cc p) := Lib.hid (by have q0 := E1.out; simp only [setW, q0, hR, PR.then, Bool.false_eq_true, if_false])
      clear hR f
      go_wp2_with fail
      exact ⟨rfl, St.bad HV.out HF.out⟩
    | ok u r1 b1 =>
      rw [hR] at hp
      obtain ⟨⟨v, rfl, rfl⟩, hs9, -⟩ := hp
      have HS3 := Lib.hid hs9
      have E2 := Lib.hid hR
      clear hR hs9
      go_wp2_with fail
      refine (says_any [41] w3).mono ?_
      rintro e wx ⟨⟨mv, rfl, hm⟩, f1⟩
      have HC := Lib.hid (takes_s (HS3.out.no f1) hm (inner_says _))
      unfold rp at HC
      clear hm f1
      go_wp2_with fail
      refine HC.out.mono ?_
      clear HC
      rintro e w5 ⟨rfl, ht, hf, -⟩
      cases hn : seesW (saysW [41]) r1 with
      | true =>
        have HS5 := Lib.hid (ht hn)
        have HV : Hid (setW r b = .ok [] r1.tail b1) := Lib.hid (by have q0 := E1.out; have q1 := E2.out; simp only [setW, q0, q1, hn, PR.then, Bool.false_eq_true, if_false, if_true])
        clear ht hf hn
        go_wp2
        go_ret
        exact HS5.out.ok HV.out (RowE.nil _ _ _ _)
      | false =>
        have HS5 := Lib.hid (hf hn)
        have E3 := Lib.hid hn
        clear ht hf hn
        have CA := Lib.hid (prest_s HS5.out)
        unfold rp at CA
        go_wp2_with fail
        refine CA.out.mono ?_
        clear CA
        rintro e w6 hp
        cases hR : namesW r1 b1 with
        | bad cc p =>
          rw [hR] at hp
          obtain ⟨rfl, f⟩ := hp
          have HF := Lib.hid f
          have HV : Hid (setW r b = .bad cc p) := Lib.hid (by have q0 := E1.out; have q1 := E2.out; have q2 := E3.out; simp only [setW, q0, q1, q2, hR, PR.then, Bool.false_eq_true, if_false])
          clear hR f
          go_wp2_with fail
          exact ⟨rfl, St.bad HV.out HF.out⟩
        | ok l r2 b2 =>
          rw [hR] at hp
          obtain ⟨⟨v, rfl, hv⟩, hs9, f9⟩ := hp
          have HS6 := Lib.hid hs9
          have E4 := Lib.hid hR
          have HROW : Hid (RowJ w 1 strG v l w6) := Lib.hid (row_up strG_elem hv HS5.out.fr.size)
          have HV : Hid (setW r b = .ok l r2 b2) := Lib.hid (by have q0 := E1.out; have q1 := E2.out; have q2 := E3.out; simp only [setW, q0, q1, q2, hR, PR.then, Bool.false_eq_true, if_false])
          clear hv
          clear hR hs9 f9
          go_wp2
          go_ret
          exact HS6.out.ok HV.out HROW.out
end Go.Proofs.YtpdfenpmnpoehaaGreatDoor
