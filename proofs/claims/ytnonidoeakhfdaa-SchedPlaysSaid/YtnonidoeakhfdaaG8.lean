/- The document's own scheduler: a lock is freed, or passed on to who waits first. -/
import Derived.Test.YtnonidoeakhfdaaG7
namespace Go.Proofs.Ytnonidoeakhfdaa
open Go.RowKit Go.Maps Go.Sort
set_option linter.unusedVariables false

def restH (l : List (Int × Int)) (n : Int) : List (Int × Int) := l.filter fun p => p.1 != n
theorem restH_succ {l : List (Int × Int)} {n : Int} {k : Nat} {p : Int × Int} (h : l[k]? = some p) : restH (l.take (k + 1)) n = restH (l.take k) n ++ if p.1 != n then [p] else [] := by
  unfold restH
  rw [List.take_add_one, h, List.filter_append]
  congr 1
  simp only [Option.toList, List.filter_cons, List.filter_nil]
theorem restH_len (l : List (Int × Int)) (n : Int) : (restH l n).length ≤ l.length := List.length_filter_le _ _

/-- What becomes of it. -/
inductive Freed (Z : ZS) (n : Int) : ZS → Prop where
  | none (h : ∀ q ∈ Z.queue, q.1 ≠ n) : Freed Z n { Z with held := restH Z.held n }
  | next (i : Nat) (x : Int) (p : Nat) (P : ZT) (hi : Z.queue[i]? = some (n, x)) (hno : ∀ j, j < i → ∀ q, Z.queue[j]? = some q → q.1 ≠ n) (hP : Z.Has x p P) :
    Freed Z n { Z with held := restH Z.held n ++ [(n, x)], queue := Z.queue.take i ++ Z.queue.drop (i + 1), tasks := Z.tasks.set p { P with kind := 0 } }

section
variable {w wr w1 : World} {r : Nat} {V : Nat → Value} {Z : ZS}
/-- The list of what is held is another one of one's own. -/
theorem RAt.newHeld (h : RAt w r V Z) {v : Value} {l : List (Int × Int)} (ho : Own2 w wr v l) (hf : Fr No w wr) : PRr r V w (upV V 1 v) { Z with held := l } (wr.setCell ⟨r, 2, none⟩ v) :=
  h.turn (i := 1) (Z' := { Z with held := l }) (by omega) hf.any (by show wr.ownsRow 0 68 2 v (l.map pc).length (l.map pc).flatten; rw [List.length_map]; exact own_base ho (Nat.zero_le _)) (fun k hk => .inr (World.ownsRow.lt ho k hk).1) (fun j hj hne => by
    have : j = 0 ∨ j = 2 ∨ j = 3 := by omega
    rcases this with rfl | rfl | rfl <;> rfl) rfl
end

/-- What is there once the lock is out of the list. -/
structure FreeAt (w : World) (r : Nat) (V : Nat → Value) (Z : ZS) (n : Int) (V1 : Nat → Value) (w1 : World) : Prop where
  pr : PRr r V w V1 { Z with held := restH Z.held n } w1

set_option maxRecDepth 100000 in
set_option maxHeartbeats 4000000 in
theorem zfree (r : Nat) (V : Nat → Value) (Z : ZS) (n : Int) (w : World) (h : RAt w r V Z) (hh : Z.held.length ≤ 100000) (hq : Z.queue.length ≤ 100000) (hhas : ∀ q ∈ Z.queue, ∃ p P, Z.Has q.2 p P) :
    Calls Try.prog 46 #[.pointer (some ⟨r, 0, none⟩), .int .i64 n] w fun e w' => e = .returned (.tuple #[]) ∧ ∃ Z', Freed Z n Z' ∧ Postr r V w Z' w' := by
  have HH := Lib.hid h
  have HHas := Lib.hid hhas
  clear h hhas
  go_enter Try.func46, Try.ntmps46
  go_wp2
  go_loopw [4, 5] (fun v iv wr => ∃ k : Nat, k ≤ Z.held.length ∧ iv = .int .i64 k ∧ Own2 w wr v (restH (Z.held.take k) n) ∧ Fr No w wr) (fun _ iv _ => Z.held.length - (intOf iv).toNat)
  case atStart => exact ⟨0, Nat.zero_le _, rfl, World.ownsRow_nil _ _ 68 2, Fr.refl _ _⟩
  case round =>
    obtain ⟨k, hk, rfl, ho, hf⟩ := hrel
    have HO := Lib.hid ho
    have HF := Lib.hid hf
    have hR := HH.out.keep hf
    obtain ⟨_, _, c2, _⟩ := hR.cells
    have hlen := hR.hlen
    have fr2 := hR.blk.frozen 2
    clear ho hf
    by_cases hlt : k < Z.held.length
    · obtain ⟨p, hp⟩ : ∃ p, Z.held[k]? = some p := ⟨_, List.getElem?_eq_getElem hlt⟩
      obtain ⟨g, o, hA⟩ := hR.heldAt hp
      have hix := hA.ix
      have ha := hA.a
      have hb := hA.b
      have hs := restH_succ (n := n) hp
      clear hA hp hR
      by_cases e : p.1 = n
      · rw [if_neg (by simpa using e)] at hs
        have HS := Lib.hid hs
        rw [e] at ha
        clear hs e
        go_wp2
        go_roundw
        case rel => exact ⟨k + 1, by omega, by go_num, by rw [HS.out]; simpa using HO.out, HF.out⟩
        case measure => simp [intOf]; omega
      · rw [if_pos (by simpa using e)] at hs
        have HS := Lib.hid hs
        have hne : (p.1 != n) = true := by simpa using e
        obtain ⟨v', w1, hr, ho1, hf1⟩ := own2_add HO.out HF.out p (by have := restH_len (Z.held.take k) n; rw [List.length_take] at this; omega)
        have HAd := Lib.hid hr
        have HO1 := Lib.hid ho1
        have HF1 := Lib.hid hf1
        clear hr ho1 hf1 hs e
        go_wp2_with (at_builtin; refine wpList_addt 28 rfl _ _ rfl _ _ _ _ rfl rfl (HAd.out _) ?_)
        go_roundw
        case rel => exact ⟨k + 1, by omega, by go_num, by rw [HS.out]; exact HO1.out, HF1.out⟩
        case measure => simp [intOf]; omega
    · have hall : Z.held.take k = Z.held := List.take_of_length_le (by omega)
      have ho2 := HO.out
      rw [hall] at ho2
      obtain ⟨A4, c4, rfl⟩ := own2_form ho2
      obtain ⟨w1, hw1⟩ : ∃ w1, wr.setCell ⟨r, 2, none⟩ (.slice A4 (restH Z.held n).length c4) = w1 := ⟨_, rfl⟩
      have h1 := HH.out.newHeld ho2 HF.out
      rw [hw1] at h1
      have H1 := Lib.hid h1
      have HW1 := Lib.hid hw1
      clear hR hall ho2 h1 hw1 HO HF
      go_upto_region 7 with fail
      rw [HW1.out]
      clear HW1 c2 fr2 hlen
      obtain ⟨V1, hV1⟩ : ∃ V1, upV V 1 (.slice A4 (restH Z.held n).length c4) = V1 := ⟨_, rfl⟩
      have h1 := H1.out
      rw [hV1] at h1
      have H1 : Hid (PRr r V w V1 { Z with held := restH Z.held n } w1) := Lib.hid h1
      clear hV1 h1
      go_wp2
      go_loopw [6] (fun iv wr => ∃ k : Nat, k ≤ Z.queue.length ∧ iv = .int .i64 k ∧ wr = w1 ∧ ∀ j, j < k → ∀ q, Z.queue[j]? = some q → q.1 ≠ n) (fun iv _ => Z.queue.length - (intOf iv).toNat)
      case atStart => exact ⟨0, Nat.zero_le _, rfl, rfl, fun j hj => by omega⟩
      case round =>
        obtain ⟨k, hk, rfl, rfl, hno⟩ := hrel
        have HNo := Lib.hid hno
        have hA := H1.out.at_
        obtain ⟨_, _, _, c3, _⟩ := hA.cells
        have hlen : ∀ ty W, (Builtin.len_ #[28] ty #[V1 2]).run Try.prog W = .ok (.int .i64 (Z.queue.length : Nat)) W := hA.qlen
        clear hno
        by_cases hlt : k < Z.queue.length
        · obtain ⟨q, hq⟩ : ∃ q, Z.queue[k]? = some q := ⟨_, List.getElem?_eq_getElem hlt⟩
          obtain ⟨g, o, hP⟩ := hA.queueAt hq
          have hix := hP.ix
          have ha := hP.a
          have hb := hP.b
          clear hP
          by_cases e : q.1 = n
          · obtain ⟨a, x⟩ := q
            have e' : a = n := e
            subst e'
            obtain ⟨p, P, hPs⟩ := HHas.out _ (List.mem_of_getElem? hq)
            have HFr := Lib.hid (Freed.next k x p P hq HNo.out hPs)
            obtain ⟨v1, vr, wa, v2, v', wb, hs1, ha1, hs2, ha2, ⟨A', n', c', rfl⟩, hfa, hfb, hP2⟩ := hA.cut (i := 2) (by omega) 28 (.agg #[.int .i64 0, .int .i64 0]) 16 under28' under28 size28 info68 rfl (by omega) (k := k) (by simpa [ZS.rows] using hlt) (by simp [ZS.rows]; omega)
            have hAa := hA.keep hfa
            have hAb := hA.keep hfb
            have c3a := hAa.cells.2.2.2.1
            have c3b := hAb.cells.2.2.2.1
            have f3b := hAb.blk.frozen 3
            obtain ⟨w3, hw3⟩ : ∃ w3, wb.setCell ⟨r, 3, none⟩ (.slice A' n' c') = w3 := ⟨_, rfl⟩
            have h3 := hP2 { Z with held := restH Z.held a, queue := Z.queue.take k ++ Z.queue.drop (k + 1) } (by show (Z.queue.take k ++ Z.queue.drop (k + 1)).map pc = _; rw [List.map_append, List.map_take, List.map_drop]; rfl) (fun j hj hne => by
              have : j = 0 ∨ j = 1 ∨ j = 3 := by omega
              rcases this with rfl | rfl | rfl <;> rfl) rfl
            have h3' : PRr r V1 wr (upV V1 2 (.slice A' n' c')) { Z with held := restH Z.held a, queue := Z.queue.take k ++ Z.queue.drop (k + 1) } w3 := by rw [← hw3]; exact h3
            have c2w := h3'.at_.cells.2.2.1
            have hlr := restH_len Z.held a
            obtain ⟨vh, w4, ⟨A5, c5, hvh⟩, hr4, d2, f2, hP4⟩ := h3'.at_.addp (i := 1) (.inl rfl) (a, x) (by show ((restH Z.held a).map pc).length ≤ _; rw [List.length_map]; omega)
            have d2' := d2
            have f2' : w4.frozen? ⟨r, 2, none⟩ = false := f2
            obtain ⟨n5, hvh⟩ : ∃ n5, vh = .slice A5 n5 c5 := ⟨_, hvh⟩
            subst hvh
            obtain ⟨w5, hw5⟩ : ∃ w5, w4.setCell ⟨r, 2, none⟩ (.slice A5 n5 c5) = w5 := ⟨_, rfl⟩
            have h5 := hP4 { Z with held := restH Z.held a ++ [(a, x)], queue := Z.queue.take k ++ Z.queue.drop (k + 1) } (by show (restH Z.held a ++ [(a, x)]).map pc = _; rw [List.map_append]; rfl) (fun j hj hne => by
              have : j = 0 ∨ j = 2 ∨ j = 3 := by omega
              rcases this with rfl | rfl | rfl <;> rfl) rfl
            have h5' := h3'.trans h5
            obtain ⟨V5, h5'⟩ : ∃ V5, PRr r V1 wr V5 { Z with held := restH Z.held a ++ [(a, x)], queue := Z.queue.take k ++ Z.queue.drop (k + 1) } w5 := ⟨_, by rw [← hw5]; exact h5'⟩
            have HS1 := Lib.hid hs1
            have HA1 := Lib.hid ha1
            have HS2 := Lib.hid hs2
            have HA2 := Lib.hid ha2
            have HW3 := Lib.hid hw3
            have HW5 := Lib.hid hw5
            have HR4 := Lib.hid hr4
            have H5 := Lib.hid h5'
            clear hA hq e hP2 h3 h3' hP4 h5 h5' hAa hAb hfa hfb ha1 ha2 hw3 hw5 hr4 d2 f2 hlr
            go_upto_region 15 with (first
              | (at_builtin; refine wpList_addt 28 rfl _ _ rfl _ _ _ _ rfl rfl (HA1.out _) ?_)
              | (at_builtin; refine wpList_addt 28 rfl _ _ rfl _ _ _ _ rfl rfl (HA2.out _) ?_))
            clear HA1 HA2
            have HS5 := Lib.hid hs1
            clear hs1 hs2 c3 c3a c3b f3b hlen
            rw [HW3.out]
            clear HW3
            go_upto_region 16 with (at_builtin; refine wpList_addt 28 rfl _ _ rfl _ _ _ _ rfl rfl (HR4.out _) ?_)
            rw [HW5.out]
            clear HW5 HR4 d2' f2' c2w
            have hA5 := H5.out.at_
            have hPs5 : ZS.Has { Z with held := restH Z.held a ++ [(a, x)], queue := Z.queue.take k ++ Z.queue.drop (k + 1) } x p P := ⟨hPs.get, hPs.n, hPs.no⟩
            have hfd := zfind_yes r V5 _ x p P w5.drew (hA5.keep ((Fr.refl No w5).drew)) hPs5
            obtain ⟨gp, op, hT⟩ := (hA5.keep ((Fr.refl No w5).drew)).task (k := p) hPs.get
            have c15 : w5.cell? ⟨r, 1, none⟩ = some (V5 0) := hA5.cells.2.1
            have hixp := hT.ix
            have hkp : w5.cell? ⟨gp, op + 1, none⟩ = some (.int .i64 P.kind) := hT.kind
            have hfp : w5.frozen? ⟨gp, op + 1, none⟩ = false := hT.frozen 1 (by omega)
            have h6 := (hA5.keep ((Fr.refl No w5).drew)).tset (T' := { P with kind := 0 }) (x := .int .i64 0) hPs.get hT (j := 1) (by omega) rfl
            have H6 := Lib.hid ((H1.out.trans (H5.out.trans ((PRr.same hA5 ((Fr.refl No w5).drew)).trans h6))).post)
            have HFd := Lib.hid hfd
            clear hA5 hPs5 hfd hT h6 hPs H5 H1
            go_region_with (go_at_call 39; refine HFd.out.mono ?_; rintro e w' ⟨rfl, rfl⟩)
            all_goals (go_simp; go_wp2_with fail)
            all_goals (refine bodyPost_ret (results_none rfl _ _ _) rfl ?_)
            all_goals exact ⟨rfl, _, HFr.out, H6.out⟩
          · have hne : (q.1 == n) = false := by simpa using e
            have HN2 := Lib.hid (show ∀ j, j < k + 1 → ∀ q, Z.queue[j]? = some q → q.1 ≠ n from fun j hj q' hq' => by
              by_cases ej : j = k
              · subst ej; rw [hq] at hq'; cases hq'; exact e
              · exact HNo.out j (by omega) q' hq')
            clear hA hq e
            go_wp2
            go_roundw
            case rel => exact ⟨k + 1, by omega, by go_num, by first | rfl | trivial, HN2.out⟩
            case measure => simp [intOf]; omega
        · have HFr := Lib.hid (Freed.none (Z := Z) (n := n) fun q hq => by
            obtain ⟨j, hj⟩ := List.getElem?_of_mem hq
            have := (List.getElem?_eq_some_iff.1 hj).1
            exact HNo.out j (by omega) q hj)
          clear hA
          go_wp2
          go_end0
          exact ⟨rfl, _, HFr.out, H1.out.post⟩

end Go.Proofs.Ytnonidoeakhfdaa
