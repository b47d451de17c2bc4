/- The document's own scheduler: a task ends; its locks go on, the least one first. -/
import Derived.Test.YtnonidoeakhfdaaG9
import Derived.Deep.LoopGhost
namespace Go.Proofs.Ytnonidoeakhfdaa
open Go.RowKit Go.Maps Go.Sort
set_option linter.unusedVariables false

def lstep (t m : Int) (p : Int × Int) : Int := if p.2 = t ∧ (m < 0 ∨ p.1 < m) then p.1 else m
def leastF (l : List (Int × Int)) (t : Int) : Int := l.foldl (lstep t) (-1)
theorem leastF_succ {l : List (Int × Int)} {t : Int} {k : Nat} {p : Int × Int} (h : l[k]? = some p) : leastF (l.take (k + 1)) t = lstep t (leastF (l.take k) t) p := by
  unfold leastF
  rw [List.take_add_one, h, List.foldl_append]; rfl
def mine (Z : ZS) (t : Int) : Nat := (Z.held.filter fun p => p.2 == t).length

inductive Ended (t : Int) : ZS → ZS → Prop where
  | done {Z : ZS} (h : leastF Z.held t < 0) : Ended t Z Z
  | step {Z Z1 Z' : ZS} (h : 0 ≤ leastF Z.held t) (hf : Freed Z (leastF Z.held t) Z1) (he : Ended t Z1 Z') : Ended t Z Z'

/-- What the list keeps while the locks go. -/
structure EndI (Inv : ZS → Prop) (t : Int) : Prop where
  bounds : ∀ Z, Inv Z → Z.held.length ≤ 100000 ∧ Z.queue.length ≤ 100000 ∧ ∀ q ∈ Z.queue, ∃ p P, Z.Has q.2 p P
  step : ∀ Z Z', Inv Z → 0 ≤ leastF Z.held t → Freed Z (leastF Z.held t) Z' → Inv Z' ∧ mine Z' t < mine Z t

set_option maxHeartbeats 400000 in
theorem zend_no (r : Nat) (V : Nat → Value) (Z : ZS) (t : Int) (w : World) (h : RAt w r V Z) (hno : Z.Hasnt t) :
    Calls Try.prog 28 #[.pointer (some ⟨r, 0, none⟩), .int .i64 t] w fun e w' => e = .returned (.int .i64 18) ∧ w = w' := by
  have hf := zfind_no r V Z t w h hno
  clear h hno
  go_enter Try.func28, Try.ntmps28
  go_wp2_with (go_at_call 39; refine hf.mono ?_; rintro e w' ⟨rfl, rfl⟩)
  go_ret
  exact ⟨rfl, rfl⟩
set_option maxHeartbeats 400000 in
theorem zend_busy (r p : Nat) (V : Nat → Value) (Z : ZS) (P : ZT) (t : Int) (w : World) (h : RAt w r V Z) (hP : Z.Has t p P) (hk : P.kind ≠ 0) :
    Calls Try.prog 28 #[.pointer (some ⟨r, 0, none⟩), .int .i64 t] w fun e w' => e = .returned (.int .i64 51) ∧ w = w' := by
  have hf := zfind_yes r V Z t p P w h hP
  obtain ⟨_, c1, _⟩ := h.cells
  obtain ⟨g, o, hA⟩ := h.task hP.get
  have hix := hA.ix
  have hkd := hA.kind
  have hb : (P.kind != 0) = true := by simpa using hk
  clear h hP hA hk
  go_enter Try.func28, Try.ntmps28
  go_wp2_with (go_at_call 39; refine hf.mono ?_; rintro e w' ⟨rfl, rfl⟩)
  go_ret
  exact ⟨rfl, rfl⟩

def ZS.less (Z : ZS) (p : Nat) : ZS := { Z with tasks := Z.tasks.take p ++ Z.tasks.drop (p + 1) }

set_option maxRecDepth 100000 in
set_option maxHeartbeats 4000000 in
theorem zend_run (r p : Nat) (V : Nat → Value) (Z : ZS) (P : ZT) (t : Int) (w : World) (h : RAt w r V Z) (hP : Z.Has t p P) (hk : P.kind = 0) (h64 : Z.tasks.length ≤ 64) {Inv : ZS → Prop} (hI : EndI Inv t) (h0 : Inv (Z.less p)) :
    Calls Try.prog 28 #[.pointer (some ⟨r, 0, none⟩), .int .i64 t] w fun e w' => e = .returned (.int .i64 0) ∧ ∃ Z', Ended t (Z.less p) Z' ∧ Postr r V w Z' w' := by
  have hf := zfind_yes r V Z t p P w h hP
  obtain ⟨_, c1, _⟩ := h.cells
  have hpl := (List.getElem?_eq_some_iff.1 hP.get).1
  obtain ⟨g, o, hA⟩ := h.task hP.get
  have hix := hA.ix
  have hkd := hA.kind
  rw [hk] at hkd
  obtain ⟨v1, vr, wa, v2, v', wb, hs1, ha1, hs2, ha2, ⟨A', n', c', rfl⟩, hfa, hfb, hP2⟩ := h.cut (i := 0) (by omega) 27 (.agg #[.int .i64 0, .int .i64 0, .int .i64 0, .int .i64 0]) 32 under27' under27 size27 info62 rfl (by omega) (k := p) (by simpa [ZS.rows] using hpl) (by simp [ZS.rows]; omega)
  have c1a := (h.keep hfa).cells.2.1
  have c1b := (h.keep hfb).cells.2.1
  have f1b := (h.keep hfb).blk.frozen 1
  obtain ⟨w3, hw3⟩ : ∃ w3, wb.setCell ⟨r, 1, none⟩ (.slice A' n' c') = w3 := ⟨_, rfl⟩
  have h3 := hP2 (Z.less p) (by show (Z.tasks.take p ++ Z.tasks.drop (p + 1)).map ZT.cells = _; rw [List.map_append, List.map_take, List.map_drop]; rfl) (fun j hj hne => by
    have : j = 1 ∨ j = 2 ∨ j = 3 := by omega
    rcases this with rfl | rfl | rfl <;> rfl) rfl
  obtain ⟨V3, h3⟩ : ∃ V3, PRr r V w V3 (Z.less p) w3 := ⟨_, by rw [← hw3]; exact h3⟩
  have HA1 := Lib.hid ha1
  have HA2 := Lib.hid ha2
  have HW3 := Lib.hid hw3
  have H3 := Lib.hid h3
  have HI := Lib.hid hI
  have H0 := Lib.hid h0
  clear h hP hA hk hP2 h3 hfa hfb ha1 ha2 hw3 hI h0
  go_enter Try.func28, Try.ntmps28
  go_upto_region 9 with (first
    | (go_at_call 39; refine hf.mono ?_; rintro e w' ⟨rfl, rfl⟩)
    | (at_builtin; refine wpList_addt 27 rfl _ _ rfl _ _ _ _ rfl rfl (HA1.out _) ?_)
    | (at_builtin; refine wpList_addt 27 rfl _ _ rfl _ _ _ _ rfl rfl (HA2.out _) ?_))
  rw [HW3.out]
  clear HW3 HA1 HA2 hs1 hs2 c1 c1a c1b f1b hf hix hkd
  go_loopg [7] (mine (Z.less p) t) (fun n lv wr => ∃ (V1 : Nat → Value) (Z1 : ZS), Inv Z1 ∧ PRr r V w V1 Z1 wr ∧ n = mine Z1 t ∧ ∀ Z', Ended t Z1 Z' → Ended t (Z.less p) Z')
  case atStart => exact ⟨V3, _, H0.out, H3.out, rfl, fun _ h => h⟩
  case round =>
    obtain ⟨V1, Z1, hI1, hP1, hg, hE⟩ := hrel
    have HI1 := Lib.hid hI1
    have HP1 := Lib.hid hP1
    have HG := Lib.hid hg
    have HE := Lib.hid hE
    obtain ⟨hb1, hb2, hb3⟩ := HI.out.bounds Z1 hI1
    have hR := hP1.at_
    obtain ⟨_, _, c2, _⟩ := hR.cells
    have hlen := hR.hlen
    have HB3 := Lib.hid hb3
    have HR := Lib.hid hR
    clear hI1 hP1 hg hE hb3 hR H3 H0
    go_wp2
    go_loop [7, 8] (fun mv iv => ∃ (k : Nat) (M : Int), k ≤ Z1.held.length ∧ iv = .int .i64 k ∧ mv = .int .i64 M ∧ leastF (Z1.held.take k) t = M) (fun _ iv => Z1.held.length - (intOf iv).toNat)
    case atStart => exact ⟨0, -1, Nat.zero_le _, rfl, rfl, rfl⟩
    case round =>
      obtain ⟨k, M, hk, rfl, rfl, hM⟩ := hrel
      have HM := Lib.hid hM
      clear hM
      by_cases hlt : k < Z1.held.length
      · obtain ⟨q, hq⟩ : ∃ q, Z1.held[k]? = some q := ⟨_, List.getElem?_eq_getElem hlt⟩
        obtain ⟨g, o, hA⟩ := HR.out.heldAt hq
        have hix := hA.ix
        have ha := hA.a
        have hb := hA.b
        have hs := leastF_succ (t := t) hq
        rw [HM.out] at hs
        unfold lstep at hs
        clear hA hq
        by_cases e1 : q.2 = t
        · by_cases e2 : M < 0
          · rw [if_pos ⟨e1, .inl e2⟩] at hs
            have HS := Lib.hid hs
            rw [e1] at hb
            clear hs e1
            go_wp2
            refine ⟨⟨k + 1, _, by omega, by go_num, rfl, HS.out⟩, by simp [intOf]; omega⟩
          · by_cases e3 : q.1 < M
            · rw [if_pos ⟨e1, .inr e3⟩] at hs
              have HS := Lib.hid hs
              rw [e1] at hb
              clear hs e1
              go_wp2
              refine ⟨⟨k + 1, _, by omega, by go_num, rfl, HS.out⟩, by simp [intOf]; omega⟩
            · rw [if_neg (by rintro ⟨_, h | h⟩ <;> omega)] at hs
              have HS := Lib.hid hs
              rw [e1] at hb
              clear hs e1
              go_wp2
              refine ⟨⟨k + 1, _, by omega, by go_num, rfl, HS.out⟩, by simp [intOf]; omega⟩
        · rw [if_neg (by rintro ⟨h, _⟩; exact e1 h)] at hs
          have HS := Lib.hid hs
          have hne : (q.2 == t) = false := by simpa using e1
          clear hs e1
          go_wp2
          refine ⟨⟨k + 1, _, by omega, by go_num, rfl, HS.out⟩, by simp [intOf]; omega⟩
      · have hall : leastF Z1.held t = M := by
          have := HM.out
          rwa [List.take_of_length_le (by omega)] at this
        have HAll := Lib.hid hall
        clear hall
        by_cases e2 : M < 0
        · go_wp2
          go_ret
          exact ⟨rfl, Z1, HE.out _ (.done (by rw [HAll.out]; exact e2)), HP1.out.post⟩
        · have HFree := Lib.hid (zfree r V1 Z1 M wr HR.out hb1 hb2 HB3.out)
          go_wp2_with (go_at_call 46; refine HFree.out.mono ?_; rintro e w4 ⟨rfl, Z2, hF, V2, hP2⟩; have HF := Lib.hid hF; have HP2 := Lib.hid hP2; clear hF hP2)
          have hF := HF.out
          rw [← HAll.out] at hF
          have h0 : 0 ≤ leastF Z1.held t := by rw [HAll.out]; omega
          obtain ⟨hI2, hlt2⟩ := HI.out.step Z1 Z2 HI1.out h0 hF
          go_roundg (mine Z2 t)
          case measure => rw [HG.out]; exact hlt2
          case rel => exact ⟨V2, Z2, hI2, HP1.out.trans HP2.out, rfl, fun Z' he => HE.out Z' (.step h0 hF he)⟩

end Go.Proofs.Ytnonidoeakhfdaa
