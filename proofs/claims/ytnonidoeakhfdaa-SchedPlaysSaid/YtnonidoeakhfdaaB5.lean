/- The locks that a task holds, rising. -/
import Derived.Test.YtnonidoeakhfdaaB4
namespace Go.Proofs.Ytnonidoeakhfdaa
open Go.RowKit Go.Maps Go.Sort
set_option linter.unusedVariables false

def CollL (S : SS) (p : HS → Bool) (left : Lit → Bool) (ss : List Int) : Prop :=
  ss.Nodup ∧ ∀ x, x ∈ ss ↔ ∃ T, S.lock x = some T ∧ p T = true ∧ left (.int .i64 x) = false
section
variable {w : World} {d : Nat} {R : Rp} {S : SS} {p : HS → Bool} {left : Lit → Bool} {ss : List Int}
theorem CollL.start (h : TabAt HK w R.l S.locks S.lock) : CollL S p (has R.l.D) [] :=
  ⟨List.nodup_nil, fun x => ⟨(fun h => by cases h), (fun ⟨T, h1, h2, h3⟩ => by rw [h.has h1] at h3; cases h3)⟩⟩
theorem CollL.yes (h : CollL S p left ss) {x : Int} {T : HS} (hT : S.lock x = some T) (hp : p T = true) (hl : left (.int .i64 x) = true) : CollL S p (fun z => left z && !z.sameKey (.int .i64 x)) (ss ++ [x]) := by
  have hnew : x ∉ ss := fun hx => by obtain ⟨_, _, _, h3⟩ := (h.2 x).1 hx; rw [hl] at h3; cases h3
  refine ⟨List.nodup_append.2 ⟨h.1, by simp, fun a ha b hb => by simp at hb; subst hb; exact fun e => hnew (e ▸ ha)⟩, fun y => ?_⟩
  by_cases hy : y = x
  · subst hy; simp [hT, hp, Lit.sameKey]
  · simp [h.2 y, hy, Lit.sameKey]
theorem CollL.no (h : CollL S p left ss) {x : Int} {T : HS} (hT : S.lock x = some T) (hp : p T = false) : CollL S p (fun z => left z && !z.sameKey (.int .i64 x)) ss := by
  refine ⟨h.1, fun y => ?_⟩
  by_cases hy : y = x
  · subst hy
    rw [h.2 y]
    constructor
    · rintro ⟨T', h1, h2, _⟩; rw [hT] at h1; cases h1; rw [hp] at h2; cases h2
    · rintro ⟨T', h1, h2, _⟩; rw [hT] at h1; cases h1; rw [hp] at h2; cases h2
  · simp [h.2 y, hy, Lit.sameKey]
theorem CollL.done {t : Int} (h : CollL S (fun H => H.holder == t) left ss) (hr : Rt S.locks S.lock) (hl : ∀ kl, left kl = false) : ss.mergeSort leI = S.holdsOf t := by
  refine mergeSort_of_perm_i ((List.perm_ext_iff_of_nodup h.1 (hr.1.filter _)).2 fun x => ?_)
  rw [h.2 x, List.mem_filter, hr.2 x]
  constructor
  · rintro ⟨T, h1, h2, _⟩; simp [h1]; simpa using h2
  · rintro ⟨h1, h2⟩
    cases hT : S.lock x with
    | none => rw [hT] at h1; cases h1
    | some T => rw [hT] at h2; exact ⟨T, rfl, by simpa using h2, hl _⟩
theorem entry_lock (h : TabAt HK w R.l S.locks S.lock) {x : Int} {c : Option Nat} {y : DU × List MemPlace} (hv : ptrElem (mkP c) = some y) (hat : ∀ zd, R.l.D.atKey (.int .i64 x) zd = y.1) : ∃ T, S.lock x = some T ∧ c = some (R.l.c x).1 := by
  cases hT : S.lock x with
  | none =>
    have h1 := h.not hT
    have h2 := has_true_of_atKey hat
    rw [h1] at h2; cases h2
  | some T =>
    refine ⟨T, rfl, ?_⟩
    have := (h.get hT).1 .nil
    rw [hat] at this
    obtain ⟨y1, y2⟩ := y
    simp only at this
    subst this
    have := ptrElem_inv hv
    cases c with
    | none => cases this
    | some b => simp [mkP] at this; rw [this]
end

set_option maxRecDepth 100000 in
set_option maxHeartbeats 2000000 in
theorem holds_some (d b : Nat) (R : Rp) (S : SS) (t : Int) (w : World) (h : At w d R S) (hb : R.l.m = some b) (h64 : S.locks.length ≤ 1000000) (hr : Rt S.locks S.lock) :
    Calls Try.prog 44 #[.pointer (some ⟨d, 0, none⟩), .int .i64 t] w (Told (S.holdsOf t) w) := by
  obtain ⟨i0, hi, hz0, hz1, hz2⟩ := info_parts info3
  have hdl := h.blk.lt
  have c2 := h.c2
  rw [hb] at c2
  have hown := h.l.map
  rw [hb] at hown
  have hown' : w.ownsMap Try.prog 3 ptrElem b (Maps.size R.l.D) R.l.D := hown
  have hbl : b < w.heap.size := World.ownsMap.lt hown'
  have hown2 := World.ownsMap.alloc (b := b) hown' (.cells #[] 3)
  have hsz : Maps.size R.l.D ≤ 1000000 := by rw [h.l.sz]; exact h64
  have HN := Lib.hid hown2
  have H := Lib.hid h
  have HR := Lib.hid hr
  have HB := Lib.hid hb
  clear hown hown' hown2 h hr hb
  go_enter Try.func44, Try.ntmps44
  go_wp2_with (at_range; refine wpList_range_own _ rfl _ 53 rfl 3 63 law3 Try.underlying53 ptrElem b _ _ rfl HN.out ?_; intro w0 hrg0 hg0 hs0)
  go_frame
  obtain ⟨r, hr⟩ : ∃ r, (w.alloc (.cells #[] 3)).heap.size = r := ⟨_, rfl⟩
  rw [hr] at hrg0 hs0 ⊢
  have hr1 : w.heap.size < r := by rw [← hr]; simp
  clear hr hs0
  go_loopw [5] (fun u wr => ∃ (left : Lit → Bool) (cnt : Nat) (ss : List Int) (g c : Nat), u = .slice (some ⟨g, 0, none⟩) ss.length c ∧ wr.ranges Try.prog 3 ptrElem b r (Maps.size R.l.D) R.l.D left cnt ∧ ss.length + cnt ≤ Maps.size R.l.D ∧
      wr.ownsRow w.heap.size 3 1 (.slice (some ⟨g, 0, none⟩) ss.length c) ss.length (ss.map encZ) ∧ CollL S (fun H => H.holder == t) left ss ∧ Fr No w wr)
    (fun _ wr => wr.rangeLeft b r)
  case atStart =>
    refine ⟨_, _, [], w.heap.size, 0, rfl, hrg0, by simp, ?_, CollL.start H.out.l, ((Fr.refl No w).alloc _).grown hg0 (fun k hk => by cases hk)⟩
    have h1 : (w.alloc (.cells #[] 3)).ownsRow w.heap.size 3 1 (.slice (some ⟨w.heap.size, 0, none⟩) 0 0) 0 [] :=
      ⟨rfl, .inr ⟨w.heap.size, 0, #[], rfl, Nat.le_refl _, heap_alloc_new w _, Nat.le_refl _, Nat.zero_le _, rfl, rfl⟩⟩
    exact h1.kept hg0 (Or.inr (by simp [Value.ownBlock]))
  case round =>
    obtain ⟨left, cnt, ss, g, c, rfl, hrg, hcs, hrow, hC, hfr⟩ := hrel
    have HRG := Lib.hid hrg
    have HC2 := Lib.hid hC
    have HF := Lib.hid hfr
    have HRW := Lib.hid hrow
    clear hrg0 hg0 hrg hC hfr hrow c2
    go_wp2_with (at_next; refine wpList_next_ranges _ rfl _ rfl 3 law3 ptrElem (Value.int .i64) mkP (fun key kl hk => by obtain ⟨x, hx, _⟩ := Maps.keyOf_i64 Try.underlying3 hk; exact ⟨x, hx⟩) (fun v y hv => ptrElem_shape hv) b r _ _ _ _ rfl HRG.out ?_ ?_)
    · intro hc0 hl0
      have HL := Lib.hid hl0
      clear hl0 hc0
      go_wp2_with (go_at_call 48; refine (sort_own w.heap.size g c ss _ HRW.out (by omega)).mono ?_; rintro e w' ⟨rfl, hrow2, hg2⟩; have HRW2 := Lib.hid hrow2; have HG2 := Lib.hid hg2; clear hrow2 hg2)
      go_ret
      have hd := HC2.out.done HR.out HL.out
      have hrow2 := HRW2.out
      have hlen : ss.length = (S.holdsOf t).length := by rw [← hd, List.length_mergeSort]
      rw [hd, hlen] at hrow2
      refine ⟨g, c, by rw [hlen]; rfl, hrow2, HF.out.grown HG2.out fun k hk hkl => ?_⟩
      cases hk
      have := (HRW.out.lt g rfl).1
      omega
    · intro x oc kl yl yp w1 cnt1 hkey hlx hv hat hrg1 hlt hg1 hs1 hen
      obtain ⟨x', ex, rfl, hwx⟩ := Maps.keyOf_i64 Try.underlying3 hkey
      cases ex
      have hfr1 : Fr No w w1 := HF.out.grown hg1 (fun k hk hlt => by cases hk; omega)
      obtain ⟨T, hT, rfl⟩ := entry_lock H.out.l hv hat
      have hA1 := H.out.keep hfr1
      have hc0 : w1.cell? ⟨(R.l.c x).1, 0, none⟩ = some (.int .i64 T.holder) := (hA1.lblk hT).1.cell 0
      have hrow1 := HRW.out.kept hg1 (Or.inr (row_ne_iter HRW.out HRG.out).symm)
      have hen' : (Instr.entry (.pointer (some ⟨r, 0, none⟩))).run Try.prog w1 = .ok (.tuple #[.int .i64 x, .pointer (some ⟨(R.l.c x).1, 0, none⟩)]) w1 := hen
      have hm : Value.tuple #[.bool true, .int .i64 x, mkP (some (R.l.c x).1)] = .tuple #[.bool true, .int .i64 x, .pointer (some ⟨(R.l.c x).1, 0, none⟩)] := rfl
      rw [hm]
      have HRG1 := Lib.hid hrg1
      have HRW1 := Lib.hid hrow1
      have HF1 := Lib.hid hfr1
      have HT := Lib.hid hT
      have HLX := Lib.hid hlx
      have hlt1 := hg1.size
      have hwsz := HF.out.size
      clear hen hm hkey hv hat hg1 hA1 hT hlx hs1 hrg1 hrow1 hfr1
      by_cases hp : T.holder = t
      · have hp' : (T.holder == t) = true := by simpa using hp
        have HP := Lib.hid hp'
        have A1 := Lib.hid (World.news_of_block (cs := #[encZ x]) (t := 3) (fr := (0, 0)) (heap_alloc_new w1 (.cells #[encZ x] 3)))
        have A2 := Lib.hid (HRW1.out.alloc (.cells #[encZ x] 3))
        have hp2 : (T.holder == t) = true := hp'
        clear hp hp'
        go_wp2_with (at_builtin; refine wpList_append_lies _ (by rfl) _ _ 29 (by rfl) w.heap.size 3 i0 _ 1 8 Try.underlying29 hi hz0 hz1 hz2 rfl (by omega) (.slice (some ⟨g, 0, none⟩) ss.length c) _ _ (by rfl) A2.out ⟨w1.heap.size, 0, none⟩ 1 1 [encZ x] (by rfl) (by rfl) A1.out (by simp [Value.oneCell']) (by omega) (by unfold maxLen; omega) (by omega) (by simp; omega) _ rfl ?_; intro g' cap' w5 ho3 hg3 hat3 hl3; have HO3 := Lib.hid ho3; have HG3 := Lib.hid hg3; clear ho3 hg3 hat3)
        have hrg3 : w5.ranges Try.prog 3 ptrElem b r (Maps.size R.l.D) R.l.D _ cnt1 := (HRG1.out.alloc _).kept HG3.out (row_ne_low HRW1.out hbl) (row_ne_iter HRW1.out HRG1.out)
        go_roundw
        case rel =>
          refine ⟨_, cnt1, ss ++ [x], g', cap', by simp, hrg3, by simp; omega, by simpa using HO3.out, HC2.out.yes HT.out HP.out HLX.out, ?_⟩
          refine (HF1.out.alloc _).grown HG3.out fun k hk hkl => ?_
          have := (HRW1.out.lt k hk).1
          omega
        case measure =>
          rw [hrg3.left_eq, HRG.out.left_eq]; exact hlt
      · have hp' : (T.holder == t) = false := by simpa using hp
        have HP := Lib.hid hp'
        clear hp
        go_wp2
        go_roundw
        case rel =>
          refine ⟨_, cnt1, ss, g, c, rfl, HRG1.out, by omega, HRW1.out, HC2.out.no HT.out HP.out, HF1.out⟩
        case measure =>
          rw [HRG1.out.left_eq, HRG.out.left_eq]; exact hlt

set_option maxHeartbeats 1000000 in
theorem holds_empty (d : Nat) (R : Rp) (S : SS) (t : Int) (w : World) (h : At w d R S) (hb : R.l.m = none) :
    Calls Try.prog 44 #[.pointer (some ⟨d, 0, none⟩), .int .i64 t] w (Told (S.holdsOf t) w) := by
  have hk : S.locks = [] := (tab_none h.l hb).2.1
  have ht : S.holdsOf t = [] := by unfold SS.holdsOf; rw [hk]; exact List.mergeSort_nil
  have hdl := h.blk.lt
  have c2 := h.c2
  rw [hb] at c2
  rw [ht]
  have hrg := run_range_nilMap (P := Try.prog) (w.alloc (.cells #[] 3)) 53 3 63 Try.underlying53
  have hnx : ∀ ty, (Instr.next (.pointer (some ⟨(w.alloc (.cells #[] 3)).heap.size, 0, none⟩)) false ty).run Try.prog ((w.alloc (.cells #[] 3)).alloc (.mapIter none 0 #[] 0)) = _ := fun ty => run_next_nilMap _ ty 0 0 #[]
  have e1 : (w.alloc (.cells #[] 3)).heap.size = w.heap.size + 1 := by simp
  rw [e1] at hrg hnx
  have hs := sort_none (some ⟨w.heap.size, 0, none⟩) 0 ((w.alloc (.cells #[] 3)).alloc (.mapIter none 0 #[] 0))
  have ho : ((w.alloc (.cells #[] 3)).alloc (.mapIter none 0 #[] 0)).ownsRow w.heap.size 3 1 (.slice (some ⟨w.heap.size, 0, none⟩) 0 0) 0 [] :=
    World.ownsRow.alloc ⟨rfl, .inr ⟨w.heap.size, 0, #[], rfl, Nat.le_refl _, heap_alloc_new w _, Nat.le_refl _, Nat.zero_le _, rfl, rfl⟩⟩ _
  have hf : Fr No w ((w.alloc (.cells #[] 3)).alloc (.mapIter none 0 #[] 0)) := ((Fr.refl No w).alloc _).alloc _
  have HO := Lib.hid ho
  have HF := Lib.hid hf
  clear h hb hk ht ho hf e1
  go_enter Try.func44, Try.ntmps44
  go_wp2
  refine wp_loop_rounds 1 ?_
  rw [rounds_succ]
  go_wp2_with (go_at_call 48; refine hs.mono ?_; rintro e w' ⟨rfl, rfl⟩)
  go_ret
  exact ⟨w.heap.size, 0, rfl, HO.out, HF.out⟩

theorem holds_call (d : Nat) (R : Rp) (S : SS) (t : Int) (w : World) (h : At w d R S) (hW : WF S) : Calls Try.prog 44 #[.pointer (some ⟨d, 0, none⟩), .int .i64 t] w (Told (S.holdsOf t) w) := by
  cases hb : R.l.m with
  | none => exact holds_empty d R S t w h hb
  | some b => exact holds_some d b R S t w h hb (Nat.le_trans hW.lused hW.used) hW.rl

end Go.Proofs.Ytnonidoeakhfdaa
