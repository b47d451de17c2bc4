/- The tasks that are meant, rising: those. -/
import Derived.Test.YtnonidoeakhfdaaL1
namespace Go.Proofs.Ytnonidoeakhfdaa
open Go.RowKit Go.Maps Go.Sort
set_option linter.unusedVariables false

/-- The numbers of the tasks that are meant. -/
def SS.those (S : SS) (p : TS → Bool) : List Int := S.keys.filter fun n => (S.task n).any p

/-- What was met so far. -/
def CollP (S : SS) (p : TS → Bool) (left : Lit → Bool) (ss : List Int) : Prop :=
  ss.Nodup ∧ ∀ x, x ∈ ss ↔ ∃ T, S.task x = some T ∧ p T = true ∧ left (.int .i64 x) = false

section
variable {w : World} {d : Nat} {R : Rp} {S : SS} {p : TS → Bool} {left : Lit → Bool} {ss : List Int}
theorem CollP.start (h : TabAt TK w R.t S.keys S.task) : CollP S p (has R.t.D) [] :=
  ⟨List.nodup_nil, fun x => ⟨(fun h => by cases h), (fun ⟨T, h1, h2, h3⟩ => by rw [h.has h1] at h3; cases h3)⟩⟩
theorem CollP.yes (h : CollP S p left ss) {x : Int} {T : TS} (hT : S.task x = some T) (hp : p T = true) (hl : left (.int .i64 x) = true) : CollP S p (fun z => left z && !z.sameKey (.int .i64 x)) (ss ++ [x]) := by
  have hnew : x ∉ ss := fun hx => by obtain ⟨_, _, _, h3⟩ := (h.2 x).1 hx; rw [hl] at h3; cases h3
  refine ⟨List.nodup_append.2 ⟨h.1, by simp, fun a ha b hb => by simp at hb; subst hb; exact fun e => hnew (e ▸ ha)⟩, fun y => ?_⟩
  by_cases hy : y = x
  · subst hy; simp [hT, hp, Lit.sameKey]
  · simp [h.2 y, hy, Lit.sameKey]
theorem CollP.no (h : CollP S p left ss) {x : Int} {T : TS} (hT : S.task x = some T) (hp : p T = false) : CollP S p (fun z => left z && !z.sameKey (.int .i64 x)) ss := by
  refine ⟨h.1, fun y => ?_⟩
  by_cases hy : y = x
  · subst hy
    rw [h.2 y]
    constructor
    · rintro ⟨T', h1, h2, _⟩; rw [hT] at h1; cases h1; rw [hp] at h2; cases h2
    · rintro ⟨T', h1, h2, _⟩; rw [hT] at h1; cases h1; rw [hp] at h2; cases h2
  · simp [h.2 y, hy, Lit.sameKey]
theorem CollP.done (h : CollP S p left ss) (hr : Rt S.keys S.task) (hs : S.keys.Pairwise (· < ·)) (hl : ∀ kl, left kl = false) : ss.mergeSort leI = S.those p := by
  have hp : ss.Perm (S.those p) := by
    refine (List.perm_ext_iff_of_nodup h.1 (hr.1.filter _)).2 fun x => ?_
    rw [h.2 x, List.mem_filter, hr.2 x]
    constructor
    · rintro ⟨T, h1, h2, _⟩; simp [h1, h2]
    · rintro ⟨h1, h2⟩
      cases hT : S.task x with
      | none => rw [hT] at h1; cases h1
      | some T => rw [hT] at h2; exact ⟨T, rfl, by simpa using h2, hl _⟩
  have e1 := mergeSort_of_perm_i hp
  rw [e1]
  exact List.mergeSort_of_pairwise ((hs.filter _).imp fun h => by simp only [leI, decide_eq_true_eq]; omega)
theorem those_len (S : SS) (p : TS → Bool) : (S.those p).length ≤ S.keys.length := List.length_filter_le _ _

def mkP (o : Option Nat) : Value := .pointer (o.map fun b => ⟨b, 0, none⟩)
theorem ptrElem_shape {v : Value} {y : DU × List MemPlace} (h : ptrElem v = some y) : ∃ c, v = mkP c := by
  unfold ptrElem at h
  split at h
  · exact ⟨none, rfl⟩
  · exact ⟨some _, rfl⟩
  · cases h
theorem entry_task (h : TabAt TK w R.t S.keys S.task) {x : Int} {c : Option Nat} {y : DU × List MemPlace} (hv : ptrElem (mkP c) = some y) (hat : ∀ zd, R.t.D.atKey (.int .i64 x) zd = y.1) : ∃ T, S.task x = some T ∧ c = some (R.t.c x).1 := by
  cases hT : S.task x with
  | none =>
    have h1 := h.not hT
    have h2 := has_true_of_atKey hat
    rw [h1] at h2; cases h2
  | some T =>
    refine ⟨T, rfl, ?_⟩
    have := (h.get hT).1 .nil
    rw [hat] at this
    obtain ⟨y1, y2⟩ := y
    simp only at this
    subst this
    have := ptrElem_inv hv
    cases c with
    | none => cases this
    | some b => simp [mkP] at this; rw [this]
end

/-- What the call hands back: a slice of its own. -/
def Told (L : List Int) (w : World) (e : Ending) (w' : World) : Prop :=
  ∃ g cap, e = .returned (.slice (some ⟨g, 0, none⟩) L.length cap) ∧ w'.ownsRow w.heap.size 3 1 (.slice (some ⟨g, 0, none⟩) L.length cap) L.length (L.map encZ) ∧ Fr No w w'

set_option maxRecDepth 100000 in
set_option maxHeartbeats 2000000 in
theorem those_some35 (d b : Nat) (R : Rp) (S : SS) (p : TS → Bool) (w : World) (h : At w d R S) (hb : R.t.m = some b) (h64 : S.keys.length ≤ 64) (hr : Rt S.keys S.task) (hs : S.keys.Pairwise (· < ·))
    (hcl : ∀ wr g T, Fr No w wr → Blk wr g 79 T.cells → Calls Try.prog 35 #[.pointer (some ⟨g, 0, none⟩)] wr fun e w' => e = .returned (.bool (p T)) ∧ ∃ m, w' = wr.drewN m) :
    Calls Try.prog 34 #[.pointer (some ⟨d, 0, none⟩), .func (.func 35) #[] #[]] w (Told (S.those p) w) := by
  obtain ⟨i0, hi, hz0, hz1, hz2⟩ := info_parts info3
  have hdl := h.blk.lt
  have c0 := h.c0
  rw [hb] at c0
  have hown := h.t.map
  rw [hb] at hown
  have hown' : w.ownsMap Try.prog 3 ptrElem b (Maps.size R.t.D) R.t.D := hown
  have hbl : b < w.heap.size := World.ownsMap.lt hown'
  have hown2 := World.ownsMap.alloc (b := b) hown' (.cells #[] 3)
  have hsz : Maps.size R.t.D ≤ 64 := by rw [h.t.sz]; exact h64
  have HN := Lib.hid hown2
  have H := Lib.hid h
  have HR := Lib.hid hr
  have HS := Lib.hid hs
  have HB := Lib.hid hb
  have HC := Lib.hid hcl
  clear hown hown' hown2 h hr hs hb hcl
  go_enter Try.func34, Try.ntmps34
  go_wp2_with (at_range; refine wpList_range_own _ rfl _ 52 rfl 3 59 law3 Try.underlying52 ptrElem b _ _ rfl HN.out ?_; intro w0 hrg0 hg0 hs0)
  go_frame
  obtain ⟨r, hr⟩ : ∃ r, (w.alloc (.cells #[] 3)).heap.size = r := ⟨_, rfl⟩
  rw [hr] at hrg0 hs0 ⊢
  have hr1 : w.heap.size < r := by rw [← hr]; simp
  clear hr hs0
  go_loopw [5] (fun u wr => ∃ (left : Lit → Bool) (cnt : Nat) (ss : List Int) (g c : Nat), u = .slice (some ⟨g, 0, none⟩) ss.length c ∧ wr.ranges Try.prog 3 ptrElem b r (Maps.size R.t.D) R.t.D left cnt ∧ ss.length + cnt ≤ Maps.size R.t.D ∧
      wr.ownsRow w.heap.size 3 1 (.slice (some ⟨g, 0, none⟩) ss.length c) ss.length (ss.map encZ) ∧ CollP S p left ss ∧ Fr No w wr)
    (fun _ wr => wr.rangeLeft b r)
  case atStart =>
    refine ⟨_, _, [], w.heap.size, 0, rfl, hrg0, by simp, ?_, CollP.start H.out.t, ((Fr.refl No w).alloc _).grown hg0 (fun k hk => by cases hk)⟩
    have h1 : (w.alloc (.cells #[] 3)).ownsRow w.heap.size 3 1 (.slice (some ⟨w.heap.size, 0, none⟩) 0 0) 0 [] :=
      ⟨rfl, .inr ⟨w.heap.size, 0, #[], rfl, Nat.le_refl _, heap_alloc_new w _, Nat.le_refl _, Nat.zero_le _, rfl, rfl⟩⟩
    exact h1.kept hg0 (Or.inr (by simp [Value.ownBlock]))
  case round =>
    obtain ⟨left, cnt, ss, g, c, rfl, hrg, hcs, hrow, hC, hfr⟩ := hrel
    have HRG := Lib.hid hrg
    have HC2 := Lib.hid hC
    have HF := Lib.hid hfr
    have HRW := Lib.hid hrow
    clear hrg0 hg0 hrg hC hfr hrow c0
    go_wp2_with (at_next; refine wpList_next_ranges _ rfl _ rfl 3 law3 ptrElem (Value.int .i64) mkP (fun key kl hk => by obtain ⟨x, hx, _⟩ := Maps.keyOf_i64 Try.underlying3 hk; exact ⟨x, hx⟩) (fun v y hv => ptrElem_shape hv) b r _ _ _ _ rfl HRG.out ?_ ?_)
    · intro hc0 hl0
      have HL := Lib.hid hl0
      clear hl0 hc0
      go_wp2_with (go_at_call 48; refine (sort_own w.heap.size g c ss _ HRW.out (by omega)).mono ?_; rintro e w' ⟨rfl, hrow2, hg2⟩; have HRW2 := Lib.hid hrow2; have HG2 := Lib.hid hg2; clear hrow2 hg2)
      go_ret
      have hd := HC2.out.done HR.out HS.out HL.out
      have hrow2 := HRW2.out
      have hlen : ss.length = (S.those p).length := by rw [← hd, List.length_mergeSort]
      rw [hd, hlen] at hrow2
      refine ⟨g, c, by rw [hlen]; rfl, hrow2, HF.out.grown HG2.out fun k hk hkl => ?_⟩
      cases hk
      have := (HRW.out.lt g rfl).1
      omega
    · intro x oc kl yl yp w1 cnt1 hkey hlx hv hat hrg1 hlt hg1 hs1 hen
      obtain ⟨x', ex, rfl, hwx⟩ := Maps.keyOf_i64 Try.underlying3 hkey
      cases ex
      have hfr1 : Fr No w w1 := HF.out.grown hg1 (fun k hk hlt => by cases hk; omega)
      obtain ⟨T, hT, rfl⟩ := entry_task H.out.t hv hat
      have hA1 := H.out.keep hfr1
      have hcall := HC.out w1 (R.t.c x).1 T hfr1 (hA1.tblk hT)
      have hrow1 := HRW.out.kept hg1 (Or.inr (row_ne_iter HRW.out HRG.out).symm)
      have hen' : (Instr.entry (.pointer (some ⟨r, 0, none⟩))).run Try.prog w1 = .ok (.tuple #[.int .i64 x, .pointer (some ⟨(R.t.c x).1, 0, none⟩)]) w1 := hen
      have hm : Value.tuple #[.bool true, .int .i64 x, mkP (some (R.t.c x).1)] = .tuple #[.bool true, .int .i64 x, .pointer (some ⟨(R.t.c x).1, 0, none⟩)] := rfl
      rw [hm]
      have HRG1 := Lib.hid hrg1
      have HRW1 := Lib.hid hrow1
      have HF1 := Lib.hid hfr1
      have HT := Lib.hid hT
      have HLX := Lib.hid hlx
      have HSZ := Lib.hid hs1
      have hlt1 := hg1.size
      have hwsz := HF.out.size
      clear hen hm hkey hv hat hg1 hA1 hT hlx hs1 hrg1 hrow1 hfr1
      cases hp : p T
      · rw [hp] at hcall
        have HP := Lib.hid hp
        clear hp
        go_wp2_with (go_at_call 35; refine hcall.mono ?_; rintro e w' ⟨rfl, m, rfl⟩)
        go_roundw
        case rel =>
          refine ⟨_, cnt1, ss, g, c, rfl, ?_, by omega, ?_, HC2.out.no HT.out HP.out, HF1.out.drewN m⟩
          · exact HRG1.out.kept ⟨rfl, rfl, rfl, Nat.le_refl _, fun _ _ _ => rfl⟩ (row := none) (by simp) (by simp)
          · exact HRW1.out
        case measure =>
          have e2 := HRG1.out.left_eq
          have e3 := HRG.out.left_eq
          have e4 : (w1.drewN m).rangeLeft b r = w1.rangeLeft b r := rfl
          rw [e4, e2, e3]; exact hlt
      · rw [hp] at hcall
        have HP := Lib.hid hp
        clear hp
        have A1 := Lib.hid (fun m => World.news_of_block (cs := #[encZ x]) (t := 3) (fr := (0, 0)) (heap_alloc_new (w1.drewN m) (.cells #[encZ x] 3)))
        have A2 := Lib.hid (fun m => (show (w1.drewN m).ownsRow w.heap.size 3 1 (.slice (some ⟨g, 0, none⟩) ss.length c) ss.length (ss.map encZ) from HRW1.out).alloc (.cells #[encZ x] 3))
        go_wp2_with (first
          | (go_at_call 35; refine hcall.mono ?_; rintro e w' ⟨rfl, m, rfl⟩)
          | (at_builtin; refine wpList_append_lies _ (by rfl) _ _ 29 (by rfl) w.heap.size 3 i0 _ 1 8 Try.underlying29 hi hz0 hz1 hz2 rfl (by omega) (.slice (some ⟨g, 0, none⟩) ss.length c) _ _ (by rfl) (A2.out m) ⟨w1.heap.size, 0, none⟩ 1 1 [encZ x] (by rfl) (by rfl) (A1.out m) (by simp [Value.oneCell']) (by omega) (by unfold maxLen; omega) (by omega) (by simp; omega) _ rfl ?_; intro g' cap' w5 ho3 hg3 hat3 hl3; have HO3 := Lib.hid ho3; have HG3 := Lib.hid hg3; clear ho3 hg3 hat3))
        have hgd : w1.grownBy (w1.drewN m) none := ⟨rfl, rfl, rfl, Nat.le_refl _, fun _ _ _ => rfl⟩
        have hrg3 : w5.ranges Try.prog 3 ptrElem b r (Maps.size R.t.D) R.t.D _ cnt1 := ((HRG1.out.kept hgd (by simp) (by simp)).alloc _).kept HG3.out (row_ne_low HRW1.out hbl) (row_ne_iter HRW1.out HRG1.out)
        go_roundw
        case rel =>
          refine ⟨_, cnt1, ss ++ [x], g', cap', by simp, hrg3, by simp; omega, by simpa using HO3.out, HC2.out.yes HT.out HP.out HLX.out, ?_⟩
          refine ((HF1.out.drewN m).alloc _).grown HG3.out fun k hk hkl => ?_
          have := (HRW1.out.lt k hk).1
          omega
        case measure =>
          rw [hrg3.left_eq, HRG.out.left_eq]; exact hlt

set_option maxRecDepth 100000 in
set_option maxHeartbeats 2000000 in
theorem those_some45 (d b : Nat) (R : Rp) (S : SS) (p : TS → Bool) (lb : Nat) (w : World) (h : At w d R S) (hb : R.t.m = some b) (h64 : S.keys.length ≤ 64) (hr : Rt S.keys S.task) (hs : S.keys.Pairwise (· < ·))
    (hcl : ∀ wr g T, Fr No w wr → Blk wr g 79 T.cells → Calls Try.prog 45 #[.pointer (some ⟨g, 0, none⟩), .pointer (some ⟨lb, 0, none⟩)] wr fun e w' => e = .returned (.bool (p T)) ∧ ∃ m, w' = wr.drewN m) :
    Calls Try.prog 34 #[.pointer (some ⟨d, 0, none⟩), .func (.func 45) #[] #[.pointer (some ⟨lb, 0, none⟩)]] w (Told (S.those p) w) := by
  obtain ⟨i0, hi, hz0, hz1, hz2⟩ := info_parts info3
  have hdl := h.blk.lt
  have c0 := h.c0
  rw [hb] at c0
  have hown := h.t.map
  rw [hb] at hown
  have hown' : w.ownsMap Try.prog 3 ptrElem b (Maps.size R.t.D) R.t.D := hown
  have hbl : b < w.heap.size := World.ownsMap.lt hown'
  have hown2 := World.ownsMap.alloc (b := b) hown' (.cells #[] 3)
  have hsz : Maps.size R.t.D ≤ 64 := by rw [h.t.sz]; exact h64
  have HN := Lib.hid hown2
  have H := Lib.hid h
  have HR := Lib.hid hr
  have HS := Lib.hid hs
  have HB := Lib.hid hb
  have HC := Lib.hid hcl
  clear hown hown' hown2 h hr hs hb hcl
  go_enter Try.func34, Try.ntmps34
  go_wp2_with (at_range; refine wpList_range_own _ rfl _ 52 rfl 3 59 law3 Try.underlying52 ptrElem b _ _ rfl HN.out ?_; intro w0 hrg0 hg0 hs0)
  go_frame
  obtain ⟨r, hr⟩ : ∃ r, (w.alloc (.cells #[] 3)).heap.size = r := ⟨_, rfl⟩
  rw [hr] at hrg0 hs0 ⊢
  have hr1 : w.heap.size < r := by rw [← hr]; simp
  clear hr hs0
  go_loopw [5] (fun u wr => ∃ (left : Lit → Bool) (cnt : Nat) (ss : List Int) (g c : Nat), u = .slice (some ⟨g, 0, none⟩) ss.length c ∧ wr.ranges Try.prog 3 ptrElem b r (Maps.size R.t.D) R.t.D left cnt ∧ ss.length + cnt ≤ Maps.size R.t.D ∧
      wr.ownsRow w.heap.size 3 1 (.slice (some ⟨g, 0, none⟩) ss.length c) ss.length (ss.map encZ) ∧ CollP S p left ss ∧ Fr No w wr)
    (fun _ wr => wr.rangeLeft b r)
  case atStart =>
    refine ⟨_, _, [], w.heap.size, 0, rfl, hrg0, by simp, ?_, CollP.start H.out.t, ((Fr.refl No w).alloc _).grown hg0 (fun k hk => by cases hk)⟩
    have h1 : (w.alloc (.cells #[] 3)).ownsRow w.heap.size 3 1 (.slice (some ⟨w.heap.size, 0, none⟩) 0 0) 0 [] :=
      ⟨rfl, .inr ⟨w.heap.size, 0, #[], rfl, Nat.le_refl _, heap_alloc_new w _, Nat.le_refl _, Nat.zero_le _, rfl, rfl⟩⟩
    exact h1.kept hg0 (Or.inr (by simp [Value.ownBlock]))
  case round =>
    obtain ⟨left, cnt, ss, g, c, rfl, hrg, hcs, hrow, hC, hfr⟩ := hrel
    have HRG := Lib.hid hrg
    have HC2 := Lib.hid hC
    have HF := Lib.hid hfr
    have HRW := Lib.hid hrow
    clear hrg0 hg0 hrg hC hfr hrow c0
    go_wp2_with (at_next; refine wpList_next_ranges _ rfl _ rfl 3 law3 ptrElem (Value.int .i64) mkP (fun key kl hk => by obtain ⟨x, hx, _⟩ := Maps.keyOf_i64 Try.underlying3 hk; exact ⟨x, hx⟩) (fun v y hv => ptrElem_shape hv) b r _ _ _ _ rfl HRG.out ?_ ?_)
    · intro hc0 hl0
      have HL := Lib.hid hl0
      clear hl0 hc0
      go_wp2_with (go_at_call 48; refine (sort_own w.heap.size g c ss _ HRW.out (by omega)).mono ?_; rintro e w' ⟨rfl, hrow2, hg2⟩; have HRW2 := Lib.hid hrow2; have HG2 := Lib.hid hg2; clear hrow2 hg2)
      go_ret
      have hd := HC2.out.done HR.out HS.out HL.out
      have hrow2 := HRW2.out
      have hlen : ss.length = (S.those p).length := by rw [← hd, List.length_mergeSort]
      rw [hd, hlen] at hrow2
      refine ⟨g, c, by rw [hlen]; rfl, hrow2, HF.out.grown HG2.out fun k hk hkl => ?_⟩
      cases hk
      have := (HRW.out.lt g rfl).1
      omega
    · intro x oc kl yl yp w1 cnt1 hkey hlx hv hat hrg1 hlt hg1 hs1 hen
      obtain ⟨x', ex, rfl, hwx⟩ := Maps.keyOf_i64 Try.underlying3 hkey
      cases ex
      have hfr1 : Fr No w w1 := HF.out.grown hg1 (fun k hk hlt => by cases hk; omega)
      obtain ⟨T, hT, rfl⟩ := entry_task H.out.t hv hat
      have hA1 := H.out.keep hfr1
      have hcall := HC.out w1 (R.t.c x).1 T hfr1 (hA1.tblk hT)
      have hrow1 := HRW.out.kept hg1 (Or.inr (row_ne_iter HRW.out HRG.out).symm)
      have hen' : (Instr.entry (.pointer (some ⟨r, 0, none⟩))).run Try.prog w1 = .ok (.tuple #[.int .i64 x, .pointer (some ⟨(R.t.c x).1, 0, none⟩)]) w1 := hen
      have hm : Value.tuple #[.bool true, .int .i64 x, mkP (some (R.t.c x).1)] = .tuple #[.bool true, .int .i64 x, .pointer (some ⟨(R.t.c x).1, 0, none⟩)] := rfl
      rw [hm]
      have HRG1 := Lib.hid hrg1
      have HRW1 := Lib.hid hrow1
      have HF1 := Lib.hid hfr1
      have HT := Lib.hid hT
      have HLX := Lib.hid hlx
      have HSZ := Lib.hid hs1
      have hlt1 := hg1.size
      have hwsz := HF.out.size
      clear hen hm hkey hv hat hg1 hA1 hT hlx hs1 hrg1 hrow1 hfr1
      cases hp : p T
      · rw [hp] at hcall
        have HP := Lib.hid hp
        clear hp
        go_wp2_with (go_at_call 45; refine hcall.mono ?_; rintro e w' ⟨rfl, m, rfl⟩)
        go_roundw
        case rel =>
          refine ⟨_, cnt1, ss, g, c, rfl, ?_, by omega, ?_, HC2.out.no HT.out HP.out, HF1.out.drewN m⟩
          · exact HRG1.out.kept ⟨rfl, rfl, rfl, Nat.le_refl _, fun _ _ _ => rfl⟩ (row := none) (by simp) (by simp)
          · exact HRW1.out
        case measure =>
          have e2 := HRG1.out.left_eq
          have e3 := HRG.out.left_eq
          have e4 : (w1.drewN m).rangeLeft b r = w1.rangeLeft b r := rfl
          rw [e4, e2, e3]; exact hlt
      · rw [hp] at hcall
        have HP := Lib.hid hp
        clear hp
        have A1 := Lib.hid (fun m => World.news_of_block (cs := #[encZ x]) (t := 3) (fr := (0, 0)) (heap_alloc_new (w1.drewN m) (.cells #[encZ x] 3)))
        have A2 := Lib.hid (fun m => (show (w1.drewN m).ownsRow w.heap.size 3 1 (.slice (some ⟨g, 0, none⟩) ss.length c) ss.length (ss.map encZ) from HRW1.out).alloc (.cells #[encZ x] 3))
        go_wp2_with (first
          | (go_at_call 45; refine hcall.mono ?_; rintro e w' ⟨rfl, m, rfl⟩)
          | (at_builtin; refine wpList_append_lies _ (by rfl) _ _ 29 (by rfl) w.heap.size 3 i0 _ 1 8 Try.underlying29 hi hz0 hz1 hz2 rfl (by omega) (.slice (some ⟨g, 0, none⟩) ss.length c) _ _ (by rfl) (A2.out m) ⟨w1.heap.size, 0, none⟩ 1 1 [encZ x] (by rfl) (by rfl) (A1.out m) (by simp [Value.oneCell']) (by omega) (by unfold maxLen; omega) (by omega) (by simp; omega) _ rfl ?_; intro g' cap' w5 ho3 hg3 hat3 hl3; have HO3 := Lib.hid ho3; have HG3 := Lib.hid hg3; clear ho3 hg3 hat3))
        have hgd : w1.grownBy (w1.drewN m) none := ⟨rfl, rfl, rfl, Nat.le_refl _, fun _ _ _ => rfl⟩
        have hrg3 : w5.ranges Try.prog 3 ptrElem b r (Maps.size R.t.D) R.t.D _ cnt1 := ((HRG1.out.kept hgd (by simp) (by simp)).alloc _).kept HG3.out (row_ne_low HRW1.out hbl) (row_ne_iter HRW1.out HRG1.out)
        go_roundw
        case rel =>
          refine ⟨_, cnt1, ss ++ [x], g', cap', by simp, hrg3, by simp; omega, by simpa using HO3.out, HC2.out.yes HT.out HP.out HLX.out, ?_⟩
          refine ((HF1.out.drewN m).alloc _).grown HG3.out fun k hk hkl => ?_
          have := (HRW1.out.lt k hk).1
          omega
        case measure =>
          rw [hrg3.left_eq, HRG.out.left_eq]; exact hlt

end Go.Proofs.Ytnonidoeakhfdaa
