/- The counts of the rows that are cut to one: plain. -/
import Derived.Test.YtlpglijikmnopaaGreatDoorUG33
namespace Go.Proofs.YtlpglijikmnopaaGreatDoor
open Go.RowKit Go.Maps Go.Sort Go.Proofs
set_option linter.unusedVariables false

def upK (n m : Nat) (k : Ky) : Ky := namesL k (plcL (listB (n : Int)) (listB (m : Int)))
theorem or7 {m : Nat} (hm : m < 8) (p : Int) : ∃ q n : Nat, n < 8 ∧ bits .and .i64 p 7 = (q : Int) ∧ bits .or .i64 (m : Int) (q : Int) = (n : Int) ∧ m &&& n = m := by
  obtain ⟨q, hq, e⟩ := and7 p
  refine ⟨q, m ||| q, Nat.or_lt_two_pow (n := 3) hm hq, e, i64_or_nat m q (by omega) (by omega), ?_⟩
  apply Nat.eq_of_testBit_eq
  intro i
  simp only [Nat.testBit_and, Nat.testBit_or]
  cases m.testBit i <;> simp
theorem nodup_len {α : Type} [DecidableEq α] : ∀ {l m : List α}, l.Nodup → (∀ x ∈ l, x ∈ m) → l.length ≤ m.length
  | [], m, _, _ => Nat.zero_le _
  | x :: l, m, h, hs => by
    obtain ⟨h1, h2⟩ := List.nodup_cons.1 h
    have hx := hs x (by simp)
    have ih := nodup_len (l := l) (m := m.erase x) h2 fun y hy => by
      refine (List.mem_erase_of_ne ?_).2 (hs y (by simp [hy]))
      rintro rfl
      exact h1 hy
    rw [List.length_erase_of_mem hx] at ih
    have := List.length_pos_of_mem hx
    rw [List.length_cons]
    omega
/-- The row to which a row is cut. -/
theorem up_mem {n m : Nat} (hn : n < 8) {l : List Fc} (ht : Thr l) (hsub : ∀ x ∈ listB (m : Int), x ∈ listB (n : Int)) {r : Rw} (hr : r ∈ grp2 n l) : (atK (grp2 m l) (upK n m r.key)).isSome = true := by
  obtain ⟨e, he, hk⟩ := grp_from 2 hr
  have h2 : (upK n m e.1, e.2) ∈ kyd (listB (m : Int)) l := by
    rw [← kyd_cut hn ht hsub]
    exact List.mem_map.2 ⟨e, he, rfl⟩
  obtain ⟨s, hs, e2⟩ := grp_key takeA (newA 2) h2
  refine atK_some.2 ⟨s, hs, ?_⟩
  rw [e2, ← hk]
theorem small_le {n m : Nat} (hn : n < 8) {l : List Fc} (ht : Thr l) (hsub : ∀ x ∈ listB (m : Int), x ∈ listB (n : Int)) : (grp2 m l).length ≤ (grp2 n l).length := by
  have h := nodup_len (l := (grp2 m l).map Rw.key) (m := (grp2 n l).map fun r => upK n m r.key) (srt_nodup (grp_srt _ _ _)) fun k hk => by
    obtain ⟨r, hr, rfl⟩ := List.mem_map.1 hk
    obtain ⟨e, he, e2⟩ := grp_from 2 hr
    rw [← kyd_cut hn ht hsub] at he
    obtain ⟨e', he', rfl⟩ := List.mem_map.1 he
    obtain ⟨s, hs, e3⟩ := grp_key takeA (newA 2) he'
    refine List.mem_map.2 ⟨s, hs, ?_⟩
    rw [e3, ← e2]
    rfl
  simpa using h
/-- What is counted of each of the lesser set's rows. -/
def cntL (n m : Nat) (A B : List Rw) : List Int := A.map fun a => sumC (B.filter fun r => decide (upK n m r.key = a.key))
theorem sumC_filter {p : Rw → Bool} {l : List Rw} (h : ∀ r ∈ l, 0 ≤ r.acc.count) : 0 ≤ sumC (l.filter p) ∧ sumC (l.filter p) ≤ sumC l := by
  induction l with
  | nil => exact ⟨by simp [sumC], by simp [sumC]⟩
  | cons r l ih =>
    obtain ⟨h1, h2⟩ := ih fun x hx => h x (by simp [hx])
    have h3 := h r (by simp)
    have e : ∀ (r : Rw) (l : List Rw), sumC (r :: l) = r.acc.count + sumC l := fun r l => by unfold sumC; rw [List.map_cons, List.sum_cons]
    rw [e r l]
    cases hp : p r with
    | true => rw [List.filter_cons_of_pos hp, e]; omega
    | false => rw [List.filter_cons_of_neg (by rw [hp]; simp)]; omega
theorem cntL_len (n m : Nat) (A B : List Rw) : (cntL n m A B).length = A.length := by unfold cntL; rw [List.length_map]
theorem cntL_nil (n m : Nat) (A : List Rw) : cntL n m A [] = List.replicate A.length 0 := by
  unfold cntL
  apply List.ext_getElem?
  intro i
  rw [List.getElem?_map, List.getElem?_replicate]
  rcases Nat.lt_or_ge i A.length with h | h
  · rw [List.getElem?_eq_getElem h, if_pos h]; rfl
  · rw [List.getElem?_eq_none h, if_neg (by omega)]; rfl
theorem posK_uniq {A : List Rw} (h : Srt A) {k : Ky} (hk : (atK A k).isSome = true) {t : Nat} (ht : t < A.length) : A[t].key = k ↔ t = posK A k := by
  have hp := posK_lt.2 hk
  have e := posK_key hp
  constructor
  · intro e2
    rcases Nat.lt_trichotomy t (posK A k) with h1 | h1 | h1
    · have := List.pairwise_iff_getElem.1 h t _ ht hp h1
      rw [e, e2] at this
      exact absurd this (ky_irrefl _)
    · exact h1
    · have := List.pairwise_iff_getElem.1 h _ t hp ht h1
      rw [e, e2] at this
      exact absurd this (ky_irrefl _)
  · rintro rfl
    exact e
theorem cntL_next {n m : Nat} {A B : List Rw} (hA : Srt A) {j : Nat} (hj : j < B.length) (hk : (atK A (upK n m B[j].key)).isSome = true) :
    ∃ x, (cntL n m A (B.take j))[posK A (upK n m B[j].key)]? = some x ∧ cntL n m A (B.take (j + 1)) = (cntL n m A (B.take j)).set (posK A (upK n m B[j].key)) (x + B[j].acc.count) := by
  have hp := posK_lt.2 hk
  have hpl : posK A (upK n m B[j].key) < (cntL n m A (B.take j)).length := by rw [cntL_len]; exact hp
  refine ⟨_, List.getElem?_eq_getElem hpl, ?_⟩
  apply List.ext_getElem?
  intro i
  rw [List.getElem?_set]
  unfold cntL
  rw [List.getElem?_map, List.getElem?_map]
  rcases Nat.lt_or_ge i A.length with hi | hi
  · rw [List.getElem?_eq_getElem hi]
    simp only [Option.map_some, List.length_map]
    rw [take_succ hj, List.filter_append, sumC_app]
    by_cases e : posK A (upK n m B[j].key) = i
    · rw [if_pos e, if_pos hp]
      subst e
      have e2 := posK_key hp
      rw [e2, List.filter_cons_of_pos (by simp)]
      simp [sumC, e2]
    · rw [if_neg e]
      have e2 : ¬ upK n m B[j].key = A[i].key := fun e3 => e ((posK_uniq hA hk hi).1 e3.symm).symm
      rw [List.filter_cons_of_neg (by simpa using e2)]
      simp [sumC]
  · rw [List.getElem?_eq_none hi]
    rw [if_neg (by omega)]
    rfl
theorem cntL_bound {n m : Nat} {A B : List Rw} (h : ∀ r ∈ B, 0 ≤ r.acc.count) {j i : Nat} {x : Int} (hx : (cntL n m A (B.take j))[i]? = some x) : 0 ≤ x ∧ x ≤ sumC B := by
  unfold cntL at hx
  rw [List.getElem?_map] at hx
  obtain ⟨a, _, rfl⟩ := Option.map_eq_some_iff.1 hx
  have h1 := sumC_filter (p := fun r => decide (upK n m r.key = a.key)) (l := B.take j) fun r hr => h r (List.mem_of_mem_take hr)
  have h2 := sumC_take h j
  omega
theorem cntL_all {n m : Nat} (hn : n < 8) {l : List Fc} (ht : Thr l) (hsub : ∀ x ∈ listB (m : Int), x ∈ listB (n : Int)) (hl : l.length ≤ 4000000) : cntL n m (grp2 m l) (grp2 n l) = (grp2 m l).map fun a => a.acc.count := by
  unfold cntL
  refine List.map_congr_left fun a ha => ?_
  have h := sum_cut 2 (upK n m) a.key (es := kyd (listB (n : Int)) l) (by rw [kyd_len]; exact hl)
  have e : mapF (upK n m) (kyd (listB (n : Int)) l) = kyd (listB (m : Int)) l := kyd_cut hn ht hsub
  rw [e] at h
  rw [(grp_acc 2 _ ha).2, FT_count 2 (Nat.le_trans (col_len _ _) (by rw [kyd_len]; exact hl))]
  exact h
theorem one_up {n m : Nat} {x : Rw} (hx : ∃ c, x.acc = FT 2 c ∧ Cok c) : grpL mergeA zA (regL (listB (n : Int)) (listB (m : Int)) [x]) = [⟨upK n m x.key, x.acc⟩] := by
  obtain ⟨c, e, hc⟩ := hx
  show [(⟨upK n m x.key, mergeA zA x.acc⟩ : Rw)] = _
  rw [e, merge_zA (ga_FT 2 hc)]

/-! ### a row of numbers in a block of its own -/
def IB (w : World) (g : Nat) (c : List Int) : Prop := Blk w g 3 (c.map fun x => Value.int .i64 x).toArray
theorem IB.no {w w' : World} {g : Nat} {c : List Int} (h : IB w g c) (f : Fr No w w') : IB w' g c := Blk.no h f
theorem IB.cell {w : World} {g : Nat} {c : List Int} (h : IB w g c) {i : Nat} {x : Int} (hi : c[i]? = some x) : w.cell? ⟨g, i, none⟩ = some (.int .i64 x) := by
  rw [Blk.cell h i]
  simp [hi]
theorem IB.put {w : World} {g : Nat} {c : List Int} (h : IB w g c) (i : Nat) (x : Int) : IB (w.setCell ⟨g, i, none⟩ (.int .i64 x)) g (c.set i x) := by
  have h2 := Blk.set_ h i (.int .i64 x)
  unfold IB
  have e : ((c.set i x).map fun x => Value.int .i64 x).toArray = ((c.map fun x => Value.int .i64 x).toArray).setIfInBounds i (.int .i64 x) := by
    simp [List.map_set]
  rw [e]
  exact h2
theorem info3 : (Tryz.prog.info? 3).map (fun i => (i.zero, i.size, i.bytes)) = some (some (.int .i64 0), 1, 8) := by kernel_rfl
theorem make53 (n : Nat) (hn : n ≤ 1000) (w : World) : (Instr.makeSlice 53 (.int .i64 n) (.int .i64 n)).run Tryz.prog w = .ok (.slice (some ⟨w.heap.size, 0, none⟩) n n) (w.alloc (.cells ((List.replicate n (0 : Int)).map fun x => Value.int .i64 x).toArray 3)) := by
  obtain ⟨i, hi, hz0, hz1, hz2⟩ := info_parts info3
  have h := run_make (P := Tryz.prog) w 53 3 i _ Tryz.underlying53 hi hz0 .i64 .i64 (n : Int) (n : Int) (by omega) (Int.le_refl _) (by rw [hz2]; omega) (by omega)
  rw [Int.toNat_natCast, hz1] at h
  rw [h]
  have e : madeCells (Value.int .i64 0).cells (n * 1) = ((List.replicate n (0 : Int)).map fun x => Value.int .i64 x).toArray := by
    unfold madeCells
    apply Array.ext_getElem?
    intro i
    rcases Nat.lt_or_ge i n with h | h
    · rw [Array.getElem?_map, Array.getElem?_range, if_pos (by omega)]
      simp [Value.cells, h, Nat.mod_one]
    · rw [Array.getElem?_eq_none (by simpa using h), Array.getElem?_eq_none (by simpa using h)]
  rw [e]
/-- A row's one row. -/
theorem slice_one {w : World} {g off n c : Nat} {j : Nat} (hj : j < n) (hnc : n ≤ c) : (Instr.slice 28 (.slice (some ⟨g, off, none⟩) n c) (some (.int .i64 (j : Int))) (some (.int .i64 ((j : Int) + 1))) none).run Tryz.prog w = .ok (.slice (some ⟨g, off + j * 3, none⟩) 1 (c - j)) w := by
  obtain ⟨i0, hi, hz0, hz1, hz2⟩ := info_parts info50
  have hel : Tryz.prog.underlying 28 = some (.slice (Tryz.prog.elem 28)) := by kernel_rfl
  have hsz : (sizeOf (Tryz.prog.elem 28)).run Tryz.prog w = .ok 3 w := by
    have e : Tryz.prog.elem 28 = 50 := by kernel_rfl
    rw [e]
    simp [sizeOf, typeInfo, hi, hz1]
  have hr := run_slice_lh (P := Tryz.prog) w 28 (some ⟨g, off, none⟩) n c hel .i64 .i64 (j : Int) ((j : Int) + 1) (by omega) (by omega) (by omega)
  rw [hsz] at hr
  have e1 : ((j : Int) + 1).toNat = j + 1 := by omega
  have e2 : ((j : Int)).toNat = j := by omega
  rw [e1, e2] at hr
  rw [hr]
  have hne : ¬ c = j := by omega
  simp [sliced, hne, Addr.add_lit]
theorem RR.one_ {K : Nat → Prop} {w : World} {g off n c : Nat} {l : List Rw} (h : RR K w (.slice (some ⟨g, off, none⟩) n c) l) {j : Nat} (hj : j < l.length) : RR K w (.slice (some ⟨g, off + j * 3, none⟩) 1 (c - j)) [l[j]] ∧ n ≤ c := by
  obtain ⟨A', c', e, h1, h2, h3⟩ := h
  injection e with e1 e2 e3
  subst e1 e3
  obtain ⟨g', off', e4, hK, hg, hel⟩ := h3 (by omega)
  injection e4 with e4
  injection e4 with e5 e6
  subst e5 e6
  refine ⟨⟨_, _, rfl, by simp; omega, by omega, fun _ => ⟨g, off + j * 3, rfl, hK, hg, fun i hi => ?_⟩⟩, by omega⟩
  obtain rfl : i = 0 := by simpa using hi
  obtain ⟨cs, hcl, hcs, hE⟩ := hel j hj
  refine ⟨cs, hcl, fun k hk => ?_, hE⟩
  have := hcs k hk
  rw [Nat.zero_mul, Nat.add_zero]
  exact this
theorem RR.past {B : Nat} {w w' : World} {v : Value} {l : List Rw} (h : RR (fun k => k < B) w v l) (f : Fr (fun k => B ≤ k) w w') : RR (fun k => k < B) w' v l :=
  RowE.mono h (fun k hk hl => ⟨hk, f.block k hl (by omega)⟩) fun x cs hx => rwG_elem.mono _ _ _ _ _ _ hx fun k hk hl => ⟨hk, f.block k hl (by omega)⟩
theorem FR.past {B : Nat} {w w' : World} {v : Value} {l : List Fc} (h : FR (fun k => k < B) w v l) (f : Fr (fun k => B ≤ k) w w') : FR (fun k => k < B) w' v l :=
  RowE.mono h (fun k hk hl => ⟨hk, f.block k hl (by omega)⟩) fun x cs hx => fcG_elem.mono _ _ _ _ _ _ hx fun k hk hl => ⟨hk, f.block k hl (by omega)⟩
end Go.Proofs.YtlpglijikmnopaaGreatDoor
