/- Facts that are told: blocks of texts and of numbers, a row that names them; while they are made. -/
import Derived.Test.YtmaeejojmbibnaaH1
namespace Go.Proofs.Ytmaeejojmbibnaa
open Go.RowKit Go.Maps
set_option linter.unusedVariables false

theorem info51 : (Try.prog.info? 51).map (fun i => (i.zero, i.size, i.bytes)) = some (some (.agg #[.slice none 0 0, .slice none 0 0]), 2, 48) := by kernel_rfl
theorem info2 : (Try.prog.info? 2).map (fun i => (i.zero, i.size, i.bytes)) = some (some (.int .i64 0), 1, 8) := by kernel_rfl
def zfacts (n : Nat) : Array Value := madeCells #[.slice none 0 0, .slice none 0 0] (n * 2)
def zT : Value := .string ⟨#[]⟩
def zM : Value := .int .i64 0
theorem make32 (n : Nat) (hn : n ≤ 1000000) (w : World) : (Instr.makeSlice 32 (.int .i64 n) (.int .i64 n)).run Try.prog w = .ok (.slice (some ⟨w.heap.size, 0, none⟩) n n) (w.alloc (.cells (zfacts n) 51)) := by
  obtain ⟨i, hi, hz0, hz1, hz2⟩ := info_parts info51
  have h := run_make (P := Try.prog) w 32 51 i _ Try.underlying32 hi hz0 .i64 .i64 (n : Int) (n : Int) (by omega) (Int.le_refl _) (by rw [hz2]; omega) (by omega)
  rw [Int.toNat_natCast, hz1] at h
  exact h
theorem make32c (n : Nat) (hn : n ≤ 1000000) (w : World) : (Instr.makeSlice 32 (.int .i64 0) (.int .i64 n)).run Try.prog w = .ok (.slice (some ⟨w.heap.size, 0, none⟩) 0 n) (w.alloc (.cells (zfacts n) 51)) := by
  obtain ⟨i, hi, hz0, hz1, hz2⟩ := info_parts info51
  have h := run_make (P := Try.prog) w 32 51 i _ Try.underlying32 hi hz0 .i64 .i64 0 (n : Int) (by omega) (by omega) (by rw [hz2]; omega) (by omega)
  rw [Int.toNat_natCast, hz1] at h
  exact h
theorem make48 (K : Nat) (hK : K ≤ 6) (w : World) : (Instr.makeSlice 48 (.int .i64 K) (.int .i64 K)).run Try.prog w = .ok (.slice (some ⟨w.heap.size, 0, none⟩) K K) (w.alloc (.cells (madeCells #[zT] K) 9)) := by
  obtain ⟨i, hi, hz0, hz1, hz2⟩ := info_parts info9
  have h := run_make (P := Try.prog) w 48 9 i _ Try.underlying48 hi hz0 .i64 .i64 (K : Int) (K : Int) (by omega) (Int.le_refl _) (by rw [hz2]; omega) (by omega)
  rw [Int.toNat_natCast, hz1, Nat.mul_one] at h
  exact h
theorem make49 (M : Nat) (hM : M ≤ 6) (w : World) : (Instr.makeSlice 49 (.int .i64 M) (.int .i64 M)).run Try.prog w = .ok (.slice (some ⟨w.heap.size, 0, none⟩) M M) (w.alloc (.cells (madeCells #[zM] M) 2)) := by
  obtain ⟨i, hi, hz0, hz1, hz2⟩ := info_parts info2
  have h := run_make (P := Try.prog) w 49 2 i _ Try.underlying49 hi hz0 .i64 .i64 (M : Int) (M : Int) (by omega) (Int.le_refl _) (by rw [hz2]; omega) (by omega)
  rw [Int.toNat_natCast, hz1, Nat.mul_one] at h
  exact h
theorem made_at (z : Value) (n : Nat) {d : Nat} (hd : d < n) : (madeCells #[z] n)[d]? = some z := by
  unfold madeCells
  rw [Array.getElem?_map, Array.getElem?_range, if_pos hd]
  show some ((#[z] : Array Value)[d % 1]!) = some z
  rw [Nat.mod_one]; rfl

/-- Blocks of n facts: texts, numbers; each its own, none below h0. -/
structure Bks (w : World) (h0 n K M : Nat) (da ma : Nat → Nat) (TC MC : Nat → Nat → Value) : Prop where
  db : ∀ i, i < n → ∃ cs, Blk w (da i) 9 cs ∧ cs.size = K ∧ ∀ d, d < K → cs[d]? = some (TC i d)
  mb : ∀ i, i < n → ∃ cs, Blk w (ma i) 2 cs ∧ cs.size = M ∧ ∀ m, m < M → cs[m]? = some (MC i m)
  dd : ∀ i j, i < n → j < n → i ≠ j → da i ≠ da j
  mm : ∀ i j, i < n → j < n → i ≠ j → ma i ≠ ma j
  lo : ∀ i, i < n → h0 ≤ da i ∧ h0 ≤ ma i
section
variable {w w' : World} {h0 n K M : Nat} {da ma : Nat → Nat} {TC MC : Nat → Nat → Value}
theorem Bks.fr (h : Bks w h0 n K M da ma TC MC) {F : Nat → Prop} (hf : Fr F w w') (hF : ∀ i, i < n → ¬ F (da i) ∧ ¬ F (ma i)) : Bks w' h0 n K M da ma TC MC where
  db := fun i hi => by obtain ⟨cs, h1, h2⟩ := h.db i hi; exact ⟨cs, h1.of (hf.block _ h1.lt (hF i hi).1), h2⟩
  mb := fun i hi => by obtain ⟨cs, h1, h2⟩ := h.mb i hi; exact ⟨cs, h1.of (hf.block _ h1.lt (hF i hi).2), h2⟩
  dd := h.dd
  mm := h.mm
  lo := h.lo
theorem Bks.keep (h : Bks w h0 n K M da ma TC MC) (hf : Fr No w w') : Bks w' h0 n K M da ma TC MC := h.fr hf fun _ _ => ⟨id, id⟩
theorem Bks.lt (h : Bks w h0 n K M da ma TC MC) {i : Nat} (hi : i < n) : da i < w.heap.size ∧ ma i < w.heap.size := by
  obtain ⟨_, h1, _⟩ := h.db i hi
  obtain ⟨_, h2, _⟩ := h.mb i hi
  exact ⟨h1.lt, h2.lt⟩
theorem Bks.base {h1 : Nat} (h : Bks w h0 n K M da ma TC MC) (hb : h1 ≤ h0) : Bks w h1 n K M da ma TC MC :=
  ⟨h.db, h.mb, h.dd, h.mm, fun i hi => ⟨Nat.le_trans hb (h.lo i hi).1, Nat.le_trans hb (h.lo i hi).2⟩⟩
theorem Bks.congr {TC' MC' : Nat → Nat → Value} (h : Bks w h0 n K M da ma TC MC) (hT : ∀ i d, i < n → d < K → TC' i d = TC i d) (hM : ∀ i m, i < n → m < M → MC' i m = MC i m) : Bks w h0 n K M da ma TC' MC' where
  db := fun i hi => by obtain ⟨cs, h1, h2, h3⟩ := h.db i hi; exact ⟨cs, h1, h2, fun d hd => by rw [hT i d hi hd]; exact h3 d hd⟩
  mb := fun i hi => by obtain ⟨cs, h1, h2, h3⟩ := h.mb i hi; exact ⟨cs, h1, h2, fun d hd => by rw [hM i d hi hd]; exact h3 d hd⟩
  dd := h.dd
  mm := h.mm
  lo := h.lo
theorem Bks.nil (w : World) (h0 K M : Nat) (da ma : Nat → Nat) (TC MC : Nat → Nat → Value) : Bks w h0 0 K M da ma TC MC :=
  ⟨fun i hi => by omega, fun i hi => by omega, fun i j hi => by omega, fun i j hi => by omega, fun i hi => by omega⟩
/-- One more, in new blocks. -/
theorem Bks.more (h : Bks w h0 n K M da ma TC MC) (hf : Fr No w w') {a c : Nat} {A C : Array Value} (hh : h0 ≤ w.heap.size) (ha : Blk w' a 9 A) (hc : Blk w' c 2 C) (ha0 : w.heap.size ≤ a) (hc0 : w.heap.size ≤ c)
    (eA : A.size = K) (eC : C.size = M) (hA : ∀ d, d < K → A[d]? = some (TC n d)) (hC : ∀ m, m < M → C[m]? = some (MC n m)) :
    Bks w' h0 (n + 1) K M (fun i => if i = n then a else da i) (fun i => if i = n then c else ma i) TC MC := by
  have hk := h.keep hf
  refine ⟨fun i hi => ?_, fun i hi => ?_, fun i j hi hj hne => ?_, fun i j hi hj hne => ?_, fun i hi => ?_⟩
  · by_cases e : i = n
    · subst e; simp only [if_pos]; exact ⟨A, ha, eA, hA⟩
    · simp only [if_neg e]; exact hk.db i (by omega)
  · by_cases e : i = n
    · subst e; simp only [if_pos]; exact ⟨C, hc, eC, hC⟩
    · simp only [if_neg e]; exact hk.mb i (by omega)
  · by_cases e : i = n
    · have e2 : j ≠ n := by omega
      simp only [if_pos e, if_neg e2]
      have := (h.lt (i := j) (by omega)).1; omega
    · by_cases e2 : j = n
      · simp only [if_neg e, if_pos e2]
        have := (h.lt (i := i) (by omega)).1; omega
      · simp only [if_neg e, if_neg e2]; exact h.dd i j (by omega) (by omega) hne
  · by_cases e : i = n
    · have e2 : j ≠ n := by omega
      simp only [if_pos e, if_neg e2]
      have := (h.lt (i := j) (by omega)).2; omega
    · by_cases e2 : j = n
      · simp only [if_neg e, if_pos e2]
        have := (h.lt (i := i) (by omega)).2; omega
      · simp only [if_neg e, if_neg e2]; exact h.mm i j (by omega) (by omega) hne
  · by_cases e : i = n
    · simp only [if_pos e]; omega
    · simp only [if_neg e]; exact h.lo i (by omega)
/-- A text turns. -/
theorem Bks.setT (h : Bks w h0 n K M da ma TC MC) {i d : Nat} (hi : i < n) (hd : d < K) (v : Value) {TC' : Nat → Nat → Value} (h1 : TC' i d = v) (h2 : ∀ j e, j < n → e < K → ¬ (j = i ∧ e = d) → TC' j e = TC j e) :
    Bks (w.setCell ⟨da i, d, none⟩ v) h0 n K M da ma TC' MC ∧ Fr (One (da i)) w (w.setCell ⟨da i, d, none⟩ v) := by
  have hf : Fr (One (da i)) w (w.setCell ⟨da i, d, none⟩ v) := Fr.setCell (F := One (da i)) (Fr.refl _ w) (p := ⟨da i, d, none⟩) (fun _ => rfl) v
  refine ⟨⟨fun j hj => ?_, fun j hj => ?_, h.dd, h.mm, h.lo⟩, hf⟩
  · by_cases e : j = i
    · subst e
      obtain ⟨cs, b1, b2, b3⟩ := h.db j hj
      refine ⟨_, b1.set_ d v, by simp [b2], fun e he => ?_⟩
      rw [Array.getElem?_setIfInBounds]
      by_cases x : d = e
      · subst x; rw [if_pos rfl, if_pos (by omega), h1]
      · rw [if_neg x, b3 e he, h2 j e hj he (by omega)]
    · obtain ⟨cs, b1, b2, b3⟩ := h.db j hj
      refine ⟨cs, b1.of (hf.block _ b1.lt fun x => h.dd j i hj hi e x), b2, fun e' he => ?_⟩
      rw [b3 e' he, h2 j e' hj he (by omega)]
  · obtain ⟨cs, b1, b2⟩ := h.mb j hj
    obtain ⟨cs', b1', _⟩ := h.db i hi
    exact ⟨cs, b1.of (hf.block _ b1.lt fun x => Blk.ne_ b1 b1' (by decide) x), b2⟩
/-- A number turns. -/
theorem Bks.setM (h : Bks w h0 n K M da ma TC MC) {i d : Nat} (hi : i < n) (hd : d < M) (v : Value) {MC' : Nat → Nat → Value} (h1 : MC' i d = v) (h2 : ∀ j e, j < n → e < M → ¬ (j = i ∧ e = d) → MC' j e = MC j e) :
    Bks (w.setCell ⟨ma i, d, none⟩ v) h0 n K M da ma TC MC' ∧ Fr (One (ma i)) w (w.setCell ⟨ma i, d, none⟩ v) := by
  have hf : Fr (One (ma i)) w (w.setCell ⟨ma i, d, none⟩ v) := Fr.setCell (F := One (ma i)) (Fr.refl _ w) (p := ⟨ma i, d, none⟩) (fun _ => rfl) v
  refine ⟨⟨fun j hj => ?_, fun j hj => ?_, h.dd, h.mm, h.lo⟩, hf⟩
  · obtain ⟨cs, b1, b2⟩ := h.db j hj
    obtain ⟨cs', b1', _⟩ := h.mb i hi
    exact ⟨cs, b1.of (hf.block _ b1.lt fun x => Blk.ne_ b1 b1' (by decide) x), b2⟩
  · by_cases e : j = i
    · subst e
      obtain ⟨cs, b1, b2, b3⟩ := h.mb j hj
      refine ⟨_, b1.set_ d v, by simp [b2], fun e he => ?_⟩
      rw [Array.getElem?_setIfInBounds]
      by_cases x : d = e
      · subst x; rw [if_pos rfl, if_pos (by omega), h1]
      · rw [if_neg x, b3 e he, h2 j e hj he (by omega)]
    · obtain ⟨cs, b1, b2, b3⟩ := h.mb j hj
      refine ⟨cs, b1.of (hf.block _ b1.lt fun x => h.mm j i hj hi e x), b2, fun e' he => ?_⟩
      rw [b3 e' he, h2 j e' hj he (by omega)]
/-- Two lots side by side, the second one in new blocks. -/
theorem Bks.join {n2 : Nat} {h1 : Nat} {da2 ma2 : Nat → Nat} {TC2 MC2 : Nat → Nat → Value} (h : Bks w h0 n K M da ma TC MC) (k : Bks w h1 n2 K M da2 ma2 TC2 MC2) (hlt : ∀ i, i < n → da i < h1 ∧ ma i < h1) (hh : h0 ≤ h1) :
    Bks w h0 (n + n2) K M (fun i => if i < n then da i else da2 (i - n)) (fun i => if i < n then ma i else ma2 (i - n)) (fun i d => if i < n then TC i d else TC2 (i - n) d) (fun i d => if i < n then MC i d else MC2 (i - n) d) := by
  refine ⟨fun i hi => ?_, fun i hi => ?_, fun i j hi hj hne => ?_, fun i j hi hj hne => ?_, fun i hi => ?_⟩
  · by_cases e : i < n
    · simp only [if_pos e]; exact h.db i e
    · simp only [if_neg e]; exact k.db (i - n) (by omega)
  · by_cases e : i < n
    · simp only [if_pos e]; exact h.mb i e
    · simp only [if_neg e]; exact k.mb (i - n) (by omega)
  · by_cases e : i < n <;> by_cases e2 : j < n
    · simp only [if_pos e, if_pos e2]; exact h.dd i j e e2 hne
    · simp only [if_pos e, if_neg e2]
      have := (hlt i e).1; have := (k.lo (j - n) (by omega)).1; omega
    · simp only [if_neg e, if_pos e2]
      have := (hlt j e2).1; have := (k.lo (i - n) (by omega)).1; omega
    · simp only [if_neg e, if_neg e2]; exact k.dd _ _ (by omega) (by omega) (by omega)
  · by_cases e : i < n <;> by_cases e2 : j < n
    · simp only [if_pos e, if_pos e2]; exact h.mm i j e e2 hne
    · simp only [if_pos e, if_neg e2]
      have := (hlt i e).2; have := (k.lo (j - n) (by omega)).2; omega
    · simp only [if_neg e, if_pos e2]
      have := (hlt j e2).2; have := (k.lo (i - n) (by omega)).2; omega
    · simp only [if_neg e, if_neg e2]; exact k.mm _ _ (by omega) (by omega) (by omega)
  · by_cases e : i < n
    · simp only [if_pos e]; exact h.lo i e
    · simp only [if_neg e]; have := k.lo (i - n) (by omega); omega
end

/-! ### the row that names them -/
def fcel (K M : Nat) (da ma : Nat → Nat) (i : Nat) : List Value := [.slice (some ⟨da i, 0, none⟩) K K, .slice (some ⟨ma i, 0, none⟩) M M]
def fcells (K M : Nat) (da ma : Nat → Nat) (n : Nat) : List Value := (List.range n).flatMap (fcel K M da ma)
theorem fcells_len (K M : Nat) (da ma : Nat → Nat) : ∀ n, (fcells K M da ma n).length = n * 2
  | 0 => rfl
  | n + 1 => by unfold fcells; rw [List.range_succ, List.flatMap_append, List.length_append]; have := fcells_len K M da ma n; unfold fcells at this; rw [this]; simp [fcel]; omega
theorem fcells_at (K M : Nat) (da ma : Nat → Nat) : ∀ n i, i < n → ∀ j, j < 2 → (fcells K M da ma n)[i * 2 + j]? = (fcel K M da ma i)[j]?
  | 0, i, h, _, _ => by omega
  | n + 1, i, h, j, hj => by
    have hl := fcells_len K M da ma n
    have e : fcells K M da ma (n + 1) = fcells K M da ma n ++ fcel K M da ma n := by unfold fcells; rw [List.range_succ, List.flatMap_append]; simp
    rw [e]
    by_cases hi : i < n
    · rw [List.getElem?_append_left (by omega)]; exact fcells_at K M da ma n i hi j hj
    · obtain rfl : i = n := by omega
      rw [List.getElem?_append_right (by omega), hl, Nat.add_sub_cancel_left]
theorem fcells_join (K M : Nat) (da ma da2 ma2 : Nat → Nat) (n : Nat) : ∀ n2, fcells K M da ma n ++ fcells K M da2 ma2 n2 = fcells K M (fun i => if i < n then da i else da2 (i - n)) (fun i => if i < n then ma i else ma2 (i - n)) (n + n2)
  | 0 => by
    unfold fcells
    rw [List.range_zero, List.flatMap_nil, List.append_nil, Nat.add_zero, List.flatMap_def, List.flatMap_def]
    congr 1
    refine List.map_congr_left fun i hi => ?_
    have : i < n := by simpa using hi
    simp [fcel, this]
  | n2 + 1 => by
    have ih := fcells_join K M da ma da2 ma2 n n2
    have e1 : fcells K M da2 ma2 (n2 + 1) = fcells K M da2 ma2 n2 ++ fcel K M da2 ma2 n2 := by unfold fcells; rw [List.range_succ, List.flatMap_append]; simp
    rw [e1, ← List.append_assoc, ih, ← Nat.add_assoc]
    unfold fcells
    rw [List.range_succ, List.flatMap_append]
    have hn : ¬ n + n2 < n := by omega
    simp [fcel, hn]

/-- A block b of n facts' cells, of which k are made. -/
def FBlk (w : World) (b n k K M : Nat) (da ma : Nat → Nat) : Prop := ∃ cs, Blk w b 51 cs ∧ cs.size = n * 2 ∧ ∀ i, i < k → cs[i * 2]? = some (.slice (some ⟨da i, 0, none⟩) K K) ∧ cs[i * 2 + 1]? = some (.slice (some ⟨ma i, 0, none⟩) M M)
theorem FBlk.start (w : World) (n K M : Nat) (da ma : Nat → Nat) : FBlk (w.alloc (.cells (zfacts n) 51)) w.heap.size n 0 K M da ma :=
  ⟨_, Blk.new w 51 _, size_madeCells _ _, fun i hi => by omega⟩
theorem FBlk.of {w w' : World} {b n k K M : Nat} {da ma : Nat → Nat} (h : FBlk w b n k K M da ma) (hk : w'.heap[b]? = w.heap[b]?) : FBlk w' b n k K M da ma := by
  obtain ⟨cs, h1, h2⟩ := h
  exact ⟨cs, h1.of hk, h2⟩
theorem FBlk.lt {w : World} {b n k K M : Nat} {da ma : Nat → Nat} (h : FBlk w b n k K M da ma) : b < w.heap.size := by
  obtain ⟨cs, h1, h2⟩ := h
  exact h1.lt
theorem FBlk.cell {w : World} {b n k K M i : Nat} {da ma : Nat → Nat} (h : FBlk w b n k K M da ma) (hi : i < k) : w.cell? ⟨b, i * 2, none⟩ = some (.slice (some ⟨da i, 0, none⟩) K K) ∧ w.cell? ⟨b, i * 2 + 1, none⟩ = some (.slice (some ⟨ma i, 0, none⟩) M M) := by
  obtain ⟨cs, h1, h2, h3⟩ := h
  exact ⟨(h1.cell _).trans (h3 i hi).1, (h1.cell _).trans (h3 i hi).2⟩
theorem FBlk.any {w : World} {b n k K M i : Nat} {da ma : Nat → Nat} (h : FBlk w b n k K M da ma) (hi : i < n * 2) : ∃ v, w.cell? ⟨b, i, none⟩ = some v ∧ w.frozen? ⟨b, i, none⟩ = false := by
  obtain ⟨cs, h1, h2, h3⟩ := h
  exact ⟨cs[i]'(by omega), (h1.cell _).trans (Array.getElem?_eq_getElem (by omega)), h1.frozen _⟩
theorem FBlk.more {w : World} {b n k K M a c : Nat} {da ma : Nat → Nat} (h : FBlk w b n k K M da ma) (hk : k < n) :
    FBlk ((w.setCell ⟨b, k * 2, none⟩ (.slice (some ⟨a, 0, none⟩) K K)).setCell ⟨b, k * 2 + 1, none⟩ (.slice (some ⟨c, 0, none⟩) M M)) b n (k + 1) K M (fun i => if i = k then a else da i) (fun i => if i = k then c else ma i) := by
  obtain ⟨cs, h1, h2, h3⟩ := h
  refine ⟨_, (h1.set_ _ _).set_ _ _, by simp [h2], fun i hi => ?_⟩
  rw [Array.getElem?_setIfInBounds, Array.getElem?_setIfInBounds, Array.getElem?_setIfInBounds, Array.getElem?_setIfInBounds, Array.size_setIfInBounds]
  by_cases e : i = k
  · subst e
    simp
    omega
  · have e1 : ¬ (k * 2 + 1 = i * 2) := by omega
    have e2 : ¬ (k * 2 = i * 2) := by omega
    have e3 : ¬ (k * 2 + 1 = i * 2 + 1) := by omega
    have e4 : ¬ (k * 2 = i * 2 + 1) := by omega
    simp only [if_neg e1, if_neg e2, if_neg e3, if_neg e4, if_neg e]
    exact h3 i (by omega)
theorem FBlk.row {w : World} {b n K M : Nat} {da ma : Nat → Nat} (h : FBlk w b n n K M da ma) : ∃ cs, Blk w b 51 cs ∧ cs.toList = fcells K M da ma n := by
  obtain ⟨cs, h1, h2, h3⟩ := h
  refine ⟨cs, h1, ?_⟩
  apply List.ext_getElem?
  intro p
  have hl := fcells_len K M da ma n
  by_cases hp : p < n * 2
  · obtain ⟨i, j, hj, rfl⟩ : ∃ i j, j < 2 ∧ p = i * 2 + j := ⟨p / 2, p % 2, by omega, by omega⟩
    have hi : i < n := by omega
    rw [fcells_at K M da ma n i hi j hj, Array.getElem?_toList]
    have : j = 0 ∨ j = 1 := by omega
    rcases this with rfl | rfl
    · exact (h3 i hi).1
    · exact (h3 i hi).2
  · rw [List.getElem?_eq_none (by simp; omega), List.getElem?_eq_none (by omega)]
end Go.Proofs.Ytmaeejojmbibnaa
