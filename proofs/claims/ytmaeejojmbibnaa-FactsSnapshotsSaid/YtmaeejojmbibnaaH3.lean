/- rows: the facts of a segment's places, in new memory: the first loop, which makes them. -/
import Derived.Test.YtmaeejojmbibnaaH2
namespace Go.Proofs.Ytmaeejojmbibnaa
open Go.RowKit Go.Maps
set_option linter.unusedVariables false

def TT (S : FS) (p : Nat) (i d : Nat) : Value := encT (txt (S.D d) (S.cn d (p + i)))
def MT (S : FS) (p : Nat) (i m : Nat) : Value := .int .i64 (S.mn m (p + i))
def TZ (_ _ : Nat) : Value := zT
def MZ (_ _ : Nat) : Value := zM
/-- Up to dimension d all texts, of it those of i facts. -/
def TW (S : FS) (p d i : Nat) (i' d' : Nat) : Value := if d' < d ∨ (d' = d ∧ i' < i) then TT S p i' d' else zT
def MW (S : FS) (p m i : Nat) (i' m' : Nat) : Value := if m' < m ∨ (m' = m ∧ i' < i) then MT S p i' m' else zM
/-- The facts being made: the row's block b, k of n, and theirs. -/
def Mk (w0 : World) (b n k K M : Nat) (TC MC : Nat → Nat → Value) (w : World) : Prop := ∃ da ma, FBlk w b n k K M da ma ∧ Bks w w0.heap.size k K M da ma TC MC ∧ w0.heap.size ≤ b ∧ Fr No w0 w
theorem Mk.keep {w0 w w' : World} {b n k K M : Nat} {TC MC : Nat → Nat → Value} (h : Mk w0 b n k K M TC MC w) (hf : Fr No w w') : Mk w0 b n k K M TC MC w' := by
  obtain ⟨da, ma, h1, h2, h3, h4⟩ := h
  exact ⟨da, ma, h1.of (hf.block _ h1.lt id), h2.keep hf, h3, h4.trans hf fun _ _ h => h⟩
theorem Mk.congr {w0 w : World} {b n k K M : Nat} {TC MC TC' MC' : Nat → Nat → Value} (h : Mk w0 b n k K M TC MC w) (hT : ∀ i d, i < k → d < K → TC' i d = TC i d) (hM : ∀ i m, i < k → m < M → MC' i m = MC i m) : Mk w0 b n k K M TC' MC' w := by
  obtain ⟨da, ma, h1, h2, h3, h4⟩ := h
  exact ⟨da, ma, h1, h2.congr hT hM, h3, h4⟩
theorem Mk.more {w0 w w2 : World} {b n k K M a c : Nat} (h : Mk w0 b n k K M TZ MZ w) (hk : k < n) (hf : Fr No w w2) (ha : Blk w2 a 9 (madeCells #[zT] K)) (hc : Blk w2 c 2 (madeCells #[zM] M)) (ha0 : w.heap.size ≤ a) (hc0 : w.heap.size ≤ c) :
    Mk w0 b n (k + 1) K M TZ MZ ((w2.setCell ⟨b, k * 2, none⟩ (.slice (some ⟨a, 0, none⟩) K K)).setCell ⟨b, k * 2 + 1, none⟩ (.slice (some ⟨c, 0, none⟩) M M)) := by
  obtain ⟨da, ma, h1, h2, h3, h4⟩ := h
  have hb2 := h1.of (hf.block _ h1.lt id)
  have hB := h2.more hf h4.size ha hc ha0 hc0 (size_madeCells _ _) (size_madeCells _ _) (fun d hd => made_at _ _ hd) (fun d hd => made_at _ _ hd)
  have hs : Fr (One b) w2 ((w2.setCell ⟨b, k * 2, none⟩ (.slice (some ⟨a, 0, none⟩) K K)).setCell ⟨b, k * 2 + 1, none⟩ (.slice (some ⟨c, 0, none⟩) M M)) :=
    Fr.setCell (F := One b) (p := ⟨b, k * 2 + 1, none⟩) (Fr.setCell (F := One b) (Fr.refl _ w2) (p := ⟨b, k * 2, none⟩) (fun _ => rfl) _) (fun _ => rfl) _
  refine ⟨_, _, hb2.more hk, hB.fr hs fun i hi => ?_, h3, (h4.trans hf fun _ _ h => h).trans hs fun j hj e => ?_⟩
  · obtain ⟨cs, x1, _⟩ := hb2
    obtain ⟨_, y1, _⟩ := hB.db i hi
    obtain ⟨_, z1, _⟩ := hB.mb i hi
    exact ⟨fun e => Blk.ne_ y1 x1 (by decide) e, fun e => Blk.ne_ z1 x1 (by decide) e⟩
  · have e' : j = b := e
    omega
theorem Mk.base {w w0 w' : World} {b n k K M : Nat} {TC MC : Nat → Nat → Value} (h : Mk w0 b n k K M TC MC w') (hf : Fr No w w0) : Mk w b n k K M TC MC w' := by
  obtain ⟨da, ma, h1, h2, h3, h4⟩ := h
  exact ⟨da, ma, h1, h2.base hf.size, Nat.le_trans hf.size h3, hf.trans h4 fun _ _ h => h⟩
theorem blk2 (w : World) (A B : Array Value) (t1 t2 : TypeId) : Blk ((w.alloc (.cells A t1)).alloc (.cells B t2)) w.heap.size t1 A ∧ Blk ((w.alloc (.cells A t1)).alloc (.cells B t2)) (w.heap.size + 1) t2 B ∧ Fr No w ((w.alloc (.cells A t1)).alloc (.cells B t2)) := by
  have b1 := Blk.new w t1 A
  have b2 := Blk.new (w.alloc (.cells A t1)) t2 B
  have e : (w.alloc (.cells A t1)).heap.size = w.heap.size + 1 := by simp
  rw [e] at b2
  refine ⟨?_, b2, ((Fr.refl No w).alloc _).alloc _⟩
  have f : Fr No (w.alloc (.cells A t1)) ((w.alloc (.cells A t1)).alloc (.cells B t2)) := (Fr.refl No _).alloc _
  exact b1.of (f.block _ b1.lt id)
theorem Mk.next {w0 w : World} {b n k K M : Nat} (h : Mk w0 b n k K M TZ MZ w) (hk : k < n) :
    Mk w0 b n (k + 1) K M TZ MZ (((((w.alloc (.cells (madeCells #[zT] K) 9)).alloc (.cells (madeCells #[zM] M) 2)).setCell ⟨b, k * 2, none⟩ (.slice (some ⟨w.heap.size, 0, none⟩) K K)).setCell ⟨b, k * 2 + 1, none⟩ (.slice (some ⟨w.heap.size + 1, 0, none⟩) M M)).drew) ∧
    Mk w0 b n (k + 1) K M TZ MZ (((((w.alloc (.cells (madeCells #[zM] M) 2)).alloc (.cells (madeCells #[zT] K) 9)).setCell ⟨b, k * 2, none⟩ (.slice (some ⟨w.heap.size + 1, 0, none⟩) K K)).setCell ⟨b, k * 2 + 1, none⟩ (.slice (some ⟨w.heap.size, 0, none⟩) M M)).drew) := by
  constructor
  · obtain ⟨h1, h2, h3⟩ := blk2 w (madeCells #[zT] K) (madeCells #[zM] M) 9 2
    exact (h.more hk h3 h1 h2 (Nat.le_refl _) (by omega)).keep (Fr.refl _ _).drew
  · obtain ⟨h1, h2, h3⟩ := blk2 w (madeCells #[zM] M) (madeCells #[zT] K) 2 9
    exact (h.more hk h3 h2 h1 (by omega) (Nat.le_refl _)).keep (Fr.refl _ _).drew
theorem TW_zero (S : FS) (p : Nat) (i d : Nat) : TW S p 0 0 i d = TZ i d := by unfold TW TZ; rw [if_neg (by omega)]
theorem MW_zero (S : FS) (p : Nat) (i d : Nat) : MW S p 0 0 i d = MZ i d := by unfold MW MZ; rw [if_neg (by omega)]
theorem TW_turn (S : FS) (p n d : Nat) (i e : Nat) (hi : i < n) : TW S p (d + 1) 0 i e = TW S p d n i e := by
  unfold TW
  by_cases h : e < d + 1 ∨ (e = d + 1 ∧ i < 0)
  · rw [if_pos h, if_pos (by omega)]
  · rw [if_neg h, if_neg (by omega)]
theorem MW_turn (S : FS) (p n d : Nat) (i e : Nat) (hi : i < n) : MW S p (d + 1) 0 i e = MW S p d n i e := by
  unfold MW
  by_cases h : e < d + 1 ∨ (e = d + 1 ∧ i < 0)
  · rw [if_pos h, if_pos (by omega)]
  · rw [if_neg h, if_neg (by omega)]
theorem TW_end (S : FS) (p K : Nat) (i d : Nat) (hd : d < K) : TT S p i d = TW S p K 0 i d := by unfold TW; rw [if_pos (by omega)]
theorem MW_end (S : FS) (p K : Nat) (i d : Nat) (hd : d < K) : MT S p i d = MW S p K 0 i d := by unfold MW; rw [if_pos (by omega)]
/-- A text is laid. -/
theorem Mk.text {w0 w : World} {b n K M p d i : Nat} {S : FS} {MC : Nat → Nat → Value} (h : Mk w0 b n n K M (TW S p d i) MC w) (hi : i < n) (hd : d < K) :
    ∃ a, w.cell? ⟨b, i * 2, none⟩ = some (.slice (some ⟨a, 0, none⟩) K K) ∧ (∃ v, w.cell? ⟨a, d, none⟩ = some v) ∧ w.frozen? ⟨a, d, none⟩ = false ∧ Mk w0 b n n K M (TW S p d (i + 1)) MC (w.setCell ⟨a, d, none⟩ (TT S p i d)) ∧ (∃ cs, Blk w a 9 cs) ∧ a ≠ b ∧ Fr (One a) w (w.setCell ⟨a, d, none⟩ (TT S p i d)) := by
  obtain ⟨da, ma, h1, h2, h3, h4⟩ := h
  obtain ⟨cs, b1, b2, b3⟩ := h2.db i hi
  have hs := h2.setT hi hd (TT S p i d) (TC' := TW S p d (i + 1)) (by unfold TW; rw [if_pos (by omega)]) (fun j e hj he hne => by
    unfold TW
    by_cases h : e < d ∨ (e = d ∧ j < i + 1)
    · rw [if_pos h, if_pos (by omega)]
    · rw [if_neg h, if_neg (by omega)])
  refine ⟨da i, (h1.cell hi).1, ⟨_, (b1.cell d).trans (b3 d hd)⟩, b1.frozen d, ⟨da, ma, h1.of (hs.2.block _ h1.lt ?_), hs.1, h3, h4.trans hs.2 fun j hj e => ?_⟩, ⟨_, b1⟩, by obtain ⟨cs', x1, _⟩ := h1; exact fun e => Blk.ne_ b1 x1 (by decide) e, hs.2⟩
  · obtain ⟨cs', x1, _⟩ := h1
    exact fun e => Blk.ne_ x1 b1 (by decide) e
  · have e' : j = da i := e
    have := (h2.lo i hi).1
    omega
/-- A number is laid. -/
theorem Mk.numb {w0 w : World} {b n K M p d i : Nat} {S : FS} {TC : Nat → Nat → Value} (h : Mk w0 b n n K M TC (MW S p d i) w) (hi : i < n) (hd : d < M) :
    ∃ a, w.cell? ⟨b, i * 2 + 1, none⟩ = some (.slice (some ⟨a, 0, none⟩) M M) ∧ (∃ v, w.cell? ⟨a, d, none⟩ = some v) ∧ w.frozen? ⟨a, d, none⟩ = false ∧ Mk w0 b n n K M TC (MW S p d (i + 1)) (w.setCell ⟨a, d, none⟩ (MT S p i d)) ∧ (∃ cs, Blk w a 2 cs) ∧ a ≠ b ∧ Fr (One a) w (w.setCell ⟨a, d, none⟩ (MT S p i d)) := by
  obtain ⟨da, ma, h1, h2, h3, h4⟩ := h
  obtain ⟨cs, b1, b2, b3⟩ := h2.mb i hi
  have hs := h2.setM hi hd (MT S p i d) (MC' := MW S p d (i + 1)) (by unfold MW; rw [if_pos (by omega)]) (fun j e hj he hne => by
    unfold MW
    by_cases h : e < d ∨ (e = d ∧ j < i + 1)
    · rw [if_pos h, if_pos (by omega)]
    · rw [if_neg h, if_neg (by omega)])
  refine ⟨ma i, (h1.cell hi).2, ⟨_, (b1.cell d).trans (b3 d hd)⟩, b1.frozen d, ⟨da, ma, h1.of (hs.2.block _ h1.lt ?_), hs.1, h3, h4.trans hs.2 fun j hj e => ?_⟩, ⟨_, b1⟩, by obtain ⟨cs', x1, _⟩ := h1; exact fun e => Blk.ne_ b1 x1 (by decide) e, hs.2⟩
  · obtain ⟨cs', x1, _⟩ := h1
    exact fun e => Blk.ne_ x1 b1 (by decide) e
  · have e' : j = ma i := e
    have := (h2.lo i hi).2
    omega
end Go.Proofs.Ytmaeejojmbibnaa
