/- Words: what a scan keeps. -/
import Derived.Test.YtpdfenpmnpoehaaGreatDoorXB1
namespace Go.Proofs.YtpdfenpmnpoehaaGreatDoor
open Go.RowKit Go.Maps
set_option linter.unusedVariables false

def comb (l : List Wd) (x : Res) : Res := if x.2.1 = 0 then (l ++ x.1, 0, 0) else ([], x.2)
theorem comb_cons (l : List Wd) (a : Wd) (x : Res) : comb l (cons1 a x) = comb (l ++ [a]) x := by
  unfold comb cons1
  by_cases h : x.2.1 = 0
  · rw [if_pos h, if_pos rfl, if_pos h]; simp
  · rw [if_neg h, if_neg h, if_neg h]
theorem scan_zero {r : Tx} {p : Nat} (h : (scanB r p).2.1 = 0) : (scanB r p).2.2 = 0 := by
  obtain ⟨l, z, h1, h2, _⟩ := made_scan r.length r p _ (Nat.le_refl _) h rfl
  have h4 := scan_made l z p h2
  rw [h1, h4]
theorem comb_nil (r : Tx) (p : Nat) : comb [] (scanB r p) = scanB r p := by
  unfold comb
  by_cases h : (scanB r p).2.1 = 0
  · rw [if_pos h]
    have h2 := scan_zero h
    cases hs : scanB r p with
    | mk a b =>
      obtain ⟨c, f⟩ := b
      rw [hs] at h h2
      simp only at h h2
      rw [h, h2]; rfl
  · rw [if_neg h]
    have h3 := (scan_fault r.length r p (Nat.le_refl _) h).2.2
    rw [← h3]

/-- What a scan keeps ahead of each word. -/
def InvA (B d : Nat) (s : ByteArray) (w : World) (v : Value) (p : Nat) (l : List Wd) : Prop :=
  Sc B d s w v p l 0 0 ∧ p ≤ s.size ∧ l.length ≤ p ∧ wordsB s.data.toList = comb l (scanB (s.data.toList.drop p) p)
def InvB (B d : Nat) (s : ByteArray) (w : World) : Prop := ∃ v p c f, Sc B d s w v p [] c f ∧ c ≠ 0 ∧ wordsB s.data.toList = ([], c, f)
def LInv (B d : Nat) (s : ByteArray) (w : World) : Prop := (∃ v p l, InvA B d s w v p l) ∨ InvB B d s w
def LDone (B d : Nat) (s : ByteArray) (w : World) : Prop := ∃ v p l c f, Sc B d s w v p l c f ∧ wordsB s.data.toList = (l, c, f)
theorem InvB.done {B d : Nat} {s : ByteArray} {w : World} (h : InvB B d s w) : LDone B d s w := by
  obtain ⟨v, p, c, f, h1, h2, h3⟩ := h
  exact ⟨v, p, [], c, f, h1, h3⟩

def ldN (w : World) (a : Addr) : Nat := match w.cell? a with | some (.int _ n) => n.toNat | _ => 0
def measW (s : ByteArray) (d : Nat) (w : World) : Nat := if ldN w ⟨d, 3, none⟩ = 0 then s.size + 1 - ldN w ⟨d, 1, none⟩ else 0
theorem Sc.meas {B d : Nat} {s : ByteArray} {w : World} {v : Value} {p : Nat} {l : List Wd} {c f : Nat} (h : Sc B d s w v p l c f) : measW s d w = if c = 0 then s.size + 1 - p else 0 := by
  have c1 : w.cell? ⟨d, 1, none⟩ = some (.int .i64 (p : Nat)) := h.blk.cell 1
  have c3 : w.cell? ⟨d, 3, none⟩ = some (.int .i64 (c : Nat)) := h.blk.cell 3
  unfold measW ldN
  rw [c1, c3]
  simp

theorem Sc.move {B d : Nat} {s : ByteArray} {w : World} {v : Value} {p : Nat} {l : List Wd} (h : Sc B d s w v p l 0 0) (n q : Nat) : Sc B d s ((w.drewN q).setCell ⟨d, 1, none⟩ (.int .i64 (n : Nat))) v n l 0 0 ∧ Below B w ((w.drewN q).setCell ⟨d, 1, none⟩ (.int .i64 (n : Nat))) := by
  have hf : Fr (fun k => k = d) w ((w.drewN q).setCell ⟨d, 1, none⟩ (.int .i64 (n : Nat))) := ((Fr.refl (fun k => k = d) w).drewN q).setCell (p := ⟨d, 1, none⟩) (fun _ => rfl) _
  have hbel : Below B w ((w.drewN q).setCell ⟨d, 1, none⟩ (.int .i64 (n : Nat))) := hf.below_of (by have := h.le; have := h.blk.lt; omega) (by rintro k rfl; exact h.le)
  refine ⟨{ blk := ((h.drewN q).blk.set_ 1 _), row := own_of h.row fun k hk => hf.block k (h.row.lt k hk).2 fun e => h.apart (e ▸ hk), le := h.le, lr := h.lr.keep h.b2 hbel, b2 := h.b2 }, hbel⟩

/-- Ahead of a word, the blanks gone over: r is what is left. -/
structure Ahead (B d : Nat) (s : ByteArray) (w : World) (v : Value) (p : Nat) (l : List Wd) : Prop where
  sc : Sc B d s w v p l 0 0
  le : p ≤ s.size
  ln : l.length ≤ p
  eq : wordsB s.data.toList = comb l (scanB (s.data.toList.drop p) p)
  nb : firstB (s.data.toList.drop p) ≠ 1
theorem rest_list (s : ByteArray) (p : Nat) : (s.extract p s.size).data.toList = s.data.toList.drop p := by
  rw [ext_toList, show s.data.toList.take s.size = s.data.toList by rw [← len_data, List.take_length]]
theorem InvA.ahead {B d : Nat} {s : ByteArray} {w : World} {v : Value} {p : Nat} {l : List Wd} (h : InvA B d s w v p l) (q : Nat) {n : Nat} (hn : p + runB isBla (s.data.toList.drop p) = n) :
    Ahead B d s ((w.drewN q).setCell ⟨d, 1, none⟩ (.int .i64 (n : Nat))) v n l ∧ Below B w ((w.drewN q).setCell ⟨d, 1, none⟩ (.int .i64 (n : Nat))) := by
  obtain ⟨h1, h2, h3, h4⟩ := h
  have hle := runB_le isBla (s.data.toList.drop p)
  have hst := runB_head isBla (s.data.toList.drop p)
  rw [List.length_drop, len_data] at hle
  obtain ⟨h5, h6⟩ := h1.move n q
  refine ⟨⟨h5, by omega, by omega, ?_, ?_⟩, h6⟩
  · rw [h4, scanB_blanks, List.drop_drop, hn]
  · rw [List.drop_drop, hn] at hst
    cases hd : s.data.toList.drop n with
    | nil => simp [firstB]
    | cons b m =>
      rw [hd] at hst
      intro e
      have := hst b rfl
      rw [(kind_bla b).1 e] at this; cases this
theorem Ahead.drewN {B d : Nat} {s : ByteArray} {w : World} {v : Value} {p : Nat} {l : List Wd} (h : Ahead B d s w v p l) (n : Nat) : Ahead B d s (w.drewN n) v p l := { h with sc := h.sc.drewN n }
/-- Behind a word. -/
theorem Ahead.step {B d : Nat} {s : ByteArray} {w : World} {v : Value} {p : Nat} {l : List Wd} (h : Ahead B d s w v p l) (hne : s.data.toList.drop p ≠ []) {e : Ending} {w' : World} (hw : StepP B d s w p l (wordT (s.data.toList.drop p)) e w') :
    LInv B d s w' ∧ Below B w w' ∧ measW s d w' < s.size + 1 - p := by
  obtain ⟨_, hw⟩ := hw
  cases hk : wordT (s.data.toList.drop p) with
  | bad c on =>
    rw [hk] at hw
    obtain ⟨v', h1, h2⟩ := hw
    have hc : c ≠ 0 := by rcases (word_bad hk).1 with e | e <;> omega
    have he := h.eq
    rw [scanB_bad p h.nb hne hk] at he
    have hle := h.le
    refine ⟨.inr ⟨v', p, c, p + on, h1, hc, by rw [he]; unfold comb; rw [if_neg hc]⟩, h2, ?_⟩
    rw [h1.meas, if_neg hc]; omega
  | good k t n =>
    rw [hk] at hw
    obtain ⟨v', h1, h2⟩ := hw
    obtain ⟨x, y, g1, g2, g3, _⟩ := word_inv hk
    have hxl : 0 < x.length := List.length_pos_iff.2 g3
    have hlen := congrArg List.length g1
    rw [List.length_drop, len_data, List.length_append] at hlen
    have hle := h.le
    have hln := h.ln
    have he := h.eq
    rw [scanB_good p h.nb hne hk, List.drop_drop, comb_cons] at he
    refine ⟨.inl ⟨v', p + n, l ++ [⟨k, t, p⟩], h1, by omega, by simp; omega, he⟩, h2, ?_⟩
    rw [h1.meas, if_pos rfl]; omega
theorem Ahead.ending {B d : Nat} {s : ByteArray} {w w' : World} {v v' : Value} {p : Nat} {l : List Wd} (h : Ahead B d s w v p l) (he : s.data.toList.drop p = []) (h' : Sc B d s w' v' (p + 0) (l ++ [⟨6, [], p⟩]) 0 0) : LDone B d s w' := by
  refine ⟨v', p + 0, _, 0, 0, h', ?_⟩
  rw [h.eq, he, scanB_end]; rfl
theorem InvA.start {B d : Nat} {s : ByteArray} {w : World} (h : Sc B d s w (.slice none 0 0) 0 [] 0 0) (hs : s.size ≤ 4096) : LInv B d s w := by
  refine .inl ⟨_, 0, [], h, Nat.zero_le _, Nat.le_refl _, ?_⟩
  rw [wordsB_scan _ (by rw [len_data]; exact hs), List.drop_zero, comb_nil]
end Go.Proofs.YtpdfenpmnpoehaaGreatDoor
