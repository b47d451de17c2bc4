/- The calls as a law sees them: a dictionary beside the law's own blocks X. -/
import Derived.Test.YtlglfcadoofmpaaA8
namespace Go.Proofs.Ytlglfcadoofmpaa
open Go.RowKit Go.Maps Go.Proofs
set_option linter.unusedVariables false

/-- A dictionary of the texts L, all of whose blocks are none of X. -/
structure Dt (w : World) (X : Nat → Prop) (d : Nat) (L : List Tx) : Prop where
  lo : ∀ k, X k → k < w.heap.size
  at_ : ∃ S R, S.L = L ∧ WF S ∧ At w d R S ∧ ∀ k, foot d R k → ¬ X k
def NX (X : Nat → Prop) : Nat → Prop := fun k => ¬ X k

theorem Dt.fr {w w' : World} {X : Nat → Prop} {d : Nat} {L : List Tx} (h : Dt w X d L) (hf : Fr X w w') : Dt w' X d L := by
  obtain ⟨S, R, e, hW, a, x⟩ := h.at_
  exact ⟨fun k hk => Nat.lt_of_lt_of_le (h.lo k hk) hf.size, S, R, e, hW, a.fr hf fun k hk hF => x k hF hk, x⟩
theorem Dt.keep {w w' : World} {X : Nat → Prop} {d : Nat} {L : List Tx} (h : Dt w X d L) (hf : Fr No w w') : Dt w' X d L := h.fr hf.any
/-- More blocks of the law's own: new ones. -/
theorem Dt.more {w w' : World} {X Y : Nat → Prop} {d : Nat} {L : List Tx} (h : Dt w X d L) (hf : Fr No w w') (hY : ∀ k, Y k → X k ∨ (w.heap.size ≤ k ∧ k < w'.heap.size)) : Dt w' Y d L := by
  obtain ⟨S, R, e, hW, a, x⟩ := h.at_
  refine ⟨fun k hk => ?_, S, R, e, hW, a.keep hf, fun k hk hy => ?_⟩
  · rcases hY k hk with hx | hx
    · exact Nat.lt_of_lt_of_le (h.lo k hx) hf.size
    · exact hx.2
  · rcases hY k hy with hx | hx
    · exact x k hk hx
    · have := a.lt k hk; omega
theorem Dt.less {w : World} {X Y : Nat → Prop} {d : Nat} {L : List Tx} (h : Dt w X d L) (hY : ∀ k, Y k → X k) : Dt w Y d L := h.more (Fr.refl _ _) fun k hk => .inl (hY k hk)
theorem Dt.facts {w : World} {X : Nat → Prop} {d : Nat} {L : List Tx} (h : Dt w X d L) : L.Nodup ∧ L.length ≤ 4096 ∧ ∀ t ∈ L, t.length ≤ 64 := by
  obtain ⟨S, R, rfl, hW, a, x⟩ := h.at_
  exact ⟨hW.nd, hW.le, hW.tx⟩
theorem frX {X : Nat → Prop} {w w' : World} {d : Nat} {R : Rp} (x : ∀ k, foot d R k → ¬ X k) (hf : Fr (foot d R) w w') : Fr (NX X) w w' := hf.mono fun k _ hk => x k hk
theorem post_dt {w w' : World} {X : Nat → Prop} {d : Nat} {R : Rp} {S' : DS} (lo : ∀ k, X k → k < w.heap.size) (x : ∀ k, foot d R k → ¬ X k) (hW : WF S') (p : Post d R w S' w') : Dt w' X d S'.L ∧ Fr (NX X) w w' := by
  obtain ⟨R', a, f, g⟩ := p
  refine ⟨⟨fun k hk => Nat.lt_of_lt_of_le (lo k hk) f.size, S', R', rfl, hW, a, fun k hk hx => ?_⟩, frX x f⟩
  rcases g k hk with h | h
  · exact x k h hx
  · have := lo k hx; omega

/-! ### the plain calls -/
def putL (L : List Tx) (t : Tx) : List Tx := if 64 < t.length then L else match num L t with | some _ => L | none => if L.length = 4096 then L else L ++ [t]
def putN (L : List Tx) (t : Tx) : Int := if 64 < t.length then 0 else match num L t with | some n => n | none => if L.length = 4096 then 0 else L.length
def putE (L : List Tx) (t : Tx) : Int := if 64 < t.length then 45 else match num L t with | some _ => 0 | none => if L.length = 4096 then 12 else 0
theorem putL_eq (S : DS) (t : Tx) : (S.put t).L = putL S.L t := by
  unfold DS.put putL
  by_cases h : 64 < t.length
  · rw [if_pos h, if_pos h]
  · rw [if_neg h, if_neg h]
    cases num S.L t with
    | some n => rfl
    | none =>
      simp only
      by_cases h2 : S.L.length = 4096
      · rw [if_pos h2, if_pos h2]
      · rw [if_neg h2, if_neg h2]; rfl

section
variable {w : World} {X : Nat → Prop} {d : Nat} {L : List Tx}
def PutX (X : Nat → Prop) (d : Nat) (L : List Tx) (t : Tx) (w : World) (e : Ending) (w' : World) : Prop := e = .returned (.tuple #[.int .i64 (putN L t), .int .i64 (putE L t)]) ∧ Dt w' X d (putL L t) ∧ Fr (NX X) w w'
theorem m_put (h : Dt w X d L) (t : Tx) (hm : t.length ≤ maxLen) : Calls Try.prog 15 #[.pointer (some ⟨d, 0, none⟩), .string ⟨t.toArray⟩] w (PutX X d L t w) := by
  obtain ⟨S, R, rfl, hW, a, x⟩ := h.at_
  refine (put_any d R S w a hW t hm).mono ?_
  rintro e w' ⟨he, p⟩
  obtain ⟨p1, p2⟩ := post_dt h.lo x (hW.put t) p
  rw [putL_eq] at p1
  exact ⟨he, p1, p2⟩
theorem m_len (h : Dt w X d L) : Calls Try.prog 11 #[.pointer (some ⟨d, 0, none⟩)] w fun e w' => e = .returned (.int .i64 (L.length : Nat)) ∧ w = w' := by
  obtain ⟨S, R, rfl, hW, a, x⟩ := h.at_
  exact len_any d R S w a
theorem m_find (h : Dt w X d L) (t : Tx) (hm : t.length ≤ maxLen) : Calls Try.prog 16 #[.pointer (some ⟨d, 0, none⟩), .string ⟨t.toArray⟩] w (TextP (.int .i64 (onI (num L t))) (num L t).isSome w) := by
  obtain ⟨S, R, rfl, hW, a, x⟩ := h.at_
  exact find_any d R S w a t hm
theorem m_text (h : Dt w X d L) (n : Nat) (hn : n < L.length) : Calls Try.prog 17 #[.pointer (some ⟨d, 0, none⟩), .int .i64 n] w (TextP (encT (txt L n)) true w) := by
  obtain ⟨S, R, rfl, hW, a, x⟩ := h.at_
  exact text_in d R S w a n hn
theorem m_text_out (h : Dt w X d L) (n : Int) (hn : n < 0 ∨ (L.length : Int) ≤ n) : Calls Try.prog 17 #[.pointer (some ⟨d, 0, none⟩), .int .i64 n] w (TextP (.string ⟨#[]⟩) false w) := by
  obtain ⟨S, R, rfl, hW, a, x⟩ := h.at_
  exact text_out w _ n (has_out d R S w a n hn)
theorem m_rank_out (h : Dt w X d L) (n : Int) (hn : n < 0 ∨ (L.length : Int) ≤ n) : Calls Try.prog 18 #[.pointer (some ⟨d, 0, none⟩), .int .i64 n] w (TextP (.int .i64 0) false w) := by
  obtain ⟨S, R, rfl, hW, a, x⟩ := h.at_
  exact rank_out w _ n (has_out d R S w a n hn)
def RankX (X : Nat → Prop) (d : Nat) (L : List Tx) (n : Nat) (w : World) (e : Ending) (w' : World) : Prop := ∃ (T : List Nat) (k : Nat), e = .returned (.tuple #[.int .i64 k, .bool true]) ∧ Ord L T ∧ T[k]? = some n ∧ Dt w' X d L ∧ Fr (NX X) w w'
theorem m_rank (h : Dt w X d L) (n : Nat) (hn : n < L.length) : Calls Try.prog 18 #[.pointer (some ⟨d, 0, none⟩), .int .i64 n] w (RankX X d L n w) := by
  obtain ⟨S, R, rfl, hW, a, x⟩ := h.at_
  refine (rank_in d R S w a hW n hn).mono ?_
  rintro e w' ⟨S', k, he, e1, hW', hO, hk, p⟩
  obtain ⟨p1, p2⟩ := post_dt h.lo x hW' p
  rw [e1] at hO p1
  exact ⟨_, k, he, hO, hk, p1, p2⟩

/-- X, and a row's own block. -/
def OwnX (X : Nat → Prop) (v : Value) : Nat → Prop := fun k => X k ∨ v.ownBlock = some k
def ListX (X : Nat → Prop) (d : Nat) (L : List Tx) (P : List Nat → Prop) (w : World) (e : Ending) (w' : World) : Prop :=
  ∃ (v : Value) (l : List Nat), e = .returned v ∧ P l ∧ w'.ownsRow w.heap.size 3 1 v l.length (l.map encN) ∧ Dt w' (OwnX X v) d L ∧ Fr (NX X) w w'
theorem m_sorted (h : Dt w X d L) : Calls Try.prog 13 #[.pointer (some ⟨d, 0, none⟩)] w (ListX X d L (Ord L) w) := by
  obtain ⟨S, R, rfl, hW, a, x⟩ := h.at_
  refine (sorted_any d R S w a hW).mono ?_
  rintro e w' ⟨v, S', R', he, e1, hW', hO, ho, a', f, g, hv⟩
  rw [e1] at hO
  refine ⟨v, S'.S, he, hO, ho, ⟨fun k hk => ?_, S', R', e1, hW', a', fun k hk hx => ?_⟩, frX x f⟩
  · rcases hk with hk | hk
    · exact Nat.lt_of_lt_of_le (h.lo k hk) f.size
    · exact (ho.lt k hk).2
  · rcases hx with hx | hx
    · rcases g k hk with q | q
      · exact x k q hx
      · have := h.lo k hx; omega
    · exact hv k hx hk
theorem m_between (h : Dt w X d L) (low high : Tx) : Calls Try.prog 19 #[.pointer (some ⟨d, 0, none⟩), .string ⟨low.toArray⟩, .string ⟨high.toArray⟩] w (ListX X d L (fun l => ∀ T, Ord L T → l = btw L T low high) w) := by
  obtain ⟨S, R, rfl, hW, a, x⟩ := h.at_
  refine (between_any d R S low high w a hW).mono ?_
  rintro e w' ⟨v, S', R', l, he, e1, hW', hl, ho, a', f, g, hv⟩
  refine ⟨v, l, he, hl, ho, ⟨fun k hk => ?_, S', R', e1, hW', a', fun k hk hx => ?_⟩, frX x f⟩
  · rcases hk with hk | hk
    · exact Nat.lt_of_lt_of_le (h.lo k hk) f.size
    · exact (ho.lt k hk).2
  · rcases hx with hx | hx
    · rcases g k hk with q | q
      · exact x k q hx
      · have := h.lo k hx; omega
    · exact hv k hx hk
end
/-- What was below B, and the law's own. -/
def Bel (B : Nat) : Nat → Prop := fun k => k < B
def NewX (w : World) (e : Ending) (w' : World) : Prop := e = .returned (.pointer (some ⟨w.heap.size, 0, none⟩)) ∧ Dt w' (Bel w.heap.size) w.heap.size [] ∧ Fr No w w'
theorem m_new (w : World) : Calls Try.prog 9 #[] w (NewX w) := by
  refine (new_any w).mono ?_
  rintro e w' ⟨R, he, a, f, g⟩
  exact ⟨he, ⟨fun k hk => Nat.lt_of_lt_of_le hk f.size, .new, R, rfl, WF.new, a, fun k hk hx => by have := g k hk; unfold Bel at hx; omega⟩, f⟩
theorem dt_zero (w : World) : Dt (w.alloc (.cells zeroD 65)) (Bel w.heap.size) w.heap.size [] :=
  ⟨fun k hk => by unfold Bel at hk; simp; omega, .new, .new, rfl, WF.new, At.new (Blk.new w 65 zeroD), fun k hk hx => by rw [foot_new hk] at hx; unfold Bel at hx; omega⟩
theorem bel_below {w w' : World} {B : Nat} (hB : B ≤ w.heap.size) (h : Fr (NX (Bel B)) w w') : Below B w w' := ⟨h.os, h.tape, h.output, h.size, fun k hk => h.block k (by omega) (fun hn => hn hk)⟩
theorem Fr.nx {X : Nat → Prop} {w w' : World} (h : Fr No w w') : Fr (NX X) w w' := h.any
theorem Fr.nxt {X Y : Nat → Prop} {a b c : World} (h : Fr (NX X) a b) (k : Fr (NX Y) b c) (hXY : ∀ j, X j → Y j) : Fr (NX X) a c := h.trans k fun j _ hj hx => hj (hXY j hx)
end Go.Proofs.Ytlglfcadoofmpaa
