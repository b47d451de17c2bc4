/- SchedRising: a task ends; how many picks there can be. -/
import Derived.Test.YtnonidoeakhfdaaE1
namespace Go.Proofs.Ytnonidoeakhfdaa
open Go.RowKit Go.Maps Go.Sort
set_option linter.unusedVariables false

section
variable {S : SS} {m : Nat} {todo : Nat → List Int} {d : Nat → Nat} {al : Nat → Bool} {pot : Nat → Nat}

/-- One lock of a task that is gone is passed on. -/
theorem MI.pass {n t : Int} {rem : List Int} (h : MI S m todo d al pot (· ∈ n :: rem)) (hW : WF S) {q : List Int} (hH : S.lock n = some ⟨t, q⟩) (ht : ∀ k : Nat, k < m → al k = true → t ≠ (k : Int) + 1) (hn : n ∉ rem) :
    MI (S.pass n) m todo d al pot (· ∈ rem) := by
  have exr : ∀ n', n' ≠ n → n' ∈ n :: rem → n' ∈ rem := fun n' e hm => by
    rcases List.mem_cons.1 hm with h | h
    · exact absurd h e
    · exact h
  cases q with
  | nil =>
    have e : S.pass n = S.freed n := by unfold SS.pass; rw [hH]
    rw [e]
    have lother : ∀ n', n' ≠ n → (S.freed n).lock n' = S.lock n' := fun n' hn => upd_other _ _ hn
    have lself : (S.freed n).lock n = none := upd_same _ _ _
    refine ⟨h.tk, h.ta, fun x Q hQ hkq => ?_, fun n' H hH' => ?_, fun j hj hja => ⟨(h.pt j hj hja).1, fun Q hQ hkq hnx => (h.pt j hj hja).2 Q hQ hkq fun n' H hn' hH' => ?_⟩, h.td⟩
    · obtain ⟨H, hH2, hq⟩ := h.wq x Q hQ hkq
      by_cases en : Q.num = n
      · rw [en, hH] at hH2; cases hH2; cases hq
      · exact ⟨H, by rw [lother _ en]; exact hH2, hq⟩
    · have en : n' ≠ n := by rintro rfl; rw [lself] at hH'; cases hH'
      rw [lother _ en] at hH'
      rcases h.lk n' H hH' with hx | hx
      · exact .inl (exr n' en hx)
      · exact .inr hx
    · by_cases en : n' = n
      · subst en; rw [hH] at hH'; cases hH'; exact ht j hj hja
      · exact hnx n' H hn' (by rw [lother _ en]; exact hH')
  | cons x q =>
    obtain ⟨hnd, _, hqs⟩ := hW.q n _ hH
    obtain ⟨T, hT, hk1, hnum⟩ := hqs x (by simp)
    have hnd2 := List.nodup_cons.1 hnd
    obtain ⟨kx, hkx, hax, rfl⟩ := h.tk x T hT
    obtain ⟨T2, hT2, hdx, hor⟩ := h.ta kx hkx hax
    rw [hT] at hT2; cases hT2
    have hnx' : (todo kx)[d kx]? = some n := by
      rcases hor with h0 | ⟨_, hn⟩
      · rw [h0] at hk1; cases hk1
      · rw [hnum] at hn; exact hn
    have e : S.pass n = S.given n ((kx : Int) + 1) q T := by unfold SS.pass; rw [hH]; simp only [hT]
    rw [e]
    have lother : ∀ n', n' ≠ n → (S.given n ((kx : Int) + 1) q T).lock n' = S.lock n' := fun n' hn => upd_other _ _ hn
    have lself : (S.given n ((kx : Int) + 1) q T).lock n = some ⟨(kx : Int) + 1, q⟩ := upd_same _ _ _
    have tother : ∀ y, y ≠ (kx : Int) + 1 → (S.given n ((kx : Int) + 1) q T).task y = S.task y := fun y hy => upd_other _ _ hy
    have tself : (S.given n ((kx : Int) + 1) q T).task ((kx : Int) + 1) = some { T with kind := 0, num := 0 } := upd_same _ _ _
    refine ⟨fun y Q hQ => ?_, fun j hj hja => ?_, fun y Q hQ hkq => ?_, fun n' H hH' => ?_, fun j hj hja => ⟨(h.pt j hj hja).1, fun Q hQ hkq hnx => ?_⟩, h.td⟩
    · by_cases ey : y = (kx : Int) + 1
      · exact ⟨kx, hkx, hax, ey⟩
      · rw [tother y ey] at hQ; exact h.tk y Q hQ
    · by_cases ej : j = kx
      · subst ej; exact ⟨_, tself, hdx, .inl rfl⟩
      · obtain ⟨Q, hQ, hd, hor⟩ := h.ta j hj hja
        exact ⟨Q, by rw [tother _ (by omega)]; exact hQ, hd, hor⟩
    · by_cases ey : y = (kx : Int) + 1
      · subst ey; rw [tself] at hQ; cases hQ; cases hkq
      · rw [tother y ey] at hQ
        obtain ⟨H, hH2, hq⟩ := h.wq y Q hQ hkq
        by_cases en : Q.num = n
        · rw [en] at hH2 ⊢; rw [hH] at hH2; cases hH2
          refine ⟨_, lself, ?_⟩
          rcases List.mem_cons.1 hq with hq | hq
          · exact absurd hq ey
          · exact hq
        · exact ⟨H, by rw [lother _ en]; exact hH2, hq⟩
    · by_cases en : n' = n
      · subst en; rw [lself] at hH'; cases hH'
        exact .inr ⟨kx, d kx, _, hkx, hax, rfl, hnx', tself, .inr ⟨rfl, rfl⟩⟩
      · rw [lother _ en] at hH'
        rcases h.lk n' H hH' with hx | ⟨k1, j, Q, a1, a2, a3, a4, a5, a6⟩
        · exact .inl (exr n' en hx)
        · right
          by_cases ek : k1 = kx
          · subst ek
            refine ⟨k1, j, _, a1, a2, a3, a4, tself, ?_⟩
            rcases a6 with a6 | ⟨a6, _⟩
            · exact .inl a6
            · exact .inr ⟨a6, rfl⟩
          · exact ⟨k1, j, Q, a1, a2, a3, a4, by rw [tother _ (by omega)]; exact a5, a6⟩
    · by_cases ej : j = kx
      · subst ej
        exact absurd rfl (hnx n _ hnx' lself)
      · rw [tother _ (by omega)] at hQ
        refine (h.pt j hj hja).2 Q hQ hkq fun n' H hn' hH' => ?_
        by_cases en : n' = n
        · subst en; rw [hH] at hH'; cases hH'; exact ht j hj hja
        · exact hnx n' H hn' (by rw [lother _ en]; exact hH')

theorem MI.passAll {t : Int} : ∀ (l : List Int) (S : SS), MI S m todo d al pot (· ∈ l) → WF S → l.Nodup → (∀ n ∈ l, ∃ q, S.lock n = some ⟨t, q⟩) → (∀ k : Nat, k < m → al k = true → t ≠ (k : Int) + 1) → MI (S.passAll l) m todo d al pot nobody
  | [], S, h, _, _, _, _ => ⟨h.tk, h.ta, h.wq, fun n H hH => (h.lk n H hH).imp (fun h => by cases h) id, h.pt, h.td⟩
  | n :: l, S, h, hW, hnd, hl, ht => by
    obtain ⟨q, hq⟩ := hl n (by simp)
    have hn := List.nodup_cons.1 hnd
    have h1 := h.pass hW hq ht hn.1
    refine MI.passAll l (S.pass n) h1 (hW.pass n) hn.2 (fun n' hn' => ?_) ht
    rw [pass_lock_other S (show n' ≠ n from fun e => hn.1 (e ▸ hn'))]
    exact hl n' (by simp [hn'])

/-- A task that has all its locks ends. -/
theorem MI.end_ (h : MI S m todo d al pot nobody) (hW : WF S) {k : Nat} (hk : k < m) (ha : al k = true) {T : TS} (hT : S.task ((k : Int) + 1) = some T) (h0 : T.kind = 0) (hd : d k = (todo k).length) :
    (S.endC ((k : Int) + 1)).1 = 0 ∧ 1 ≤ pot k ∧ MI (S.endC ((k : Int) + 1)).2 m todo d (upN al k false) (upN pot k 0) nobody := by
  have e : S.endC ((k : Int) + 1) = (0, (S.gone ((k : Int) + 1)).passAll (S.holdsOf ((k : Int) + 1))) := by unfold SS.endC; rw [hT]; simp only [h0]; rfl
  have hp := (h.pt k hk ha).2 T hT h0 fun n H hn => by
    rw [hd, List.getElem?_eq_none (Nat.le_refl _)] at hn; cases hn
  rw [e]
  refine ⟨rfl, by omega, ?_⟩
  have tother : ∀ y, y ≠ (k : Int) + 1 → (S.gone ((k : Int) + 1)).task y = S.task y := fun y hy => upd_other _ _ hy
  have tself : (S.gone ((k : Int) + 1)).task ((k : Int) + 1) = none := upd_same _ _ _
  have alo : ∀ j, upN al k false j = true → j ≠ k ∧ al j = true := fun j hj => by
    by_cases ej : j = k
    · subst ej; rw [upN_same] at hj; cases hj
    · rw [upN_other _ _ ej] at hj; exact ⟨ej, hj⟩
  have ali : ∀ j, j ≠ k → al j = true → upN al k false j = true := fun j hj hja => by rw [upN_other _ _ hj]; exact hja
  refine MI.passAll (t := (k : Int) + 1) _ _ ⟨fun x Q hQ => ?_, fun j hj hja => ?_, fun x Q hQ hkq => ?_, fun n H hH => ?_, fun j hj hja => ?_, h.td⟩ (hW.gone hT h0) (holdsOf_nodup hW.rl _) (fun n hn => ?_) fun j hj hja => ?_
  · have ex : x ≠ (k : Int) + 1 := by rintro rfl; rw [tself] at hQ; cases hQ
    rw [tother x ex] at hQ
    obtain ⟨j, hj, hja, hx⟩ := h.tk x Q hQ
    exact ⟨j, hj, ali j (by rintro rfl; exact ex hx) hja, hx⟩
  · obtain ⟨ej, hja'⟩ := alo j hja
    obtain ⟨Q, hQ, hr⟩ := h.ta j hj hja'
    exact ⟨Q, by rw [tother _ (by omega)]; exact hQ, hr⟩
  · have ex : x ≠ (k : Int) + 1 := by rintro rfl; rw [tself] at hQ; cases hQ
    rw [tother x ex] at hQ
    exact h.wq x Q hQ hkq
  · have hH' : S.lock n = some H := hH
    obtain hx | ⟨k1, j, Q, a1, a2, a3, a4, a5, a6⟩ := h.lk n H hH'
    · exact hx.elim
    · by_cases ek : k1 = k
      · subst ek
        exact .inl ((holdsOf_mem hW.rl).2 ⟨H, hH', a3⟩)
      · exact .inr ⟨k1, j, Q, a1, ali k1 ek a2, a3, a4, by rw [tother _ (by omega)]; exact a5, a6⟩
  · obtain ⟨ej, hja'⟩ := alo j hja
    rw [upN_other _ _ ej]
    obtain ⟨b1, b2⟩ := h.pt j hj hja'
    refine ⟨b1, fun Q hQ hkq hnx => ?_⟩
    rw [tother _ (by omega)] at hQ
    exact b2 Q hQ hkq hnx
  · obtain ⟨H, hH, hh⟩ := (holdsOf_mem hW.rl).1 hn
    exact ⟨H.queue, by show S.lock n = _; rw [hH]; obtain ⟨a, b⟩ := H; simp at hh; rw [hh]⟩
  · obtain ⟨ej, _⟩ := alo j hja
    omega
end

/-- A sum over the tasks. -/
def sumTo (f : Nat → Nat) : Nat → Nat
  | 0 => 0
  | m + 1 => sumTo f m + f m
theorem sumTo_up (f : Nat → Nat) (k x : Nat) : ∀ m, k < m → sumTo (upN f k x) m + f k = sumTo f m + x
  | 0, h => by omega
  | m + 1, h => by
    unfold sumTo
    by_cases e : k = m
    · subst e
      rw [upN_same]
      have : ∀ j, j ≤ k → sumTo (upN f k x) j = sumTo f j := by
        intro j
        induction j with
        | zero => intro _; rfl
        | succ j ih => intro hj; unfold sumTo; rw [ih (by omega), upN_other _ _ (by omega)]
      rw [this k (Nat.le_refl _)]; omega
    · rw [upN_other _ _ (Ne.symm e)]
      have := sumTo_up f k x m (by omega)
      omega
theorem sumTo_le (f : Nat → Nat) (b : Nat) : ∀ m, (∀ k, k < m → f k ≤ b) → sumTo f m ≤ m * b
  | 0, h => by simp [sumTo]
  | m + 1, h => by
    unfold sumTo
    have := sumTo_le f b m fun k hk => h k (by omega)
    have := h m (by omega)
    rw [Nat.add_mul]; omega
theorem sumTo_pos {f : Nat → Nat} : ∀ {m : Nat}, 0 < sumTo f m → ∃ k, k < m ∧ 0 < f k
  | 0, h => by simp [sumTo] at h
  | m + 1, h => by
    unfold sumTo at h
    by_cases e : 0 < f m
    · exact ⟨m, by omega, e⟩
    · obtain ⟨k, hk, hf⟩ := sumTo_pos (f := f) (m := m) (by omega)
      exact ⟨k, by omega, hf⟩
theorem sumTo_zero {f : Nat → Nat} {m : Nat} (h : sumTo f m = 0) : ∀ k, k < m → f k = 0 := by
  induction m with
  | zero => intro k hk; omega
  | succ m ih =>
    unfold sumTo at h
    intro k hk
    by_cases e : k = m
    · subst e; omega
    · exact ih (by omega) k (by omega)
def alN (al : Nat → Bool) (k : Nat) : Nat := if al k then 1 else 0
theorem alN_up (al : Nat → Bool) (k : Nat) : alN (upN al k false) = upN (alN al) k 0 := by
  funext j
  unfold alN upN
  split <;> rfl

/-- At the start: none has a lock. -/
theorem MI.start {S : SS} {m u : Nat} (h : TI S m T0 u) (hW : WF S) (hl : ∀ n, S.lock n = none) {todo : Nat → List Int} (htd : ∀ k, k < m → Rising (todo k)) : MI S m todo (fun _ => 0) (fun _ => true) (fun _ => 9) nobody := by
  have tk : ∀ x T, S.task x = some T → ∃ k : Nat, k < m ∧ x = (k : Int) + 1 := fun x T hT => by
    have := (hW.rt.2 x).2 (by rw [hT]; rfl)
    rw [h.keys] at this
    exact rng_mem.1 this
  refine ⟨fun x T hT => ?_, fun k hk _ => ⟨_, h.task k hk, Nat.zero_le _, .inl rfl⟩, fun x T hT hk => ?_, fun n H hH => ?_, fun k hk _ => ?_, htd⟩
  · obtain ⟨k, hk, hx⟩ := tk x T hT; exact ⟨k, hk, rfl, hx⟩
  · obtain ⟨k, hk, rfl⟩ := tk x T hT
    rw [h.task k hk] at hT; cases hT; cases hk
  · rw [hl n] at hH; cases hH
  · have := (htd k hk).len
    exact ⟨by show 2 * ((todo k).length - 0) ≤ 9; omega, fun _ _ _ _ => by show 2 * ((todo k).length - 0) + 1 ≤ 9; omega⟩

end Go.Proofs.Ytnonidoeakhfdaa
