/- Lists of numbers as a law sees them: same, append, a beginning; rows of texts that came in. -/
import Derived.Test.YtlglfcadoofmpaaB2
import Derived.Laws.AppendOwnNone
import Derived.Deep.LoopGhost
namespace Go.Proofs.Ytlglfcadoofmpaa
open Go.RowKit Go.Maps Go.Proofs
set_option linter.unusedVariables false

/-- v reads as the numbers l. -/
def LAt (w : World) (v : Value) (l : List Nat) : Prop :=
  l.length ≤ 1000000 ∧ ∃ A c, v = .slice A l.length c ∧ (0 < l.length → ∃ g o, A = some ⟨g, o, none⟩ ∧ ∀ i x, l[i]? = some x → w.cell? ⟨g, o + i, none⟩ = some (encN x))
theorem LAt.own {w : World} {b : Nat} {v : Value} {l : List Nat} (h : w.ownsRow b 3 1 v l.length (l.map encN)) (hl : l.length ≤ 1000000) : LAt w v l := by
  obtain ⟨A, c, e⟩ := own_form h
  refine ⟨hl, A, c, e, fun h0 => ?_⟩
  obtain ⟨g, c', e', _, hc⟩ := own_cells h h0
  rw [e] at e'
  injection e' with e1 _ _
  refine ⟨g, 0, e1, fun i x hx => ?_⟩
  have hi := (List.getElem?_eq_some_iff.1 hx).1
  rw [Nat.zero_add, (hc i hi).1, List.getElem?_map, hx]; rfl
theorem LAt.keep {w w' : World} {v : Value} {l : List Nat} (h : LAt w v l) (hf : Fr No w w') : LAt w' v l := by
  obtain ⟨hl, A, c, e, hc⟩ := h
  refine ⟨hl, A, c, e, fun h0 => ?_⟩
  obtain ⟨g, o, e1, hx⟩ := hc h0
  refine ⟨g, o, e1, fun i x hi => ?_⟩
  have hh := hx i x hi
  rw [← hh]
  simp only [World.cell?]
  rw [hf.block g (World.block_lt_of_cell? _ _ hh) id]

set_option maxHeartbeats 1600000 in
/-- same, of two that are. -/
theorem same_true (u v : Value) (l : List Nat) (w : World) (hu : LAt w u l) (hv : LAt w v l) : Calls Try.prog 12 #[u, v] w fun e w' => e = .returned (.bool true) ∧ Fr No w w' := by
  obtain ⟨hl, A, c, rfl, hA⟩ := hu
  obtain ⟨_, C, c2, rfl, hC⟩ := hv
  have HA := Lib.hid hA
  have HC := Lib.hid hC
  obtain ⟨n, hn⟩ : ∃ n, l.length = n := ⟨_, rfl⟩
  have HN := Lib.hid hn
  rw [hn] at hl ⊢
  clear hA hC hn
  go_enter Try.func12, Try.ntmps12
  go_wp2
  go_loopw [5] (fun iv wr => ∃ k : Nat, iv = .int .i64 k ∧ k ≤ n ∧ Hid (Fr No w wr)) (fun iv _ => n - (intOf iv).toNat)
  case atStart => exact ⟨0, rfl, Nat.zero_le _, Lib.hid (Fr.refl _ _)⟩
  case round =>
    obtain ⟨k, rfl, hk, HF⟩ := hrel
    by_cases hlt : k < n
    · obtain ⟨g, o, rfl, h1⟩ := HA.out (by rw [HN.out]; omega)
      obtain ⟨g2, o2, rfl, h2⟩ := HC.out (by rw [HN.out]; omega)
      have hkl : k < l.length := by rw [HN.out]; exact hlt
      have keep : ∀ {b o : Nat} {v : Value}, w.cell? ⟨b, o, none⟩ = some v → wr.cell? ⟨b, o, none⟩ = some v := by
        intro b o v hv
        rw [← hv]
        simp only [World.cell?]
        rw [HF.out.block b (World.block_lt_of_cell? _ _ hv) id]
      have d1 : wr.cell? ⟨g, o + k, none⟩ = some (.int .i64 (l[k] : Nat)) := keep (h1 k _ (List.getElem?_eq_getElem hkl))
      have d2 : wr.cell? ⟨g2, o2 + k, none⟩ = some (.int .i64 (l[k] : Nat)) := keep (h2 k _ (List.getElem?_eq_getElem hkl))
      generalize l[k] = x at *
      clear h1 h2 keep hkl
      go_upto_region 6 with fail
      go_quiet (fail)
      go_wp2
      go_roundw
      case rel => exact ⟨k + 1, by go_num, by omega, Lib.hid (HF.out.trans ((Fr.refl No wr).drewN _) fun _ _ h => h)⟩
      case measure => simp [intOf]; omega
    · obtain rfl : k = n := by omega
      go_wp2
      go_ret
      exact ⟨rfl, HF.out⟩

section
variable {ops : Array Oper} {rest : List Oper} {o : Oper} {a : Act} {Q : Exit → Act → World → Prop} {w : World}
theorem wpList_addr (t : TypeId) (hgd : o.guard = none) (sl x : Operand) (ho : o.op = .call { callee := .builtin .append, args := #[sl, x], argTypes := #[t, t] })
    (v v' xv : Value) (w1 : World) (hs : a.eval sl = v) (hx : a.eval x = xv) (hr : (Builtin.append_ #[t, t] o.type #[v, xv]).run Try.prog w = .ok v' w1)
    (h : wpList Try.prog ops Q rest (a.put o.dst v') w1) : wpList Try.prog ops Q (o :: rest) a w := by
  refine wpList_plain hgd fun K hK => ?_
  unfold Oper.wp execOp
  simp only [ho, resolve, invoke, builtin, Sem.run_bind, Sem.run_pure, Result.andThen_ok, List.map_toArray, List.map_cons, List.map_nil, hs, hx, hr]
  exact hK _ _ h
end

/-- append(v, u...), v a row of one's own. -/
theorem app_ints {w : World} {base b n : Nat} {v u : Value} {xs : List Value} {l : List Nat} (ho : w.ownsRow base 3 1 v n xs) (hb : base ≤ w.heap.size) (hu : w.ownsRow b 3 1 u l.length (l.map encN)) (hlim : n + l.length ≤ 1000000) (ty : TypeId) :
    ∃ v' w', (Builtin.append_ #[35, 35] ty #[v, u]).run Try.prog w = .ok v' w' ∧ w'.ownsRow base 3 1 v' (n + l.length) (xs ++ l.map encN) ∧ w.grownBy w' v.ownBlock ∧ (v'.ownBlock = v.ownBlock ∨ v'.ownBlock = some w.heap.size) := by
  obtain ⟨i0, hi0, hz0, hz1, hz2⟩ := info_parts info3
  rcases hu.2 with ⟨rfl, h0⟩ | ⟨g, cap, cur, rfl, _⟩
  · have hl : l = [] := List.length_eq_zero_iff.1 h0
    subst hl
    have hrun := run_append_owned_none (P := Try.prog) (w := w) base 35 ty 3 i0 1 Try.underlying35 hi0 v n xs ho
    exact ⟨v, w, hrun, by simpa using ho, World.grownBy.refl w _, .inl rfl⟩
  · obtain ⟨v', w', h1, h2, h3, _, h5⟩ := run_append_own_at (P := Try.prog) w base 35 ty 3 i0 (.int .i64 0) 1 8 Try.underlying35 hi0 hz0 hz1 hz2 rfl (by omega) v n xs ho ⟨g, 0, none⟩ l.length cap (l.map encN) (by simp) (fun j x hj => by
      have hjl : j < l.length := by have := (List.getElem?_eq_some_iff.1 hj).1; simpa using this
      rw [Addr.add_lit, Nat.zero_add]
      exact (hu.cellAt j (by omega)).trans hj) enc_one (by unfold maxLen; omega) (by omega) hb
    exact ⟨v', w', h1, h2, h3, h5⟩

/-- v[:k]. -/
theorem head_ints {w : World} {b : Nat} {v : Value} {l : List Nat} (h : w.ownsRow b 3 1 v l.length (l.map encN)) (hl : l.length ≤ 1000000) {k : Nat} (hk : k ≤ l.length) :
    ∃ u, (∀ wx, (Instr.slice 35 v none (some (.int .i64 k)) none).run Try.prog wx = .ok u wx) ∧ LAt w u (l.take k) := by
  obtain ⟨i0, hi0, hz0, hz1, hz2⟩ := info_parts info3
  have hel : Try.prog.underlying 35 = some (.slice (Try.prog.elem 35)) := by kernel_rfl
  have hsz : ∀ wx, (sizeOf (Try.prog.elem 35)).run Try.prog wx = .ok 1 wx := by
    intro wx
    have e : Try.prog.elem 35 = 3 := by kernel_rfl
    rw [e]
    simp [sizeOf, typeInfo, hi0, hz1]
  have e1 : ((k : Int)).toNat = k := by omega
  have htl : (l.take k).length = k := by rw [List.length_take]; omega
  rcases h.2 with ⟨rfl, h0⟩ | ⟨g, cap, cur, rfl, _, hh, hnc, hcm, hs, ht⟩
  · refine ⟨.slice none 0 0, fun wx => ?_, ?_⟩
    · have hr := run_slice_h (P := Try.prog) wx 35 none 0 0 hel .i64 (k : Int) (by omega) (by omega)
      rw [hsz, e1] at hr
      rw [hr]
      obtain rfl : k = 0 := by omega
      simp [sliced, Result.andThen]
    · obtain rfl : k = 0 := by omega
      exact ⟨by simp, none, 0, by simp, fun h => absurd h (by simp)⟩
  · refine ⟨.slice (some ⟨g, 0, none⟩) k cap, fun wx => ?_, by omega, some ⟨g, 0, none⟩, cap, by rw [htl], fun _ => ⟨g, 0, rfl, fun i x hx => ?_⟩⟩
    · have hr := run_slice_h (P := Try.prog) wx 35 (some ⟨g, 0, none⟩) l.length cap hel .i64 (k : Int) (by omega) (by omega)
      rw [hsz, e1] at hr
      rw [hr]
      by_cases e : cap = 0
      · simp [sliced, e, Result.andThen]
      · simp [sliced, Addr.add, Result.andThen]
    · have hi := (List.getElem?_eq_some_iff.1 hx).1
      rw [htl] at hi
      rw [List.getElem?_take, if_pos hi] at hx
      rw [Nat.zero_add, h.cellAt i (by omega), List.getElem?_map, hx]; rfl

/-! ### texts that came in -/
/-- v reads as the texts l; they lie below B. -/
def TAt (B : Nat) (w : World) (v : Value) (l : List Tx) : Prop :=
  l.length ≤ 9223372036854775807 ∧ (∀ t ∈ l, t.length ≤ maxLen) ∧ ∃ A c, v = .slice A l.length c ∧ (0 < l.length → ∃ g o, A = some ⟨g, o, none⟩ ∧ g < B ∧ ∀ i t, l[i]? = some t → w.cell? ⟨g, o + i, none⟩ = some (encT t))
theorem TAt.below {B : Nat} {w w' : World} {v : Value} {l : List Tx} (h : TAt B w v l) (hb : Below B w w') : TAt B w' v l := by
  obtain ⟨h0, h1, A, c, e, hc⟩ := h
  refine ⟨h0, h1, A, c, e, fun hl => ?_⟩
  obtain ⟨g, o, e1, hg, hx⟩ := hc hl
  refine ⟨g, o, e1, hg, fun i t hi => ?_⟩
  rw [← hx i t hi]
  simp only [World.cell?]
  rw [hb.block g hg]
theorem ord_exists {L : List Tx} (hn : L.Nodup) : ∃ T, Ord L T := by
  obtain ⟨l, hl⟩ := fins (n := L.length) (List.range L.length) (fun x hx => by simpa using hx)
  exact ⟨_, sorted_fins hn (List.Perm.refl _) hl⟩
theorem row_keep {w w' : World} {X : Nat → Prop} {b n s : Nat} {e : TypeId} {v : Value} {xs : List Value} (h : w.ownsRow b e s v n xs) (hX : ∀ k, v.ownBlock = some k → X k) (hf : Fr (NX X) w w') : w'.ownsRow b e s v n xs :=
  own_of h fun k hk => hf.block k (h.lt k hk).2 fun hn => hn (hX k hk)
end Go.Proofs.Ytlglfcadoofmpaa
