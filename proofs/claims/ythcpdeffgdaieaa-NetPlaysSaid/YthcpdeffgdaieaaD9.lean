/- Two nets of one state: the landed one and the document's own; one call of both. -/
import Derived.Test.YthcpdeffgdaieaaD8
namespace Go.Proofs.Ythcpdeffgdaieaa
open Go.RowKit Go.Maps
set_option linter.unusedVariables false

/-! ### what no call makes more of -/
structure Kept (S S' : NS) : Prop where
  few : S'.keys.length ≤ S.keys.length
  last : S'.last = S.last
theorem Kept.refl (S : NS) : Kept S S := ⟨Nat.le_refl _, rfl⟩
theorem Kept.trans {S T U : NS} (h : Kept S T) (k : Kept T U) : Kept S U := ⟨Nat.le_trans k.few h.few, k.last.trans h.last⟩
theorem kept_setL (S : NS) (n : Int) (K : LK) : Kept S (S.setL n K) := ⟨Nat.le_refl _, rfl⟩
theorem kept_drop (S : NS) (n : Int) : Kept S (S.drop n) := ⟨List.length_filter_le _ _, rfl⟩
theorem kept_tell (S : NS) (n : Int) (K : LK) (s : Bool) : Kept S (S.tell n K s) := by
  unfold NS.tell; split
  · exact kept_drop S n
  · exact kept_setL S n _
theorem kept_release (S : NS) (n : Int) (K : LK) : Kept S (S.release n K) := by
  unfold NS.release; split
  · exact kept_drop S n
  · exact Kept.refl S
theorem kept_send (S : NS) (conn side : Int) (data : List UInt8) : Kept S (S.send conn side data).2 := by
  unfold NS.send
  cases hf : S.find conn side with
  | none => exact Kept.refl S
  | some p =>
    simp only
    split
    · exact kept_tell S _ _ _
    · split
      · exact Kept.refl S
      · exact kept_setL S _ _
theorem kept_move (S : NS) (conn side many : Int) : Kept S (S.move conn side many).2 := by
  unfold NS.move
  cases hf : S.find conn side with
  | none => exact Kept.refl S
  | some p =>
    simp only
    split
    · exact kept_tell S _ _ _
    · exact kept_setL S _ _
theorem kept_take (S : NS) (conn side many : Int) : Kept S (S.take conn side many).2 := by
  unfold NS.take
  cases hf : S.find conn side with
  | none => exact Kept.refl S
  | some p =>
    simp only
    split
    · exact kept_tell S _ _ _
    · split
      · exact Kept.refl S
      · split
        · exact Kept.refl S
        · exact (kept_setL S _ _).trans (kept_release _ _ _)
theorem kept_shut (S : NS) (conn side : Int) : Kept S (S.shut conn side).2 := by
  unfold NS.shut
  cases hf : S.find conn side with
  | none => exact Kept.refl S
  | some p =>
    simp only
    split
    · exact kept_tell S _ _ _
    · split
      · exact Kept.refl S
      · exact (kept_setL S _ _).trans (kept_release _ _ _)
theorem kept_cutC (S : NS) (conn : Int) : Kept S (S.cutC conn).2 := by
  unfold NS.cutC
  cases hK : S.link conn with
  | none => exact Kept.refl S
  | some K =>
    simp only
    split
    · exact Kept.refl S
    · exact kept_setL S _ _
section
variable {S : NS}
theorem RW.kept {S' : NS} (h : RW S) (hw : WF S') (hl : S'.Live) (hk : Kept S S') : RW S' ∧ S'.last ≤ S.last + 1 := ⟨⟨hw, hl, Nat.le_trans hk.few h.few⟩, by rw [hk.last]; omega⟩
theorem RW.send (h : RW S) (conn side : Int) (data : List UInt8) : RW (S.send conn side data).2 ∧ (S.send conn side data).2.last ≤ S.last + 1 := h.kept (h.wf.send conn side data) (Live.send h.live conn side data) (kept_send S conn side data)
theorem RW.move (h : RW S) (conn side many : Int) : RW (S.move conn side many).2 ∧ (S.move conn side many).2.last ≤ S.last + 1 := h.kept (h.wf.move conn side many) (Live.move h.live conn side many) (kept_move S conn side many)
theorem RW.take (h : RW S) (conn side many : Int) : RW (S.take conn side many).2 ∧ (S.take conn side many).2.last ≤ S.last + 1 := h.kept (h.wf.take conn side many) (Live.take h.live conn side many) (kept_take S conn side many)
theorem RW.shut (h : RW S) (conn side : Int) : RW (S.shut conn side).2 ∧ (S.shut conn side).2.last ≤ S.last + 1 := h.kept (h.wf.shut conn side) (Live.shut h.live conn side) (kept_shut S conn side)
theorem RW.cutC (h : RW S) (conn : Int) : RW (S.cutC conn).2 ∧ (S.cutC conn).2.last ≤ S.last + 1 := h.kept (h.wf.cutC conn) (Live.cutC h.live conn) (kept_cutC S conn)
theorem RW.opened (h : RW S) (hl : S.last < 4611686018427387904) : RW S.opened.2 ∧ S.opened.2.last ≤ S.last + 1 := by
  refine ⟨⟨h.wf.opened hl, Live.opened h.live, ?_⟩, ?_⟩
  · unfold NS.opened; split
    · exact h.few
    · show (S.keys ++ [S.last + 1]).length ≤ 8; simp; omega
  · unfold NS.opened; split
    · show S.last ≤ _; omega
    · show S.last + 1 ≤ _; omega
end

/-! ### two nets, apart -/
structure NN (w : World) (X : Nat → Prop) (d r : Nat) (S T : NS) : Prop where
  ex : ∃ R Q, At w d R S ∧ RAt w r Q T ∧ (∀ k, foot d R S k → ¬ X k) ∧ (∀ k, footR r Q T k → ¬ X k) ∧ ∀ k, foot d R S k → ¬ footR r Q T k
  there : ∀ k, X k → k < w.heap.size

section
variable {w w' : World} {X : Nat → Prop} {d r : Nat} {S T S' T' : NS}
theorem NN.keep (h : NN w X d r S T) (hf : Fr No w w') : NN w' X d r S T := by
  obtain ⟨⟨R, Q, hA, hB, x1, x2, x3⟩, ht⟩ := h
  exact ⟨⟨R, Q, hA.keep hf, hB.keep hf, x1, x2, x3⟩, fun k hk => Nat.lt_of_lt_of_le (ht k hk) hf.size⟩
theorem NN.less {Y : Nat → Prop} (h : NN w X d r S T) (hY : ∀ k, Y k → X k) : NN w Y d r S T := by
  obtain ⟨⟨R, Q, hA, hB, x1, x2, x3⟩, ht⟩ := h
  exact ⟨⟨R, Q, hA, hB, fun k hk hy => x1 k hk (hY k hy), fun k hk hy => x2 k hk (hY k hy), x3⟩, fun k hk => ht k (hY k hk)⟩
theorem NN.alloc (h : NN w X d r S T) (o : Obj) : NN (w.alloc o) (fun k => X k ∨ k = w.heap.size) d r S T := by
  obtain ⟨⟨R, Q, hA, hB, x1, x2, x3⟩, ht⟩ := h
  refine ⟨⟨R, Q, hA.keep ((Fr.refl _ w).alloc o), hB.keep ((Fr.refl _ w).alloc o), fun k hk hx => ?_, fun k hk hx => ?_, x3⟩, fun k hk => ?_⟩
  · rcases hx with hx | hx
    · exact x1 k hk hx
    · have := hA.lt k hk; omega
  · rcases hx with hx | hx
    · exact x2 k hk hx
    · have := hB.lt k hk; omega
  · rcases hk with hk | hk
    · have := ht k hk; simp; omega
    · simp; omega
theorem NN.turnL {R : Rp} {Q : Rq} (hB : RAt w r Q T) (x1 : ∀ k, foot d R S k → ¬ X k) (x2 : ∀ k, footR r Q T k → ¬ X k) (x3 : ∀ k, foot d R S k → ¬ footR r Q T k) (ht : ∀ k, X k → k < w.heap.size) (hp : Post d R S w S' w') : NN w' X d r S' T ∧ Fr (Out X) w w' := by
  obtain ⟨R', h1, h2, h3⟩ := hp
  refine ⟨⟨⟨R', Q, h1, hB.fr h2 x3, fun k hk hx => ?_, x2, fun k hk hq => ?_⟩, fun k hk => Nat.lt_of_lt_of_le (ht k hk) h2.size⟩, h2.mono fun k _ hk => x1 k hk⟩
  · rcases h3 k hk with hk | hk
    · exact x1 k hk hx
    · have := ht k hx; omega
  · rcases h3 k hk with hk | hk
    · exact x3 k hk hq
    · have := hB.lt k hq; omega
theorem NN.turnR {R : Rp} {Q : Rq} (hA : At w d R S) (x1 : ∀ k, foot d R S k → ¬ X k) (x2 : ∀ k, footR r Q T k → ¬ X k) (x3 : ∀ k, foot d R S k → ¬ footR r Q T k) (ht : ∀ k, X k → k < w.heap.size) (hp : Postr r Q T w T' w') : NN w' X d r S T' ∧ Fr (Out X) w w' := by
  obtain ⟨Q', h1, h2, h3⟩ := hp
  refine ⟨⟨⟨R, Q', hA.fr h2 fun k hq hk => x3 k hk hq, h1, x1, fun k hk hx => ?_, fun k hk hq => ?_⟩, fun k hk => Nat.lt_of_lt_of_le (ht k hk) h2.size⟩, h2.mono fun k _ hk => x2 k hk⟩
  · rcases h3 k hk with hk | hk
    · exact x2 k hk hx
    · have := ht k hx; omega
  · rcases h3 k hq with hq | hq
    · exact x3 k hk hq
    · have := hA.lt k hk; omega

theorem l_open (h : NN w X d r S T) (hW : WF S)  :
    Calls Try.prog 11 #[.pointer (some ⟨d, 0, none⟩)] w fun e w' => e = .returned (.tuple #[.int .i64 S.opened.1.1, .int .i64 S.opened.1.2]) ∧ NN w' X d r S.opened.2 T ∧ Fr (Out X) w w' := by
  obtain ⟨⟨R, Q, hA, hB, x1, x2, x3⟩, ht⟩ := h
  exact (open_call d R S w hA hW).mono fun e w' ⟨h1, h2⟩ => ⟨h1, NN.turnL hB x1 x2 x3 ht h2⟩
theorem r_open (h : NN w X d r S T) (hW : RW T)  :
    Calls Try.prog 18 #[.pointer (some ⟨r, 0, none⟩)] w fun e w' => e = .returned (.tuple #[.int .i64 T.opened.1.1, .int .i64 T.opened.1.2]) ∧ NN w' X d r S T.opened.2 ∧ Fr (Out X) w w' := by
  obtain ⟨⟨R, Q, hA, hB, x1, x2, x3⟩, ht⟩ := h
  exact (open_r r Q T w hB hW).mono fun e w' ⟨h1, h2⟩ => ⟨h1, NN.turnR hA x1 x2 x3 ht h2⟩
theorem l_send (h : NN w X d r S T) (hW : WF S) (conn side : Int) (data : List UInt8) (hw : (Lit.int .i64 conn).wf = true) (hd : data.length ≤ 140737488355328) :
    Calls Try.prog 12 #[.pointer (some ⟨d, 0, none⟩), .int .i64 conn, .int .i64 side, .string ⟨data.toArray⟩] w fun e w' => e = .returned (.tuple #[.int .i64 (S.send conn side data).1.1, .int .i64 (S.send conn side data).1.2]) ∧ NN w' X d r (S.send conn side data).2 T ∧ Fr (Out X) w w' := by
  obtain ⟨⟨R, Q, hA, hB, x1, x2, x3⟩, ht⟩ := h
  exact (send_any d R S conn side data w hA hW hw (by omega)).mono fun e w' ⟨h1, h2⟩ => ⟨h1, NN.turnL hB x1 x2 x3 ht h2⟩
theorem r_send (h : NN w X d r S T) (hW : RW T) (conn side : Int) (data : List UInt8) (hd : data.length ≤ 140737488355328) :
    Calls Try.prog 19 #[.pointer (some ⟨r, 0, none⟩), .int .i64 conn, .int .i64 side, .string ⟨data.toArray⟩] w fun e w' => e = .returned (.tuple #[.int .i64 (T.send conn side data).1.1, .int .i64 (T.send conn side data).1.2]) ∧ NN w' X d r S (T.send conn side data).2 ∧ Fr (Out X) w w' := by
  obtain ⟨⟨R, Q, hA, hB, x1, x2, x3⟩, ht⟩ := h
  exact (send_r r Q T conn side data w hB hW hd).mono fun e w' ⟨h1, h2⟩ => ⟨h1, NN.turnR hA x1 x2 x3 ht h2⟩
theorem l_move (h : NN w X d r S T) (hW : WF S) (conn side many : Int) (hw : (Lit.int .i64 conn).wf = true) :
    Calls Try.prog 13 #[.pointer (some ⟨d, 0, none⟩), .int .i64 conn, .int .i64 side, .int .i64 many] w fun e w' => e = .returned (.tuple #[.int .i64 (S.move conn side many).1.1, .int .i64 (S.move conn side many).1.2]) ∧ NN w' X d r (S.move conn side many).2 T ∧ Fr (Out X) w w' := by
  obtain ⟨⟨R, Q, hA, hB, x1, x2, x3⟩, ht⟩ := h
  exact (move_any d R S conn side many w hA hW hw).mono fun e w' ⟨h1, h2⟩ => ⟨h1, NN.turnL hB x1 x2 x3 ht h2⟩
theorem r_move (h : NN w X d r S T) (hW : RW T) (conn side many : Int)  :
    Calls Try.prog 20 #[.pointer (some ⟨r, 0, none⟩), .int .i64 conn, .int .i64 side, .int .i64 many] w fun e w' => e = .returned (.tuple #[.int .i64 (T.move conn side many).1.1, .int .i64 (T.move conn side many).1.2]) ∧ NN w' X d r S (T.move conn side many).2 ∧ Fr (Out X) w w' := by
  obtain ⟨⟨R, Q, hA, hB, x1, x2, x3⟩, ht⟩ := h
  exact (move_r r Q T conn side many w hB hW).mono fun e w' ⟨h1, h2⟩ => ⟨h1, NN.turnR hA x1 x2 x3 ht h2⟩
theorem l_take (h : NN w X d r S T) (hW : WF S) (conn side many : Int) (hw : (Lit.int .i64 conn).wf = true) :
    Calls Try.prog 14 #[.pointer (some ⟨d, 0, none⟩), .int .i64 conn, .int .i64 side, .int .i64 many] w fun e w' => e = .returned (.tuple #[.string ⟨(S.take conn side many).1.1.toArray⟩, .int .i64 (S.take conn side many).1.2]) ∧ NN w' X d r (S.take conn side many).2 T ∧ Fr (Out X) w w' := by
  obtain ⟨⟨R, Q, hA, hB, x1, x2, x3⟩, ht⟩ := h
  exact (take_call d R S conn side many w hA hW hw).mono fun e w' ⟨h1, h2⟩ => ⟨h1, NN.turnL hB x1 x2 x3 ht h2⟩
theorem r_take (h : NN w X d r S T) (hW : RW T) (conn side many : Int)  :
    Calls Try.prog 21 #[.pointer (some ⟨r, 0, none⟩), .int .i64 conn, .int .i64 side, .int .i64 many] w fun e w' => e = .returned (.tuple #[.string ⟨(T.take conn side many).1.1.toArray⟩, .int .i64 (T.take conn side many).1.2]) ∧ NN w' X d r S (T.take conn side many).2 ∧ Fr (Out X) w w' := by
  obtain ⟨⟨R, Q, hA, hB, x1, x2, x3⟩, ht⟩ := h
  exact (take_r r Q T conn side many w hB hW).mono fun e w' ⟨h1, h2⟩ => ⟨h1, NN.turnR hA x1 x2 x3 ht h2⟩
theorem l_shut (h : NN w X d r S T) (hW : WF S) (conn side : Int) (hw : (Lit.int .i64 conn).wf = true) :
    Calls Try.prog 15 #[.pointer (some ⟨d, 0, none⟩), .int .i64 conn, .int .i64 side] w fun e w' => e = .returned (.int .i64 (S.shut conn side).1) ∧ NN w' X d r (S.shut conn side).2 T ∧ Fr (Out X) w w' := by
  obtain ⟨⟨R, Q, hA, hB, x1, x2, x3⟩, ht⟩ := h
  exact (shut_call d R S conn side w hA hW hw).mono fun e w' ⟨h1, h2⟩ => ⟨h1, NN.turnL hB x1 x2 x3 ht h2⟩
theorem r_shut (h : NN w X d r S T) (hW : RW T) (conn side : Int)  :
    Calls Try.prog 22 #[.pointer (some ⟨r, 0, none⟩), .int .i64 conn, .int .i64 side] w fun e w' => e = .returned (.int .i64 (T.shut conn side).1) ∧ NN w' X d r S (T.shut conn side).2 ∧ Fr (Out X) w w' := by
  obtain ⟨⟨R, Q, hA, hB, x1, x2, x3⟩, ht⟩ := h
  exact (stop_r r Q T conn side w hB hW).mono fun e w' ⟨h1, h2⟩ => ⟨h1, NN.turnR hA x1 x2 x3 ht h2⟩
theorem l_cut (h : NN w X d r S T) (hW : WF S) (conn : Int) (hw : (Lit.int .i64 conn).wf = true) :
    Calls Try.prog 17 #[.pointer (some ⟨d, 0, none⟩), .int .i64 conn] w fun e w' => e = .returned (.int .i64 (S.cutC conn).1) ∧ NN w' X d r (S.cutC conn).2 T ∧ Fr (Out X) w w' := by
  obtain ⟨⟨R, Q, hA, hB, x1, x2, x3⟩, ht⟩ := h
  exact (cut_call d R S conn w hA hw).mono fun e w' ⟨h1, h2⟩ => ⟨h1, NN.turnL hB x1 x2 x3 ht h2⟩
theorem r_cut (h : NN w X d r S T) (hW : RW T) (conn : Int)  :
    Calls Try.prog 23 #[.pointer (some ⟨r, 0, none⟩), .int .i64 conn] w fun e w' => e = .returned (.int .i64 (T.cutC conn).1) ∧ NN w' X d r S (T.cutC conn).2 ∧ Fr (Out X) w w' := by
  obtain ⟨⟨R, Q, hA, hB, x1, x2, x3⟩, ht⟩ := h
  exact (cut_r r Q T conn w hB hW).mono fun e w' ⟨h1, h2⟩ => ⟨h1, NN.turnR hA x1 x2 x3 ht h2⟩
theorem l_waits (h : NN w X d r S T) (hW : WF S) (conn side : Int) (hw : (Lit.int .i64 conn).wf = true) :
    Calls Try.prog 16 #[.pointer (some ⟨d, 0, none⟩), .int .i64 conn, .int .i64 side] w fun e w' => e = .returned (.tuple #[.int .i64 (S.waits conn side).1, .int .i64 (S.waits conn side).2]) ∧ NN w' X d r S T ∧ Fr (Out X) w w' := by
  have h' := h
  obtain ⟨⟨R, Q, hA, hB, x1, x2, x3⟩, ht⟩ := h
  exact (waits_call d R S conn side w hA hW hw).mono fun e w' ⟨h1, h2⟩ => ⟨h1, h'.keep h2, h2.any⟩
theorem r_waits (h : NN w X d r S T) (hW : RW T) (conn side : Int)  :
    Calls Try.prog 24 #[.pointer (some ⟨r, 0, none⟩), .int .i64 conn, .int .i64 side] w fun e w' => e = .returned (.tuple #[.int .i64 (T.waits conn side).1, .int .i64 (T.waits conn side).2]) ∧ NN w' X d r S T ∧ Fr (Out X) w w' := by
  have h' := h
  obtain ⟨⟨R, Q, hA, hB, x1, x2, x3⟩, ht⟩ := h
  exact (waits_r r Q T conn side w hB hW).mono fun e w' ⟨h1, h2⟩ => ⟨h1, h'.keep h2, h2.any⟩
end

end Go.Proofs.Ythcpdeffgdaieaa
