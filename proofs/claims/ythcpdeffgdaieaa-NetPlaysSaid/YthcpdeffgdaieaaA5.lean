/- A way's bytes: put, taken; a connection's cells written. -/
import Derived.Test.YthcpdeffgdaieaaA4
import Derived.Outline
namespace Go.Proofs.Ythcpdeffgdaieaa
open Go.RowKit Go.Maps
set_option linter.unusedVariables false

theorem setCell_twice (w : World) (b i : Nat) (v v' : Value) : (w.setCell ⟨b, i, none⟩ v).setCell ⟨b, i, none⟩ v' = w.setCell ⟨b, i, none⟩ v' := by
  simp only [World.setCell]
  congr 1
  apply Array.ext_getElem?
  intro k
  simp only [Array.getElem?_modify]
  by_cases e : b = k
  · subst e
    simp only [if_true, Option.map_map]
    cases hk : w.heap[b]? with
    | none => rfl
    | some o =>
      cases o <;> simp [Function.comp]
  · simp [e]

def LK.setW (K : LK) (s : Bool) (W : WS) : LK := { K with way := updB K.way s W }

theorem cells_setV (K : LK) (vv : Bool → Value) (s : Bool) (v : Value) : (K.cells vv).setIfInBounds (po s) v = K.cells (updB vv s v) := by
  cases s <;> simp [LK.cells, po, updB]
theorem cells_setA (K : LK) (vv : Bool → Value) (s : Bool) (a : Nat) : (K.cells vv).setIfInBounds (po s + 1) (.int .i64 a) = (K.setW s { K.way s with arr := a }).cells vv := by
  cases s <;> simp [LK.cells, po, updB, LK.setW]
theorem cells_setS (K : LK) (vv : Bool → Value) (s : Bool) (b : Bool) : (K.cells vv).setIfInBounds (po s + 2) (.bool b) = (K.setW s { K.way s with shut := b }).cells vv := by
  cases s <;> simp [LK.cells, po, updB, LK.setW]
theorem cells_setB (K : LK) (vv : Bool → Value) (s : Bool) (l : List UInt8) : (K.setW s { K.way s with bytes := l }).cells vv = K.cells vv := by
  cases s <;> simp [LK.cells, updB, LK.setW]
def LK.tell (K : LK) (s : Bool) : LK := { K with told := updB K.told s true }
def to_ (s : Bool) : Nat := if s then 8 else 7
theorem cells_tell (K : LK) (vv : Bool → Value) (s : Bool) : (K.cells vv).setIfInBounds (to_ s) (.bool true) = (K.tell s).cells vv := by
  cases s <;> simp [LK.cells, to_, updB, LK.tell]
theorem setW_bytes_other (K : LK) (s t : Bool) (W : WS) (hW : W.bytes = (K.way s).bytes) : ((K.setW s W).way t).bytes = (K.way t).bytes := by
  unfold LK.setW updB
  by_cases e : t = s
  · subst e; simp [hW]
  · simp [e]

/-- A cell of the connection's own is written that is no row. -/
theorem LAt.cell {w : World} {g : Nat} {vv : Bool → Value} {K K' : LK} (h : LAt w g vv K) (i : Nat) (v : Value) (hc : (K.cells vv).setIfInBounds i v = K'.cells vv) (hb : ∀ s, (K'.way s).bytes = (K.way s).bytes) :
    LAt (w.setCell ⟨g, i, none⟩ v) g vv K' ∧ Fr (One g) w (w.setCell ⟨g, i, none⟩ v) := by
  have hf : Fr (One g) w (w.setCell ⟨g, i, none⟩ v) := (Fr.refl (One g) w).setCell (p := ⟨g, i, none⟩) (fun _ => rfl) v
  refine ⟨⟨?_, fun s => ?_, h.ap⟩, hf⟩
  · have := h.blk.set_ i v
    rw [hc] at this; exact this
  · rw [hb s]
    refine (h.row s).of fun k hk => hf.block k ((h.row s).lt hk) fun e => ?_
    obtain ⟨cur, hcur⟩ := (h.row s).block hk
    exact Blk.ne_ (w := w) (t := 5) hcur h.blk (by decide) e

/-- A row has turned, and its cell. -/
theorem LAt.turn {w w1 : World} {g : Nat} {vv : Bool → Value} {K : LK} (h : LAt w g vv K) (s : Bool) {v' : Value} {l' : List UInt8} (hf : Fr (fun k => (vv s).ownBlock = some k) w w1)
    (hr : RowB w1 v' l') (hv : ∀ k, v'.ownBlock = some k → (vv s).ownBlock = some k ∨ w.heap.size ≤ k) :
    LAt (w1.setCell ⟨g, po s, none⟩ v') g (updB vv s v') (K.setW s { K.way s with bytes := l' }) ∧ Fr (blkL g vv) w (w1.setCell ⟨g, po s, none⟩ v') ∧
      ∀ t k, (updB vv s v' t).ownBlock = some k → blkL g vv k ∨ w.heap.size ≤ k := by
  have ng : ∀ t k, (vv t).ownBlock = some k → k ≠ g := fun t k hk e => by
    obtain ⟨cur, hc⟩ := (h.row t).block hk
    exact Blk.ne_ (w := w) (t := 5) hc h.blk (by decide) e
  have nv : ∀ k, v'.ownBlock = some k → k ≠ g := fun k hk e => by
    rcases hv k hk with h1 | h1
    · exact ng s k h1 e
    · have := h.blk.lt; omega
  have hb1 : Blk w1 g 69 (K.cells vv) := h.blk.of (hf.block g h.blk.lt fun e => ng s g e rfl)
  have hf2 : Fr (One g) w1 (w1.setCell ⟨g, po s, none⟩ v') := (Fr.refl (One g) w1).setCell (p := ⟨g, po s, none⟩) (fun _ => rfl) v'
  have hn : ∀ t k, (updB vv s v' t).ownBlock = some k → blkL g vv k ∨ w.heap.size ≤ k := by
    intro t k hk
    by_cases e : t = s
    · subst e; rw [updB_same] at hk
      rcases hv k hk with h1 | h1
      · exact .inl (.inr ⟨t, h1⟩)
      · exact .inr h1
    · rw [updB_other _ _ e] at hk; exact .inl (.inr ⟨t, hk⟩)
  refine ⟨⟨?_, fun t => ?_, ?_⟩, ?_, hn⟩
  · have := hb1.set_ (po s) v'
    rw [cells_setV] at this
    rw [cells_setB]; exact this
  · by_cases e : t = s
    · subst e
      rw [updB_same]
      show RowB _ v' ((updB K.way t _ t).bytes)
      rw [updB_same]
      exact hr.of fun k hk => hf2.block k (hr.lt hk) (nv k hk)
    · rw [updB_other _ _ e]
      show RowB _ (vv t) ((updB K.way s _ t).bytes)
      rw [updB_other _ _ e]
      have h1 : RowB w1 (vv t) (K.way t).bytes := (h.row t).of fun k hk => hf.block k ((h.row t).lt hk) fun hs => by
        cases s <;> cases t <;> first | exact e rfl | exact h.ap k hs hk | exact h.ap k hk hs
      exact h1.of fun k hk => hf2.block k (h1.lt hk) (ng t k hk)
  · intro k hk
    have key : ∀ t k, t ≠ s → (vv t).ownBlock = some k → v'.ownBlock ≠ some k := fun t k hne ht hk => by
      rcases hv k hk with hs | hs
      · cases s <;> cases t <;> first | exact hne rfl | exact h.ap k hs ht | exact h.ap k ht hs
      · have := (h.row t).lt ht; omega
    cases s
    · have e1 : updB vv false v' false = v' := updB_same _ _ _
      have e2 : updB vv false v' true = vv true := updB_other _ _ (by decide)
      rw [e1] at hk
      rw [e2]
      exact fun ht => key true k (by decide) ht hk
    · have e1 : updB vv true v' true = v' := updB_same _ _ _
      have e2 : updB vv true v' false = vv false := updB_other _ _ (by decide)
      rw [e2] at hk
      rw [e1]
      exact key false k (by decide) hk
  · have h1 : Fr (blkL g vv) w w1 := hf.mono fun k _ hk => .inr ⟨s, hk⟩
    exact h1.trans (hf2.mono fun k _ hk => hk) fun j _ hj => .inl hj

/-- A connection has turned into K', in its own blocks and new ones. -/
def Turned (g : Nat) (vv : Bool → Value) (w : World) (K' : LK) (w' : World) : Prop :=
  ∃ vv', LAt w' g vv' K' ∧ Fr (blkL g vv) w w' ∧ ∀ t k, (vv' t).ownBlock = some k → blkL g vv k ∨ w.heap.size ≤ k
theorem Turned.mk {g : Nat} {vv vv' : Bool → Value} {w w' : World} {K' : LK} (h : LAt w' g vv' K' ∧ Fr (blkL g vv) w w' ∧ ∀ t k, (vv' t).ownBlock = some k → blkL g vv k ∨ w.heap.size ≤ k) : Turned g vv w K' w' := ⟨vv', h⟩

section
variable {ops : Array Oper} {rest : List Oper} {o : Oper} {a : Act} {Q : Exit → Act → World → Prop} {w : World}
theorem wpList_put (hgd : o.guard = none) (sl x : Operand) (ho : o.op = .call { callee := .builtin .append, args := #[sl, x], argTypes := #[62, 9] })
    (v v' : Value) (S : ByteArray) (w1 : World) (hs : a.eval sl = v) (hx : a.eval x = .string S) (hr : (Builtin.append_ #[62, 9] o.type #[v, .string S]).run Try.prog w = .ok v' w1)
    (h : wpList Try.prog ops Q rest (a.put o.dst v') w1) : wpList Try.prog ops Q (o :: rest) a w := by
  refine wpList_plain hgd fun K hK => ?_
  unfold Oper.wp execOp
  simp only [ho, resolve, invoke, builtin, Sem.run_bind, Sem.run_pure, Result.andThen_ok, List.map_toArray, List.map_cons, List.map_nil, hs, hx, hr]
  exact hK _ _ h
end

set_option maxHeartbeats 400000 in
theorem put_any (g : Nat) (vv : Bool → Value) (K : LK) (s : Bool) (data : List UInt8) (w : World) (h : LAt w g vv K) (hlen : (K.way s).bytes.length + data.length ≤ 140737488355328) :
    Calls Try.prog 30 #[.pointer (some ⟨g, po s, none⟩), .string ⟨data.toArray⟩] w fun e w' => e = .returned (.tuple #[]) ∧ Turned g vv w (K.setW s { K.way s with bytes := (K.way s).bytes ++ data }) w' := by
  have hw := h.wat s
  obtain ⟨v', w1, hr, hrow, hgr, hv⟩ := hw.row.run_put data 62 hlen
  obtain ⟨A, c, hlv⟩ := hrow.len
  rw [List.length_append] at hlv
  subst hlv
  have hf : Fr (fun k => (vv s).ownBlock = some k) w w1 := (Fr.refl _ w).grown hgr fun k hk _ => hk.symm ▸ rfl
  have HT := Lib.hid (Turned.mk (h.turn s hf hrow hv))
  have c0 := hw.c0
  have hb1 : Blk w1 g 69 (K.cells vv) := h.blk.of (hf.block g h.blk.lt fun e => by
    obtain ⟨cur, hc⟩ := (h.row s).block e
    exact Blk.ne_ (w := w) (t := 5) hc h.blk (by decide) rfl)
  have f1 := hb1.frozen (po s)
  have d1 : w1.cell? ⟨g, po s, none⟩ = some (vv s) := by rw [hb1.cell]; cases s <;> rfl
  clear hf hgr hrow hv hb1 hw h hlen
  go_enter Try.func30, Try.ntmps30
  go_wp2_with (at_builtin; refine wpList_put rfl _ _ rfl _ _ _ _ rfl rfl hr ?_; clear hr c0)
  go_end0
  exact ⟨rfl, HT.out⟩

set_option maxHeartbeats 800000 in
theorem take_any (g : Nat) (vv : Bool → Value) (K : LK) (s : Bool) (k : Nat) (w : World) (h : LAt w g vv K) (hk : k ≤ (K.way s).bytes.length) :
    Calls Try.prog 35 #[.pointer (some ⟨g, po s, none⟩), .int .i64 k] w fun e w' => e = .returned (.string ⟨((K.way s).bytes.take k).toArray⟩) ∧ Turned g vv w (K.setW s { K.way s with bytes := (K.way s).bytes.drop k }) w' := by
  have hw := h.wat s
  obtain ⟨va, hr1, hr2⟩ := hw.row.run_text k hk
  obtain ⟨A, c, hr3, hr4⟩ := hw.row.run_rest k hk
  have c0 := hw.c0
  have f0 := h.blk.frozen (po s)
  by_cases hlt : k < (K.way s).bytes.length
  · obtain ⟨h5, h6⟩ := hr4 hlt
    have HT := Lib.hid (Turned.mk (h.turn s (v' := .slice A ((K.way s).bytes.length - k) c) (Fr.refl _ w) h5 fun j hj => .inl (by rw [← h6]; exact hj)))
    have hne : (((K.way s).bytes.length - k : Nat) == (0 : Nat)) = false := by simp; omega
    have hn2 : ((((K.way s).bytes.length - k : Nat) : Int) == 0) = false := by simp; omega
    clear hr4 h5 h6 hw h hk hlt
    go_enter Try.func35, Try.ntmps35
    go_wp2
    go_ret
    exact ⟨rfl, HT.out⟩
  · have HT := Lib.hid (Turned.mk (h.turn s (v' := .slice none 0 0) (Fr.refl _ w) (RowB.nil w) fun j hj => by simp [Value.ownBlock] at hj))
    have e0 : (K.way s).bytes.drop k = [] := List.drop_eq_nil_of_le (by omega)
    rw [e0]
    have hz : (K.way s).bytes.length - k = 0 := by omega
    rw [hz] at hr3
    have E2 := setCell_twice w g (po s) (.slice A 0 c) (.slice none 0 0)
    have HE := Lib.hid E2
    clear hr4 hw h hk hlt e0 hz E2
    go_enter Try.func35, Try.ntmps35
    go_wp2
    go_ret
    rw [HE.out]
    exact ⟨rfl, HT.out⟩

end Go.Proofs.Ythcpdeffgdaieaa
