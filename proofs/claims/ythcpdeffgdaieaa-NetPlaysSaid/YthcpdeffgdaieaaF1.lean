/- One call of both nets: the same answer. -/
import Derived.Test.YthcpdeffgdaieaaD9
namespace Go.Proofs.Ythcpdeffgdaieaa
open Go.RowKit Go.Maps
set_option linter.unusedVariables false

theorem tmod7 (x : Int) : (x.tmod 7 = 0) ∨ (x.tmod 7 = 1 ∨ x.tmod 7 = -6) ∨ (x.tmod 7 = 2 ∨ x.tmod 7 = -5) ∨ (x.tmod 7 = 3 ∨ x.tmod 7 = -4) ∨ (x.tmod 7 = 4 ∨ x.tmod 7 = -3) ∨ (x.tmod 7 = 5 ∨ x.tmod 7 = -2) ∨ (x.tmod 7 = 6 ∨ x.tmod 7 = -1) := by
  have h1 := Int.tmod_lt_of_pos x (show (0 : Int) < 7 by omega)
  have h2 : -7 < x.tmod 7 := by
    have := Int.lt_tmod_of_pos x (show (0 : Int) < 7 by omega)
    omega
  omega

def opV (o : OpV) : Value := .agg #[.int .i64 o.kind, .int .i64 o.conn, .int .i64 o.side, .int .i64 o.many, .string ⟨o.data.toArray⟩]
def DoesOk (w : World) (X : Nat → Prop) (d r : Nat) (S : NS) (o : OpV) : Prop :=
  Calls Try.prog 9 #[.pointer (some ⟨d, 0, none⟩), .pointer (some ⟨r, 0, none⟩), .agg #[.int .i64 o.kind, .int .i64 o.conn, .int .i64 o.side, .int .i64 o.many, .string ⟨o.data.toArray⟩]] w fun e w' => e = .returned (.bool true) ∧ ∃ S', NN w' X d r S' S' ∧ RW S' ∧ S'.last ≤ S.last + 1 ∧ Fr (Out X) w w'

/-- The law's own, and the call's copy. -/
def XO (X : Nat → Prop) (b k : Nat) : Prop := X k ∨ k = b
theorem out_less {w w' : World} {X : Nat → Prop} {b : Nat} (h : Fr (Out (XO X b)) w w') : Fr (Out X) w w' := h.mono fun k _ hk hx => hk (.inl hx)
theorem does_end {w w1 w2 : World} {X : Nat → Prop} {d r : Nat} {S S' : NS} {o : Obj} (h : NN w2 (XO X w.heap.size) d r S' S') (hW : RW S' ∧ S'.last ≤ S.last + 1) (f1 : Fr (Out (XO X w.heap.size)) (w.alloc o) w1) (f2 : Fr (Out (XO X w.heap.size)) w1 w2) :
    ∃ S', NN w2 X d r S' S' ∧ RW S' ∧ S'.last ≤ S.last + 1 ∧ Fr (Out X) w w2 :=
  ⟨S', h.less fun k hk => .inl hk, hW.1, hW.2, ((Fr.refl _ w).alloc o).trans (out_less (f1.trans f2 fun _ _ hk => hk)) fun _ _ hk => hk⟩
theorem copy_cell {w w1 : World} {X : Nat → Prop} {o : OpV} (f1 : Fr (Out (XO X w.heap.size)) (w.alloc (.cells #[.int .i64 o.kind, .int .i64 o.conn, .int .i64 o.side, .int .i64 o.many, .string ⟨o.data.toArray⟩] 32)) w1) :
    Blk w1 w.heap.size 32 o.cells :=
  (Blk.new w 32 o.cells).of (f1.block _ (by simp) fun hk => hk (.inr rfl))


set_option maxRecDepth 100000 in
set_option maxHeartbeats 2000000 in
theorem does_open (w : World) (X : Nat → Prop) (d r : Nat) (S : NS) (o : OpV) (h : NN w X d r S S) (hW : RW S) (ho : o.Ok) (hl : S.last < 4611686018427387904) (hk : o.kind.tmod 7 = 0) : DoesOk w X d r S o := by
  have h0 : NN (w.alloc (.cells #[.int .i64 o.kind, .int .i64 o.conn, .int .i64 o.side, .int .i64 o.many, .string ⟨o.data.toArray⟩] 32)) (XO X w.heap.size) d r S S := h.alloc _
  have hq := l_open h0 hW.wf 
  have hs := fun (w' : World) (S1 : NS) (hn : NN w' (XO X w.heap.size) d r S1 S) => r_open hn hW 
  have hw1 := hW.opened hl
  obtain ⟨⟨⟨a, e1⟩, S1⟩, hp⟩ : ∃ p, S.opened = p := ⟨_, rfl⟩
  rw [hp] at hq hw1
  simp only [hp] at hs
  simp only at hq hw1
  have HW := Lib.hid hw1
  clear hp hw1
  have HQ := Lib.hid hq
  have HS := Lib.hid hs
  clear h h0 hq hs hW ho
  clear hl
  unfold DoesOk
  go_enter Try.func9, Try.ntmps9
  go_wp2_with fail
  refine HQ.out.mono ?_
  rintro e w1 ⟨rfl, h1, f1⟩
  have hb1 := copy_cell f1
  have c0 : w1.cell? ⟨w.heap.size, 0, none⟩ = some (.int .i64 o.kind) := hb1.cell 0
  have c1 : w1.cell? ⟨w.heap.size, 1, none⟩ = some (.int .i64 o.conn) := hb1.cell 1
  have c2 : w1.cell? ⟨w.heap.size, 2, none⟩ = some (.int .i64 o.side) := hb1.cell 2
  have c3 : w1.cell? ⟨w.heap.size, 3, none⟩ = some (.int .i64 o.many) := hb1.cell 3
  have c4 : w1.cell? ⟨w.heap.size, 4, none⟩ = some (.string ⟨o.data.toArray⟩) := hb1.cell 4
  have H1 := Lib.hid h1
  have F1 := Lib.hid f1
  clear h1 f1 hb1 HQ
  go_wp2_with fail
  refine (HS.out _ _ H1.out).mono ?_
  rintro e w2 ⟨rfl, h2, f2⟩
  have HE := Lib.hid (does_end (S := S) h2 HW.out F1.out f2)
  clear h2 f2 HS H1 F1 c0 c1 c2 c3 c4
  go_wp2
  go_ret
  exact ⟨rfl, HE.out⟩

set_option maxRecDepth 100000 in
set_option maxHeartbeats 2000000 in
theorem does_send (w : World) (X : Nat → Prop) (d r : Nat) (S : NS) (o : OpV) (h : NN w X d r S S) (hW : RW S) (ho : o.Ok) (hk : o.kind.tmod 7 = 1 ∨ o.kind.tmod 7 = -6) : DoesOk w X d r S o := by
  have h0 : NN (w.alloc (.cells #[.int .i64 o.kind, .int .i64 o.conn, .int .i64 o.side, .int .i64 o.many, .string ⟨o.data.toArray⟩] 32)) (XO X w.heap.size) d r S S := h.alloc _
  have hq := l_send h0 hW.wf o.conn o.side o.data (wf64 ho.conn.1 ho.conn.2) ho.data
  have hs := fun (w' : World) (S1 : NS) (hn : NN w' (XO X w.heap.size) d r S1 S) => r_send hn hW o.conn o.side o.data ho.data
  have hw1 := hW.send o.conn o.side o.data
  obtain ⟨⟨⟨a, e1⟩, S1⟩, hp⟩ : ∃ p, S.send o.conn o.side o.data = p := ⟨_, rfl⟩
  rw [hp] at hq hw1
  simp only [hp] at hs
  simp only at hq hw1
  have HW := Lib.hid hw1
  clear hp hw1
  have HQ := Lib.hid hq
  have HS := Lib.hid hs
  clear h h0 hq hs hW ho
  unfold DoesOk
  rcases hk with hk | hk
  · go_enter Try.func9, Try.ntmps9
    go_wp2_with fail
    refine HQ.out.mono ?_
    rintro e w1 ⟨rfl, h1, f1⟩
    have hb1 := copy_cell f1
    have c0 : w1.cell? ⟨w.heap.size, 0, none⟩ = some (.int .i64 o.kind) := hb1.cell 0
    have c1 : w1.cell? ⟨w.heap.size, 1, none⟩ = some (.int .i64 o.conn) := hb1.cell 1
    have c2 : w1.cell? ⟨w.heap.size, 2, none⟩ = some (.int .i64 o.side) := hb1.cell 2
    have c3 : w1.cell? ⟨w.heap.size, 3, none⟩ = some (.int .i64 o.many) := hb1.cell 3
    have c4 : w1.cell? ⟨w.heap.size, 4, none⟩ = some (.string ⟨o.data.toArray⟩) := hb1.cell 4
    have H1 := Lib.hid h1
    have F1 := Lib.hid f1
    clear h1 f1 hb1 HQ
    go_wp2_with fail
    refine (HS.out _ _ H1.out).mono ?_
    rintro e w2 ⟨rfl, h2, f2⟩
    have HE := Lib.hid (does_end (S := S) h2 HW.out F1.out f2)
    clear h2 f2 HS H1 F1 c0 c1 c2 c3 c4
    go_wp2
    go_ret
    exact ⟨rfl, HE.out⟩
  · go_enter Try.func9, Try.ntmps9
    go_wp2_with fail
    refine HQ.out.mono ?_
    rintro e w1 ⟨rfl, h1, f1⟩
    have hb1 := copy_cell f1
    have c0 : w1.cell? ⟨w.heap.size, 0, none⟩ = some (.int .i64 o.kind) := hb1.cell 0
    have c1 : w1.cell? ⟨w.heap.size, 1, none⟩ = some (.int .i64 o.conn) := hb1.cell 1
    have c2 : w1.cell? ⟨w.heap.size, 2, none⟩ = some (.int .i64 o.side) := hb1.cell 2
    have c3 : w1.cell? ⟨w.heap.size, 3, none⟩ = some (.int .i64 o.many) := hb1.cell 3
    have c4 : w1.cell? ⟨w.heap.size, 4, none⟩ = some (.string ⟨o.data.toArray⟩) := hb1.cell 4
    have H1 := Lib.hid h1
    have F1 := Lib.hid f1
    clear h1 f1 hb1 HQ
    go_wp2_with fail
    refine (HS.out _ _ H1.out).mono ?_
    rintro e w2 ⟨rfl, h2, f2⟩
    have HE := Lib.hid (does_end (S := S) h2 HW.out F1.out f2)
    clear h2 f2 HS H1 F1 c0 c1 c2 c3 c4
    go_wp2
    go_ret
    exact ⟨rfl, HE.out⟩

set_option maxRecDepth 100000 in
set_option maxHeartbeats 2000000 in
theorem does_move (w : World) (X : Nat → Prop) (d r : Nat) (S : NS) (o : OpV) (h : NN w X d r S S) (hW : RW S) (ho : o.Ok) (hk : o.kind.tmod 7 = 2 ∨ o.kind.tmod 7 = -5) : DoesOk w X d r S o := by
  have h0 : NN (w.alloc (.cells #[.int .i64 o.kind, .int .i64 o.conn, .int .i64 o.side, .int .i64 o.many, .string ⟨o.data.toArray⟩] 32)) (XO X w.heap.size) d r S S := h.alloc _
  have hq := l_move h0 hW.wf o.conn o.side o.many (wf64 ho.conn.1 ho.conn.2)
  have hs := fun (w' : World) (S1 : NS) (hn : NN w' (XO X w.heap.size) d r S1 S) => r_move hn hW o.conn o.side o.many
  have hw1 := hW.move o.conn o.side o.many
  obtain ⟨⟨⟨a, e1⟩, S1⟩, hp⟩ : ∃ p, S.move o.conn o.side o.many = p := ⟨_, rfl⟩
  rw [hp] at hq hw1
  simp only [hp] at hs
  simp only at hq hw1
  have HW := Lib.hid hw1
  clear hp hw1
  have HQ := Lib.hid hq
  have HS := Lib.hid hs
  clear h h0 hq hs hW ho
  unfold DoesOk
  rcases hk with hk | hk
  · go_enter Try.func9, Try.ntmps9
    go_wp2_with fail
    refine HQ.out.mono ?_
    rintro e w1 ⟨rfl, h1, f1⟩
    have hb1 := copy_cell f1
    have c0 : w1.cell? ⟨w.heap.size, 0, none⟩ = some (.int .i64 o.kind) := hb1.cell 0
    have c1 : w1.cell? ⟨w.heap.size, 1, none⟩ = some (.int .i64 o.conn) := hb1.cell 1
    have c2 : w1.cell? ⟨w.heap.size, 2, none⟩ = some (.int .i64 o.side) := hb1.cell 2
    have c3 : w1.cell? ⟨w.heap.size, 3, none⟩ = some (.int .i64 o.many) := hb1.cell 3
    have c4 : w1.cell? ⟨w.heap.size, 4, none⟩ = some (.string ⟨o.data.toArray⟩) := hb1.cell 4
    have H1 := Lib.hid h1
    have F1 := Lib.hid f1
    clear h1 f1 hb1 HQ
    go_wp2_with fail
    refine (HS.out _ _ H1.out).mono ?_
    rintro e w2 ⟨rfl, h2, f2⟩
    have HE := Lib.hid (does_end (S := S) h2 HW.out F1.out f2)
    clear h2 f2 HS H1 F1 c0 c1 c2 c3 c4
    go_wp2
    go_ret
    exact ⟨rfl, HE.out⟩
  · go_enter Try.func9, Try.ntmps9
    go_wp2_with fail
    refine HQ.out.mono ?_
    rintro e w1 ⟨rfl, h1, f1⟩
    have hb1 := copy_cell f1
    have c0 : w1.cell? ⟨w.heap.size, 0, none⟩ = some (.int .i64 o.kind) := hb1.cell 0
    have c1 : w1.cell? ⟨w.heap.size, 1, none⟩ = some (.int .i64 o.conn) := hb1.cell 1
    have c2 : w1.cell? ⟨w.heap.size, 2, none⟩ = some (.int .i64 o.side) := hb1.cell 2
    have c3 : w1.cell? ⟨w.heap.size, 3, none⟩ = some (.int .i64 o.many) := hb1.cell 3
    have c4 : w1.cell? ⟨w.heap.size, 4, none⟩ = some (.string ⟨o.data.toArray⟩) := hb1.cell 4
    have H1 := Lib.hid h1
    have F1 := Lib.hid f1
    clear h1 f1 hb1 HQ
    go_wp2_with fail
    refine (HS.out _ _ H1.out).mono ?_
    rintro e w2 ⟨rfl, h2, f2⟩
    have HE := Lib.hid (does_end (S := S) h2 HW.out F1.out f2)
    clear h2 f2 HS H1 F1 c0 c1 c2 c3 c4
    go_wp2
    go_ret
    exact ⟨rfl, HE.out⟩

set_option maxRecDepth 100000 in
set_option maxHeartbeats 2000000 in
theorem does_take (w : World) (X : Nat → Prop) (d r : Nat) (S : NS) (o : OpV) (h : NN w X d r S S) (hW : RW S) (ho : o.Ok) (hk : o.kind.tmod 7 = 3 ∨ o.kind.tmod 7 = -4) : DoesOk w X d r S o := by
  have h0 : NN (w.alloc (.cells #[.int .i64 o.kind, .int .i64 o.conn, .int .i64 o.side, .int .i64 o.many, .string ⟨o.data.toArray⟩] 32)) (XO X w.heap.size) d r S S := h.alloc _
  have hq := l_take h0 hW.wf o.conn o.side o.many (wf64 ho.conn.1 ho.conn.2)
  have hs := fun (w' : World) (S1 : NS) (hn : NN w' (XO X w.heap.size) d r S1 S) => r_take hn hW o.conn o.side o.many
  have hw1 := hW.take o.conn o.side o.many
  obtain ⟨⟨⟨a, e1⟩, S1⟩, hp⟩ : ∃ p, S.take o.conn o.side o.many = p := ⟨_, rfl⟩
  rw [hp] at hq hw1
  simp only [hp] at hs
  simp only at hq hw1
  have HW := Lib.hid hw1
  clear hp hw1
  have HQ := Lib.hid hq
  have HS := Lib.hid hs
  clear h h0 hq hs hW ho
  unfold DoesOk
  rcases hk with hk | hk
  · go_enter Try.func9, Try.ntmps9
    go_wp2_with fail
    refine HQ.out.mono ?_
    rintro e w1 ⟨rfl, h1, f1⟩
    have hb1 := copy_cell f1
    have c0 : w1.cell? ⟨w.heap.size, 0, none⟩ = some (.int .i64 o.kind) := hb1.cell 0
    have c1 : w1.cell? ⟨w.heap.size, 1, none⟩ = some (.int .i64 o.conn) := hb1.cell 1
    have c2 : w1.cell? ⟨w.heap.size, 2, none⟩ = some (.int .i64 o.side) := hb1.cell 2
    have c3 : w1.cell? ⟨w.heap.size, 3, none⟩ = some (.int .i64 o.many) := hb1.cell 3
    have c4 : w1.cell? ⟨w.heap.size, 4, none⟩ = some (.string ⟨o.data.toArray⟩) := hb1.cell 4
    have H1 := Lib.hid h1
    have F1 := Lib.hid f1
    clear h1 f1 hb1 HQ
    go_wp2_with fail
    refine (HS.out _ _ H1.out).mono ?_
    rintro e w2 ⟨rfl, h2, f2⟩
    have HE := Lib.hid (does_end (S := S) h2 HW.out F1.out f2)
    clear h2 f2 HS H1 F1 c0 c1 c2 c3 c4
    go_wp2
    go_ret
    exact ⟨rfl, HE.out⟩
  · go_enter Try.func9, Try.ntmps9
    go_wp2_with fail
    refine HQ.out.mono ?_
    rintro e w1 ⟨rfl, h1, f1⟩
    have hb1 := copy_cell f1
    have c0 : w1.cell? ⟨w.heap.size, 0, none⟩ = some (.int .i64 o.kind) := hb1.cell 0
    have c1 : w1.cell? ⟨w.heap.size, 1, none⟩ = some (.int .i64 o.conn) := hb1.cell 1
    have c2 : w1.cell? ⟨w.heap.size, 2, none⟩ = some (.int .i64 o.side) := hb1.cell 2
    have c3 : w1.cell? ⟨w.heap.size, 3, none⟩ = some (.int .i64 o.many) := hb1.cell 3
    have c4 : w1.cell? ⟨w.heap.size, 4, none⟩ = some (.string ⟨o.data.toArray⟩) := hb1.cell 4
    have H1 := Lib.hid h1
    have F1 := Lib.hid f1
    clear h1 f1 hb1 HQ
    go_wp2_with fail
    refine (HS.out _ _ H1.out).mono ?_
    rintro e w2 ⟨rfl, h2, f2⟩
    have HE := Lib.hid (does_end (S := S) h2 HW.out F1.out f2)
    clear h2 f2 HS H1 F1 c0 c1 c2 c3 c4
    go_wp2
    go_ret
    exact ⟨rfl, HE.out⟩

set_option maxRecDepth 100000 in
set_option maxHeartbeats 2000000 in
theorem does_shut (w : World) (X : Nat → Prop) (d r : Nat) (S : NS) (o : OpV) (h : NN w X d r S S) (hW : RW S) (ho : o.Ok) (hk : o.kind.tmod 7 = 4 ∨ o.kind.tmod 7 = -3) : DoesOk w X d r S o := by
  have h0 : NN (w.alloc (.cells #[.int .i64 o.kind, .int .i64 o.conn, .int .i64 o.side, .int .i64 o.many, .string ⟨o.data.toArray⟩] 32)) (XO X w.heap.size) d r S S := h.alloc _
  have hq := l_shut h0 hW.wf o.conn o.side (wf64 ho.conn.1 ho.conn.2)
  have hs := fun (w' : World) (S1 : NS) (hn : NN w' (XO X w.heap.size) d r S1 S) => r_shut hn hW o.conn o.side
  have hw1 := hW.shut o.conn o.side
  obtain ⟨⟨e1, S1⟩, hp⟩ : ∃ p, S.shut o.conn o.side = p := ⟨_, rfl⟩
  rw [hp] at hq hw1
  simp only [hp] at hs
  simp only at hq hw1
  have HW := Lib.hid hw1
  clear hp hw1
  have HQ := Lib.hid hq
  have HS := Lib.hid hs
  clear h h0 hq hs hW ho
  unfold DoesOk
  rcases hk with hk | hk
  · go_enter Try.func9, Try.ntmps9
    go_wp2_with fail
    refine HQ.out.mono ?_
    rintro e w1 ⟨rfl, h1, f1⟩
    have hb1 := copy_cell f1
    have c0 : w1.cell? ⟨w.heap.size, 0, none⟩ = some (.int .i64 o.kind) := hb1.cell 0
    have c1 : w1.cell? ⟨w.heap.size, 1, none⟩ = some (.int .i64 o.conn) := hb1.cell 1
    have c2 : w1.cell? ⟨w.heap.size, 2, none⟩ = some (.int .i64 o.side) := hb1.cell 2
    have c3 : w1.cell? ⟨w.heap.size, 3, none⟩ = some (.int .i64 o.many) := hb1.cell 3
    have c4 : w1.cell? ⟨w.heap.size, 4, none⟩ = some (.string ⟨o.data.toArray⟩) := hb1.cell 4
    have H1 := Lib.hid h1
    have F1 := Lib.hid f1
    clear h1 f1 hb1 HQ
    go_wp2_with fail
    refine (HS.out _ _ H1.out).mono ?_
    rintro e w2 ⟨rfl, h2, f2⟩
    have HE := Lib.hid (does_end (S := S) h2 HW.out F1.out f2)
    clear h2 f2 HS H1 F1 c0 c1 c2 c3 c4
    go_wp2
    go_ret
    exact ⟨rfl, HE.out⟩
  · go_enter Try.func9, Try.ntmps9
    go_wp2_with fail
    refine HQ.out.mono ?_
    rintro e w1 ⟨rfl, h1, f1⟩
    have hb1 := copy_cell f1
    have c0 : w1.cell? ⟨w.heap.size, 0, none⟩ = some (.int .i64 o.kind) := hb1.cell 0
    have c1 : w1.cell? ⟨w.heap.size, 1, none⟩ = some (.int .i64 o.conn) := hb1.cell 1
    have c2 : w1.cell? ⟨w.heap.size, 2, none⟩ = some (.int .i64 o.side) := hb1.cell 2
    have c3 : w1.cell? ⟨w.heap.size, 3, none⟩ = some (.int .i64 o.many) := hb1.cell 3
    have c4 : w1.cell? ⟨w.heap.size, 4, none⟩ = some (.string ⟨o.data.toArray⟩) := hb1.cell 4
    have H1 := Lib.hid h1
    have F1 := Lib.hid f1
    clear h1 f1 hb1 HQ
    go_wp2_with fail
    refine (HS.out _ _ H1.out).mono ?_
    rintro e w2 ⟨rfl, h2, f2⟩
    have HE := Lib.hid (does_end (S := S) h2 HW.out F1.out f2)
    clear h2 f2 HS H1 F1 c0 c1 c2 c3 c4
    go_wp2
    go_ret
    exact ⟨rfl, HE.out⟩

set_option maxRecDepth 100000 in
set_option maxHeartbeats 2000000 in
theorem does_cut (w : World) (X : Nat → Prop) (d r : Nat) (S : NS) (o : OpV) (h : NN w X d r S S) (hW : RW S) (ho : o.Ok) (hk : o.kind.tmod 7 = 5 ∨ o.kind.tmod 7 = -2) : DoesOk w X d r S o := by
  have h0 : NN (w.alloc (.cells #[.int .i64 o.kind, .int .i64 o.conn, .int .i64 o.side, .int .i64 o.many, .string ⟨o.data.toArray⟩] 32)) (XO X w.heap.size) d r S S := h.alloc _
  have hq := l_cut h0 hW.wf o.conn (wf64 ho.conn.1 ho.conn.2)
  have hs := fun (w' : World) (S1 : NS) (hn : NN w' (XO X w.heap.size) d r S1 S) => r_cut hn hW o.conn
  have hw1 := hW.cutC o.conn
  obtain ⟨⟨e1, S1⟩, hp⟩ : ∃ p, S.cutC o.conn = p := ⟨_, rfl⟩
  rw [hp] at hq hw1
  simp only [hp] at hs
  simp only at hq hw1
  have HW := Lib.hid hw1
  clear hp hw1
  have HQ := Lib.hid hq
  have HS := Lib.hid hs
  clear h h0 hq hs hW ho
  unfold DoesOk
  rcases hk with hk | hk
  · go_enter Try.func9, Try.ntmps9
    go_wp2_with fail
    refine HQ.out.mono ?_
    rintro e w1 ⟨rfl, h1, f1⟩
    have hb1 := copy_cell f1
    have c0 : w1.cell? ⟨w.heap.size, 0, none⟩ = some (.int .i64 o.kind) := hb1.cell 0
    have c1 : w1.cell? ⟨w.heap.size, 1, none⟩ = some (.int .i64 o.conn) := hb1.cell 1
    have c2 : w1.cell? ⟨w.heap.size, 2, none⟩ = some (.int .i64 o.side) := hb1.cell 2
    have c3 : w1.cell? ⟨w.heap.size, 3, none⟩ = some (.int .i64 o.many) := hb1.cell 3
    have c4 : w1.cell? ⟨w.heap.size, 4, none⟩ = some (.string ⟨o.data.toArray⟩) := hb1.cell 4
    have H1 := Lib.hid h1
    have F1 := Lib.hid f1
    clear h1 f1 hb1 HQ
    go_wp2_with fail
    refine (HS.out _ _ H1.out).mono ?_
    rintro e w2 ⟨rfl, h2, f2⟩
    have HE := Lib.hid (does_end (S := S) h2 HW.out F1.out f2)
    clear h2 f2 HS H1 F1 c0 c1 c2 c3 c4
    go_wp2
    go_ret
    exact ⟨rfl, HE.out⟩
  · go_enter Try.func9, Try.ntmps9
    go_wp2_with fail
    refine HQ.out.mono ?_
    rintro e w1 ⟨rfl, h1, f1⟩
    have hb1 := copy_cell f1
    have c0 : w1.cell? ⟨w.heap.size, 0, none⟩ = some (.int .i64 o.kind) := hb1.cell 0
    have c1 : w1.cell? ⟨w.heap.size, 1, none⟩ = some (.int .i64 o.conn) := hb1.cell 1
    have c2 : w1.cell? ⟨w.heap.size, 2, none⟩ = some (.int .i64 o.side) := hb1.cell 2
    have c3 : w1.cell? ⟨w.heap.size, 3, none⟩ = some (.int .i64 o.many) := hb1.cell 3
    have c4 : w1.cell? ⟨w.heap.size, 4, none⟩ = some (.string ⟨o.data.toArray⟩) := hb1.cell 4
    have H1 := Lib.hid h1
    have F1 := Lib.hid f1
    clear h1 f1 hb1 HQ
    go_wp2_with fail
    refine (HS.out _ _ H1.out).mono ?_
    rintro e w2 ⟨rfl, h2, f2⟩
    have HE := Lib.hid (does_end (S := S) h2 HW.out F1.out f2)
    clear h2 f2 HS H1 F1 c0 c1 c2 c3 c4
    go_wp2
    go_ret
    exact ⟨rfl, HE.out⟩

set_option maxRecDepth 100000 in
set_option maxHeartbeats 2000000 in
theorem does_waits (w : World) (X : Nat → Prop) (d r : Nat) (S : NS) (o : OpV) (h : NN w X d r S S) (hW : RW S) (ho : o.Ok) (hk : o.kind.tmod 7 = 6 ∨ o.kind.tmod 7 = -1) : DoesOk w X d r S o := by
  have h0 : NN (w.alloc (.cells #[.int .i64 o.kind, .int .i64 o.conn, .int .i64 o.side, .int .i64 o.many, .string ⟨o.data.toArray⟩] 32)) (XO X w.heap.size) d r S S := h.alloc _
  have hq := l_waits h0 hW.wf o.conn o.side (wf64 ho.conn.1 ho.conn.2)
  have hs := fun (w' : World) (S1 : NS) (hn : NN w' (XO X w.heap.size) d r S1 S) => r_waits hn hW o.conn o.side
  obtain ⟨a, ha⟩ : ∃ a, (S.waits o.conn o.side).1 = a := ⟨_, rfl⟩
  obtain ⟨b, hb⟩ : ∃ b, (S.waits o.conn o.side).2 = b := ⟨_, rfl⟩
  rw [ha, hb] at hq
  simp only [ha, hb] at hs
  have HW := Lib.hid (show RW S ∧ S.last ≤ S.last + 1 from ⟨hW, by omega⟩)
  clear ha hb
  have HQ := Lib.hid hq
  have HS := Lib.hid hs
  clear h h0 hq hs hW ho
  unfold DoesOk
  rcases hk with hk | hk
  · go_enter Try.func9, Try.ntmps9
    go_wp2_with fail
    refine HQ.out.mono ?_
    rintro e w1 ⟨rfl, h1, f1⟩
    have hb1 := copy_cell f1
    have c0 : w1.cell? ⟨w.heap.size, 0, none⟩ = some (.int .i64 o.kind) := hb1.cell 0
    have c1 : w1.cell? ⟨w.heap.size, 1, none⟩ = some (.int .i64 o.conn) := hb1.cell 1
    have c2 : w1.cell? ⟨w.heap.size, 2, none⟩ = some (.int .i64 o.side) := hb1.cell 2
    have c3 : w1.cell? ⟨w.heap.size, 3, none⟩ = some (.int .i64 o.many) := hb1.cell 3
    have c4 : w1.cell? ⟨w.heap.size, 4, none⟩ = some (.string ⟨o.data.toArray⟩) := hb1.cell 4
    have H1 := Lib.hid h1
    have F1 := Lib.hid f1
    clear h1 f1 hb1 HQ
    go_wp2_with fail
    refine (HS.out _ _ H1.out).mono ?_
    rintro e w2 ⟨rfl, h2, f2⟩
    have HE := Lib.hid (does_end (S := S) h2 HW.out F1.out f2)
    clear h2 f2 HS H1 F1 c0 c1 c2 c3 c4
    go_wp2
    go_ret
    exact ⟨rfl, HE.out⟩
  · go_enter Try.func9, Try.ntmps9
    go_wp2_with fail
    refine HQ.out.mono ?_
    rintro e w1 ⟨rfl, h1, f1⟩
    have hb1 := copy_cell f1
    have c0 : w1.cell? ⟨w.heap.size, 0, none⟩ = some (.int .i64 o.kind) := hb1.cell 0
    have c1 : w1.cell? ⟨w.heap.size, 1, none⟩ = some (.int .i64 o.conn) := hb1.cell 1
    have c2 : w1.cell? ⟨w.heap.size, 2, none⟩ = some (.int .i64 o.side) := hb1.cell 2
    have c3 : w1.cell? ⟨w.heap.size, 3, none⟩ = some (.int .i64 o.many) := hb1.cell 3
    have c4 : w1.cell? ⟨w.heap.size, 4, none⟩ = some (.string ⟨o.data.toArray⟩) := hb1.cell 4
    have H1 := Lib.hid h1
    have F1 := Lib.hid f1
    clear h1 f1 hb1 HQ
    go_wp2_with fail
    refine (HS.out _ _ H1.out).mono ?_
    rintro e w2 ⟨rfl, h2, f2⟩
    have HE := Lib.hid (does_end (S := S) h2 HW.out F1.out f2)
    clear h2 f2 HS H1 F1 c0 c1 c2 c3 c4
    go_wp2
    go_ret
    exact ⟨rfl, HE.out⟩

theorem does_any (w : World) (X : Nat → Prop) (d r : Nat) (S : NS) (o : OpV) (h : NN w X d r S S) (hW : RW S) (ho : o.Ok) (hl : S.last < 4611686018427387904) : DoesOk w X d r S o := by
  rcases tmod7 o.kind with hk | hk | hk | hk | hk | hk | hk
  · exact does_open w X d r S o h hW ho hl hk
  · exact does_send w X d r S o h hW ho hk
  · exact does_move w X d r S o h hW ho hk
  · exact does_take w X d r S o h hW ho hk
  · exact does_shut w X d r S o h hW ho hk
  · exact does_cut w X d r S o h hW ho hk
  · exact does_waits w X d r S o h hW ho hk

end Go.Proofs.Ythcpdeffgdaieaa
