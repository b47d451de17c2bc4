/- The calls of a net, by contract: Cut, Open. -/
import Derived.Test.YthcpdeffgdaieaaA9
import Derived.Deep.RegionLaw
namespace Go.Proofs.Ythcpdeffgdaieaa
open Go.RowKit Go.Maps
set_option linter.unusedVariables false

/-! ### Cut -/
def LK.dead : LK := ⟨fun _ => ⟨[], 0, false⟩, true, fun _ => false⟩
def NS.cutC (S : NS) (conn : Int) : Int × NS :=
  match S.link conn with
  | none => (14, S)
  | some K => if K.cut then (17, S) else (0, S.setL conn LK.dead)

theorem run_linkSome2 {w : World} {b n : Nat} {D : DU} (h : w.ownsMap Try.prog 3 ptrElem b n D) {c : Int} (hw : (Lit.int .i64 c).wf = true) {g : Nat} (hc : ∀ z, D.atKey (.int .i64 c) z = .lit (.int .i64 g)) :
    (Instr.lookup 51 (.map (some b)) (.int .i64 c) true).run Try.prog w = .ok (.tuple #[.pointer (some ⟨g, 0, none⟩), .bool true]) w := by
  obtain ⟨v, ps, hr, hv⟩ := h.look_ok law3 Try.underlying51 (zero61 w) (zd := .nil) (zp := []) rfl (key3 c hw)
  rw [hc] at hv
  rw [hr, ptrElem_inv hv, has_true_of_atKey hc]
theorem run_linkNone2 {w : World} {m : Option Nat} {D : DU} (h : MapAt w Try.prog 3 ptrElem m D) {c : Int} (hw : (Lit.int .i64 c).wf = true) (hc : has D (.int .i64 c) = false) :
    (Instr.lookup 51 (.map m) (.int .i64 c) true).run Try.prog w = .ok (.tuple #[.pointer none, .bool false]) w := by
  cases m with
  | none =>
    exact Maps.look_nil (P := Try.prog) true law3 Try.underlying51 (zero61 w) (key3 c hw)
  | some b =>
    have h' : w.ownsMap Try.prog 3 ptrElem b (Maps.size D) D := h
    obtain ⟨v, ps, hr, hv⟩ := h'.look_ok law3 Try.underlying51 (zero61 w) (zd := .nil) (zp := []) rfl (key3 c hw)
    rw [atKey_of_not_has hc] at hv
    rw [hr, ptrElem_nil hv, hc]

set_option maxHeartbeats 400000 in
theorem cut_none (d : Nat) (m : Option Nat) (conn : Int) (w : World) (hc : w.cell? ⟨d, 0, none⟩ = some (.map m)) (hr : (Instr.lookup 51 (.map m) (.int .i64 conn) true).run Try.prog w = .ok (.tuple #[.pointer none, .bool false]) w) :
    Calls Try.prog 17 #[.pointer (some ⟨d, 0, none⟩), .int .i64 conn] w fun e w' => e = .returned (.int .i64 14) ∧ w = w' := by
  go_enter Try.func17, Try.ntmps17
  go_wp2
  go_ret
  exact ⟨rfl, rfl⟩
set_option maxHeartbeats 400000 in
theorem cut_twice (d g : Nat) (m : Option Nat) (conn : Int) (w : World) (hc : w.cell? ⟨d, 0, none⟩ = some (.map m)) (hr : (Instr.lookup 51 (.map m) (.int .i64 conn) true).run Try.prog w = .ok (.tuple #[.pointer (some ⟨g, 0, none⟩), .bool true]) w)
    (h6 : w.cell? ⟨g, 6, none⟩ = some (.bool true)) :
    Calls Try.prog 17 #[.pointer (some ⟨d, 0, none⟩), .int .i64 conn] w fun e w' => e = .returned (.int .i64 17) ∧ w = w' := by
  go_enter Try.func17, Try.ntmps17
  go_wp2
  go_ret
  exact ⟨rfl, rfl⟩

/-- All nine cells are written. -/
def dead9 (w : World) (g : Nat) : World :=
  ((((((((w.setCell ⟨g, 0, none⟩ (.slice none 0 0)).setCell ⟨g, 1, none⟩ (.int .i64 0)).setCell ⟨g, 2, none⟩ (.bool false)).setCell ⟨g, 3, none⟩ (.slice none 0 0)).setCell ⟨g, 4, none⟩ (.int .i64 0)).setCell ⟨g, 5, none⟩ (.bool false)).setCell ⟨g, 6, none⟩ (.bool true)).setCell ⟨g, 7, none⟩ (.bool false)).setCell ⟨g, 8, none⟩ (.bool false)
theorem dead_end {g : Nat} {vv : Bool → Value} {w : World} {K : LK} (hl : LAt w g vv K) : Turned g vv w LK.dead (dead9 w g) := by
  have st : ∀ (w1 : World) (i : Nat) (v : Value), Fr (One g) w1 (w1.setCell ⟨g, i, none⟩ v) := fun w1 i v => (Fr.refl (One g) w1).setCell (p := ⟨g, i, none⟩) (fun _ => rfl) v
  have tr : ∀ {a b c : World}, Fr (One g) a b → Fr (One g) b c → Fr (One g) a c := fun h k => h.trans k fun _ _ hj => hj
  have hf : Fr (One g) w (dead9 w g) := tr (tr (tr (tr (tr (tr (tr (tr (st _ 0 _) (st _ 1 _)) (st _ 2 _)) (st _ 3 _)) (st _ 4 _)) (st _ 5 _)) (st _ 6 _)) (st _ 7 _)) (st _ 8 _)
  have hb0 :=
    ((((((((hl.blk.set_ 0 (.slice none 0 0)).set_ 1 (.int .i64 0)).set_ 2 (.bool false)).set_ 3 (.slice none 0 0)).set_ 4 (.int .i64 0)).set_ 5 (.bool false)).set_ 6 (.bool true)).set_ 7 (.bool false)).set_ 8 (.bool false)
  have hb : Blk (dead9 w g) g 69 (LK.dead.cells fun _ => .slice none 0 0) := by
    have e : ((((((((((K.cells vv).setIfInBounds 0 (.slice none 0 0)).setIfInBounds 1 (.int .i64 0)).setIfInBounds 2 (.bool false)).setIfInBounds 3 (.slice none 0 0)).setIfInBounds 4 (.int .i64 0)).setIfInBounds 5 (.bool false)).setIfInBounds 6 (.bool true)).setIfInBounds 7 (.bool false)).setIfInBounds 8 (.bool false)) = LK.dead.cells fun _ => .slice none 0 0 := by
      simp [LK.cells, LK.dead]
    rw [e] at hb0
    exact hb0
  exact ⟨fun _ => .slice none 0 0, ⟨hb, fun s => RowB.nil _, fun k hk => by cases hk⟩, hf.mono fun k _ hk => .inl hk, fun t k hk => by cases hk⟩

set_option maxRecDepth 100000 in
set_option maxHeartbeats 1000000 in
theorem cut_ok (d g : Nat) (m : Option Nat) (conn : Int) (vv : Bool → Value) (K : LK) (w : World) (hl : LAt w g vv K) (h0 : K.cut = false) (hc : w.cell? ⟨d, 0, none⟩ = some (.map m)) (hr : (Instr.lookup 51 (.map m) (.int .i64 conn) true).run Try.prog w = .ok (.tuple #[.pointer (some ⟨g, 0, none⟩), .bool true]) w) :
    Calls Try.prog 17 #[.pointer (some ⟨d, 0, none⟩), .int .i64 conn] w fun e w' => e = .returned (.int .i64 0) ∧ Turned g vv w LK.dead w' := by
  have h6 : w.cell? ⟨g, 6, none⟩ = some (.bool false) := by rw [hl.blk.cell 6, ← h0]; rfl
  have c0 : w.cell? ⟨g, 0, none⟩ = some (vv false) := hl.blk.cell 0
  have c1 : w.cell? ⟨g, 1, none⟩ = some (.int .i64 (K.way false).arr) := hl.blk.cell 1
  have c2 : w.cell? ⟨g, 2, none⟩ = some (.bool (K.way false).shut) := hl.blk.cell 2
  have c3 : w.cell? ⟨g, 3, none⟩ = some (vv true) := hl.blk.cell 3
  have c4 : w.cell? ⟨g, 4, none⟩ = some (.int .i64 (K.way true).arr) := hl.blk.cell 4
  have c5 : w.cell? ⟨g, 5, none⟩ = some (.bool (K.way true).shut) := hl.blk.cell 5
  have c7 : w.cell? ⟨g, 7, none⟩ = some (.bool (K.told false)) := hl.blk.cell 7
  have c8 : w.cell? ⟨g, 8, none⟩ = some (.bool (K.told true)) := hl.blk.cell 8
  have f0 := hl.blk.frozen 0
  have f1 := hl.blk.frozen 1
  have f2 := hl.blk.frozen 2
  have f3 := hl.blk.frozen 3
  have f4 := hl.blk.frozen 4
  have f5 := hl.blk.frozen 5
  have f6 := hl.blk.frozen 6
  have f7 := hl.blk.frozen 7
  have f8 := hl.blk.frozen 8
  have HD := Lib.hid (dead_end hl)
  clear hl h0
  go_enter Try.func17, Try.ntmps17
  go_wp2
  go_ret
  exact ⟨rfl, HD.out⟩

theorem cut_call (d : Nat) (R : Rp) (S : NS) (conn : Int) (w : World) (h : At w d R S) (hw : (Lit.int .i64 conn).wf = true) :
    Calls Try.prog 17 #[.pointer (some ⟨d, 0, none⟩), .int .i64 conn] w fun e w' => e = .returned (.int .i64 (S.cutC conn).1) ∧ Post d R S w (S.cutC conn).2 w' := by
  have c0 : w.cell? ⟨d, 0, none⟩ = some (.map R.m) := h.blk.cell 0
  cases hK : S.link conn with
  | none =>
    have e : S.cutC conn = (14, S) := by unfold NS.cutC; rw [hK]
    rw [e]
    have hf := h.fd conn
    rw [hK] at hf
    exact (cut_none d R.m conn w c0 (run_linkNone2 h.map hw hf)).mono fun e w' ⟨h1, h2⟩ => ⟨h1, h2 ▸ Post.refl h⟩
  | some K =>
    obtain ⟨b, hb⟩ := h.mapSome hK
    have hm := h.map
    rw [hb] at hm c0
    have hr := run_linkSome2 (b := b) hm hw (h.lat hK).1
    have hla := (h.lat hK).2
    cases hc : K.cut
    · have e : S.cutC conn = (0, S.setL conn LK.dead) := by unfold NS.cutC; rw [hK]; simp [hc]
      rw [e]
      exact (cut_ok d _ (some b) conn _ K w hla hc c0 hr).mono fun e w' ⟨h1, h2⟩ => ⟨h1, h2.post h hK⟩
    · have e : S.cutC conn = (17, S) := by unfold NS.cutC; rw [hK]; simp [hc]
      rw [e]
      refine (cut_twice d _ (some b) conn w c0 hr ?_).mono fun e w' ⟨h1, h2⟩ => ⟨h1, h2 ▸ Post.refl h⟩
      rw [hla.blk.cell 6, ← hc]; rfl

/-! ### Open -/
def LK.fresh : LK := ⟨fun _ => ⟨[], 0, false⟩, false, fun _ => false⟩
def NS.made (S : NS) : NS := ⟨S.last + 1, S.keys ++ [S.last + 1], upd S.link (S.last + 1) (some LK.fresh)⟩
def NS.opened (S : NS) : (Int × Int) × NS := if 8 ≤ S.keys.length then ((0, 12), S) else ((S.last + 1, 0), S.made)

/-- The row of cells that a new connection is. -/
def freshCells : Array Value := #[.slice none 0 0, .int .i64 0, .bool false, .slice none 0 0, .int .i64 0, .bool false, .bool false, .bool false, .bool false]

theorem PRopen {w w4 : World} {d : Nat} {R : Rp} {S : NS} (h : At w d R S) {n : Int} (hn : S.link n = none) {b : Nat} (hb : R.m = some b) {j : Nat}
    (ho : w4.ownsMap Try.prog 3 ptrElem b j (R.FD.put (.int .i64 n) (.lit (.int .i64 (w.heap.size : Nat))))) (ht : ((w.alloc (.cells freshCells 69)).drew).mapTurned w4 b) :
    PR d R S w { R with FD := R.FD.put (.int .i64 n) (.lit (.int .i64 (w.heap.size : Nat))), rc := upd R.rc n (w.heap.size, fun _ => .slice none 0 0) } { S with keys := S.keys ++ [n], link := upd S.link n (some LK.fresh) } w4 := by
  have hbl : b < w.heap.size := h.map.lt b hb
  have hft := mapTurned_one ht
  have hf : Fr (One b) w w4 := (((Fr.refl (One b) w).alloc _).drew).trans hft fun _ _ hj => hj
  have same : ∀ k, foot d R S k → k ≠ b → w4.heap[k]? = w.heap[k]? := fun k hk hn => hf.block k (h.lt k hk) hn
  have hl : ∀ m Q, S.link m = some Q → ∀ k, linkB R m k → k ≠ b := fun m Q hQ k hk e => (h.other hQ hk).2.1 (e ▸ hb)
  have hnew : Blk w4 w.heap.size 69 freshCells := (Blk.new w 69 freshCells).of (hft.block w.heap.size (by show w.heap.size < ((w.alloc (.cells freshCells 69)).drew).heap.size; simp) (by unfold One; omega))
  have hlt : ∀ m Q, S.link m = some Q → ∀ k, linkB R m k → k < w.heap.size := fun m Q hQ k hk => (h.lat hQ).2.lt hk
  have ob : ∀ m, m ≠ n → ∀ k, linkB { R with FD := R.FD.put (.int .i64 n) (.lit (.int .i64 (w.heap.size : Nat))), rc := upd R.rc n (w.heap.size, fun _ => .slice none 0 0) } m k ↔ linkB R m k := by
    intro m hm k
    unfold linkB
    simp only [upd_other _ _ hm]
  have nb : ∀ k, linkB { R with FD := R.FD.put (.int .i64 n) (.lit (.int .i64 (w.heap.size : Nat))), rc := upd R.rc n (w.heap.size, fun _ => .slice none 0 0) } n k → k = w.heap.size := by
    intro k hk
    unfold linkB at hk
    simp only [upd_same] at hk
    rcases hk with rfl | ⟨s, hk⟩
    · rfl
    · cases hk
  have hhas : has R.FD (.int .i64 n) = false := by
    have := h.fd n
    rw [hn] at this
    exact this
  refine ⟨{ blk := ?_, map := ?_, fd := fun m => ?_, ap := fun m1 m2 Q1 Q2 hne h1 h2 k hk1 hk2 => ?_, sz := ?_ }, hf.mono fun k _ hk => .inr (.inl (by cases hk; exact hb)), fun k hk => ?_⟩
  · exact h.blk.of (same _ (.inl rfl) fun e => h.map_ne (e ▸ hb))
  · show MapAt w4 Try.prog 3 ptrElem R.m _
    rw [hb]; exact owns_tight ho
  · show LinkAt w4 _ _ (upd S.link n (some LK.fresh) m)
    by_cases e : m = n
    · subst e
      rw [upd_same]
      refine ⟨fun z => ?_, ?_⟩
      · simp only [upd_same]; exact atKey_put_same h.map.isMap (isKeyI m) _ z
      · simp only [upd_same]; exact ⟨hnew, fun s => RowB.nil _, fun k hk => by cases hk⟩
    · rw [upd_other _ _ e]
      have hm := h.fd m
      cases hq : S.link m with
      | none =>
        rw [hq] at hm
        show has (R.FD.put _ _) _ = false
        rw [has_put_other (keyI_ne e)]; exact hm
      | some Q =>
        rw [hq] at hm
        obtain ⟨h1, h2⟩ := hm
        refine ⟨fun z => ?_, ?_⟩
        · simp only [upd_other _ _ e]
          show (R.FD.put _ _).atKey _ z = _
          rw [atKey_put_other (keyI_ne e)]; exact h1 z
        · simp only [upd_other _ _ e]
          exact h2.of fun k hk => same k (.inr (.inr ⟨m, Q, hq, hk⟩)) (hl m Q hq k hk)
  · have h1' : upd S.link n (some LK.fresh) m1 = some Q1 := h1
    have h2' : upd S.link n (some LK.fresh) m2 = some Q2 := h2
    by_cases e1 : m1 = n
    · subst e1
      have e2 : m2 ≠ m1 := Ne.symm hne
      rw [upd_other _ _ e2] at h2'
      rw [ob m2 e2] at hk2
      have := nb k hk1
      have := hlt m2 Q2 h2' k hk2
      omega
    · rw [upd_other _ _ e1] at h1'
      rw [ob m1 e1] at hk1
      by_cases e2 : m2 = n
      · subst e2
        have := nb k hk2
        have := hlt m1 Q1 h1' k hk1
        omega
      · rw [upd_other _ _ e2] at h2'
        rw [ob m2 e2] at hk2
        exact h.ap m1 m2 Q1 Q2 hne h1' h2' k hk1 hk2
  · show Maps.size (R.FD.put _ _) = (S.keys ++ [n]).length
    rw [size_put (h.map.tidy law3), hhas, h.sz]
    simp
  · rcases hk with hk | hk | ⟨m, Q, hQ, hk⟩
    · exact .inl (.inl hk)
    · exact .inl (.inr (.inl hk))
    · have hQ' : upd S.link n (some LK.fresh) m = some Q := hQ
      by_cases e : m = n
      · subst e
        exact .inr (by have := nb k hk; omega)
      · rw [upd_other _ _ e] at hQ'
        rw [ob m e] at hk
        exact .inl (.inr (.inr ⟨m, Q, hQ', hk⟩))

end Go.Proofs.Ythcpdeffgdaieaa
