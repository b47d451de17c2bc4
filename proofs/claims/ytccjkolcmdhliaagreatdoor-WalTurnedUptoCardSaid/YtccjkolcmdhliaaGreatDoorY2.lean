/- Copy: another disk in the same state, in new memory. -/
import Derived.Test.YtccjkolcmdhliaaGreatDoorY1
import Derived.Deep.RegionHeld3
import Derived.Deep.CutBlock
import Derived.Deep.DeepCutAuto
namespace Go.Proofs.YtccjkolcmdhliaaGreatDoor
open Go.RowKit Go.Maps Go.Shelf Go.Proofs
set_option linter.unusedVariables false

def cpCells (S : AS) (n : Int) (x y : Option Nat) (v : Value) (M : Nat) : Array Value :=
  #[.int .i64 S.room, .bool S.on, .bool S.armed, .int .i64 S.left, .int .i64 n, .map x, .map y, v, .map (some M), .int .i64 S.last]
/-- Of the files those are copied that aren't left. -/
structure CL (w : World) (c M IT : Nat) (R : Rp) (S : AS) (x y : Option Nat) (v : Value) (left : Lit → Bool) (Dout : DU) (rc : Int → Nat × Value) (wr : World) : Prop where
  fr : Fr No w wr
  st : CSt S w wr (some x) (some y) (some v) none
  blk : Blk wr c 84 (cpCells S S.steps x y v M)
  cw : w.heap.size ≤ c
  mw : w.heap.size ≤ M
  xM : x ≠ some M
  yM : y ≠ some M
  itl : IT < wr.heap.size
  itx : x ≠ some IT ∧ y ≠ some IT ∧ v.ownBlock ≠ some IT ∧ c ≠ IT ∧ M ≠ IT
  keys : ∀ n, has Dout (.int .i64 n) = (has R.FD (.int .i64 n) && !left (.int .i64 n))
  fls : ∀ n r, S.file n = some r → left (.int .i64 n) = false → (∀ z, Dout.atKey (.int .i64 n) z = .lit (.int .i64 (rc n).1)) ∧ Blk wr (rc n).1 124 #[(rc n).2, .int .i64 r.firm] ∧ wr.ownsRow w.heap.size 5 1 (rc n).2 r.bytes.length (r.bytes.map byteV) ∧ w.heap.size ≤ (rc n).1 ∧ (rc n).1 ≠ IT ∧ (rc n).2.ownBlock ≠ some IT
  ap : ∀ n m r q, n ≠ m → S.file n = some r → S.file m = some q → left (.int .i64 n) = false → left (.int .i64 m) = false → (rc n).1 ≠ (rc m).1 ∧ ∀ k, (rc n).2.ownBlock = some k → (rc m).2.ownBlock ≠ some k
/-- The blocks that it speaks of. -/
def cfoot (c : Nat) (S : AS) (x y : Option Nat) (v : Value) (left : Lit → Bool) (rc : Int → Nat × Value) (k : Nat) : Prop :=
  k = c ∨ x = some k ∨ y = some k ∨ v.ownBlock = some k ∨ ∃ n r, S.file n = some r ∧ left (.int .i64 n) = false ∧ (k = (rc n).1 ∨ (rc n).2.ownBlock = some k)
theorem CSt.of {S : AS} {w wx wy : World} {x y : Option Nat} {v : Value} (h : CSt S w wx (some x) (some y) (some v) none) (hf : Fr No w wy) (hk : ∀ k, (x = some k ∨ y = some k ∨ v.ownBlock = some k) → wy.heap[k]? = wx.heap[k]?) : CSt S w wy (some x) (some y) (some v) none :=
  ⟨hf, fun z e => ⟨(h.nm z e).1.of fun k hk' => hk k (.inl (by cases e; exact hk')), (h.nm z e).2⟩, fun z e => ⟨(h.fm z e).1.of fun k hk' => hk k (.inr (.inl (by cases e; exact hk'))), (h.fm z e).2⟩,
    fun u e => own_of (h.lv u e) fun k hk' => hk k (.inr (.inr (by cases e; exact hk'))), (fun _ e => by cases e), h.ab, (fun _ _ e => by cases e), (fun _ _ e => by cases e)⟩
theorem CL.of {w wr wy : World} {c M IT : Nat} {R : Rp} {S : AS} {x y : Option Nat} {v : Value} {left : Lit → Bool} {Dout : DU} {rc : Int → Nat × Value} (h : CL w c M IT R S x y v left Dout rc wr) (hf : Fr No w wy) (hs : wr.heap.size ≤ wy.heap.size)
    (hk : ∀ k, cfoot c S x y v left rc k → wy.heap[k]? = wr.heap[k]?) : CL w c M IT R S x y v left Dout rc wy where
  fr := hf
  st := h.st.of hf fun k e => hk k (.inr (e.elim .inl fun e => .inr (e.elim .inl fun e => .inr (.inl e))))
  blk := h.blk.of (hk c (.inl rfl))
  cw := h.cw
  mw := h.mw
  xM := h.xM
  yM := h.yM
  itl := Nat.lt_of_lt_of_le h.itl hs
  itx := h.itx
  keys := h.keys
  fls n r hr hl := by
    obtain ⟨h1, h2, h3, h4⟩ := h.fls n r hr hl
    exact ⟨h1, h2.of (hk _ (.inr (.inr (.inr (.inr ⟨n, r, hr, hl, .inl rfl⟩))))), own_of h3 fun k e => hk k (.inr (.inr (.inr (.inr ⟨n, r, hr, hl, .inr e⟩)))), h4⟩
  ap := h.ap
theorem CL.lt {w wr : World} {c M IT : Nat} {R : Rp} {S : AS} {x y : Option Nat} {v : Value} {left : Lit → Bool} {Dout : DU} {rc : Int → Nat × Value} (h : CL w c M IT R S x y v left Dout rc wr) {k : Nat} (hk : cfoot c S x y v left rc k) : k < wr.heap.size := by
  rcases hk with rfl | rfl | rfl | hk | ⟨n, r, hr, hl, hk⟩
  · exact h.blk.lt
  · exact h.st.ltA rfl
  · exact h.st.ltB rfl
  · exact ((h.st.lv v rfl).lt k hk).2
  · obtain ⟨_, h2, h3, _⟩ := h.fls n r hr hl
    rcases hk with rfl | hk
    · exact h2.lt
    · exact (h3.lt k hk).2
theorem CL.notIT {w wr : World} {c M IT : Nat} {R : Rp} {S : AS} {x y : Option Nat} {v : Value} {left : Lit → Bool} {Dout : DU} {rc : Int → Nat × Value} (h : CL w c M IT R S x y v left Dout rc wr) {k : Nat} (hk : cfoot c S x y v left rc k) : k ≠ IT := by
  rintro rfl
  rcases hk with e | e | e | hk | ⟨n, r, hr, hl, hk⟩
  · exact h.itx.2.2.2.1 e.symm
  · exact h.itx.1 e
  · exact h.itx.2.1 e
  · exact h.itx.2.2.1 hk
  · obtain ⟨_, _, _, _, h2, h3⟩ := h.fls n r hr hl
    rcases hk with e | hk
    · exact h2 e.symm
    · exact h3 hk
theorem CL.notM {w wr : World} {c M IT m : Nat} {R : Rp} {S : AS} {x y : Option Nat} {v : Value} {left : Lit → Bool} {Dout D' : DU} {rc : Int → Nat × Value} (h : CL w c M IT R S x y v left Dout rc wr) (hM : wr.ownsMap Tryz.prog 3 ptrElem M m D') {k : Nat} (hk : cfoot c S x y v left rc k) : k ≠ M := by
  rintro rfl
  obtain ⟨es, clock, hb, _⟩ := hM
  have blk : ∀ {t : TypeId} {cs : Array Value}, ¬ Blk wr k t cs := fun {t cs} hB => by unfold Blk at hB; rw [hB] at hb; cases hb
  have row : ∀ {B : Nat} {e : TypeId} {sz n : Nat} {u : Value} {xs : List Value}, wr.ownsRow B e sz u n xs → u.ownBlock ≠ some k := fun {B e sz n u xs} hr he => by
    obtain ⟨cur, hc⟩ := own_row hr he
    rw [hc] at hb; cases hb
  rcases hk with e | e | e | hk | ⟨n, r, hr, hl, hk⟩
  · subst e; exact blk h.blk
  · exact h.xM e
  · exact h.yM e
  · exact row (h.st.lv v rfl) hk
  · obtain ⟨_, h2, h3, _⟩ := h.fls n r hr hl
    rcases hk with e | hk
    · subst e; exact blk h2
    · exact row h3 hk
/-- One file more. -/
theorem CL.put {w wr w1 w2 : World} {c M IT m : Nat} {R : Rp} {S : AS} {x y : Option Nat} {v u : Value} {left : Lit → Bool} {Dout : DU} {rc : Int → Nat × Value} (h : CL w c M IT R S x y v left Dout rc wr) {n : Int} {r : FR} (hr : S.file n = some r) (hh : has R.FD (.int .i64 n) = true)
    (hM : wr.ownsMap Tryz.prog 3 ptrElem M m Dout) (hu : w1.ownsRow wr.heap.size 5 1 u r.bytes.length (r.bytes.map byteV)) (hb : Below wr.heap.size wr w1)
    (ht : (w1.alloc (.cells #[u, .int .i64 r.firm] 124)).mapTurned w2 M) (hleft : left (.int .i64 n) = true) :
    CL w c M IT R S x y v (fun z => left z && !z.sameKey (.int .i64 n)) (Dout.put (.int .i64 n) (.lit (.int .i64 w1.heap.size))) (upd rc n (w1.heap.size, u)) w2 := by
  have hg := ht.grown
  have f1 : Fr No wr w1 := Fr.of_below hb
  have f2 : Fr No wr (w1.alloc (.cells #[u, .int .i64 r.firm] 124)) := f1.alloc _
  have hMlt : M < wr.heap.size := World.ownsMap.lt hM
  have hw := h.fr.size
  have hs1 := f1.size
  have hf : Fr No w w2 := (h.fr.no f2).grown hg fun k e hk => by cases e; have := h.mw; omega
  have hs2 : w1.heap.size + 1 ≤ w2.heap.size := by have := hg.size; simpa using this
  have keep : ∀ k, k < wr.heap.size → k ≠ M → w2.heap[k]? = wr.heap[k]? := fun k hk hn => (hg.block k (by simp; omega) (by intro e; cases e; exact hn rfl)).trans (f2.block k hk id)
  have h2 := h.of hf (by omega) fun k hk => keep k (h.lt hk) (h.notM hM hk)
  have hqb : Blk w2 w1.heap.size 124 #[u, .int .i64 r.firm] := (Blk.new w1 124 _).of (hg.block _ (by simp) (by intro e; cases e; omega))
  have hur : w2.ownsRow w.heap.size 5 1 u r.bytes.length (r.bytes.map byteV) := own_base (own_of hu fun k hk => by
    have hk2 := (hu.lt k hk)
    exact (hg.block k (by simp; omega) (by intro e; cases e; omega)).trans (Below.heap_alloc _ _ k hk2.2)) hw
  have lf : ∀ m, m ≠ n → (left (.int .i64 m) && !(Lit.int .i64 m).sameKey (.int .i64 n)) = false → left (.int .i64 m) = false := fun m hm e => by
    rw [sameKey_ne (keyI_ne hm)] at e
    simpa using e
  have hIM : IsMap Dout := World.ownsMap.isMap hM
  refine { fr := hf, st := h2.st, blk := h2.blk, cw := h.cw, mw := h.mw, xM := h.xM, yM := h.yM, itl := h2.itl, itx := h.itx, keys := fun m => ?_, fls := fun m q hq hl => ?_, ap := fun m1 m2 q1 q2 hne h1 h2' l1 l2 => ?_ }
  · by_cases e : m = n
    · subst e
      rw [has_put_same hIM (isKeyI m), hh, WideAt.sameKey_self (isKeyI m)]
      simp
    · rw [has_put_other (keyI_ne e), h.keys m, sameKey_ne (keyI_ne e)]
      simp
  · by_cases e : m = n
    · subst e
      rw [hr] at hq
      cases hq
      rw [upd_same]
      exact ⟨fun z => atKey_put_same hIM (isKeyI m) _ z, hqb, hur, by omega, by have := h.itl; simp only; omega, fun e => by have := (hu.lt _ e).1; have := h.itl; omega⟩
    · rw [upd_other _ _ e]
      obtain ⟨g1, g2, g3, g4⟩ := h2.fls m q hq (lf m e hl)
      exact ⟨fun z => by rw [atKey_put_other (keyI_ne e)]; exact g1 z, g2, g3, g4⟩
  · by_cases e1 : m1 = n
    · have e2 : m2 ≠ n := fun e => hne (e1.trans e.symm)
      have hl2 := lf m2 e2 l2
      have a1 := h.lt (k := (rc m2).1) (.inr (.inr (.inr (.inr ⟨m2, q2, h2', hl2, .inl rfl⟩))))
      subst e1
      rw [upd_same, upd_other _ _ e2]
      exact ⟨by simp only; omega, fun k hk e => by
        have a2 := h.lt (k := k) (.inr (.inr (.inr (.inr ⟨m2, q2, h2', hl2, .inr e⟩))))
        have := (hu.lt k hk).1; omega⟩
    · by_cases e2 : m2 = n
      · have hl1 := lf m1 e1 l1
        have a1 := h.lt (k := (rc m1).1) (.inr (.inr (.inr (.inr ⟨m1, q1, h1, hl1, .inl rfl⟩))))
        subst e2
        rw [upd_same, upd_other _ _ e1]
        exact ⟨by simp only; omega, fun k hk e => by
          have a2 := h.lt (k := k) (.inr (.inr (.inr (.inr ⟨m1, q1, h1, hl1, .inr hk⟩))))
          have := (hu.lt k e).1; omega⟩
      · rw [upd_other _ _ e1, upd_other _ _ e2]
        exact h.ap m1 m2 q1 q2 hne h1 h2' (lf m1 e1 l1) (lf m2 e2 l2)
theorem CSt.drop {S : AS} {w wx : World} {a b : Option (Option Nat)} {c : Option Value} {m : Option Nat} (h : CSt S w wx a b c m) : CSt S w wx a b c none :=
  ⟨h.fr, h.nm, h.fm, h.lv, (fun _ e => by cases e), h.ab, (fun _ _ e => by cases e), (fun _ _ e => by cases e)⟩
theorem At.has_file {w : World} {d : Nat} {R : Rp} {S : AS} (h : At w d R S) {n : Int} {r : FR} (hr : S.file n = some r) : has R.FD (.int .i64 n) = true := by
  have := h.fd n
  rw [hr] at this
  exact has_true_of_atKey this.1
theorem At.file_of {w : World} {d : Nat} {R : Rp} {S : AS} (h : At w d R S) {n : Int} (hh : has R.FD (.int .i64 n) = true) : ∃ r, S.file n = some r := by
  cases hr : S.file n with
  | some r => exact ⟨r, rfl⟩
  | none =>
    have := h.fd n
    rw [hr] at this
    rw [show has R.FD (.int .i64 n) = false from this] at hh
    cases hh
theorem CL.start {w q w2 w0 : World} {M d : Nat} {R : Rp} {S : AS} {x y : Option Nat} {v : Value} (hA : At w d R S) (h : CSt S w q (some x) (some y) (some v) (some M)) (f2 : Fr No q w2) (hlt : q.heap.size < w2.heap.size) (hb : Blk w2 q.heap.size 84 (cpCells S S.steps x y v M)) (hg : w2.grownBy w0 none) (hs : w0.heap.size = w2.heap.size + 1) :
    CL w q.heap.size M w2.heap.size R S x y v (has R.FD) (.map []) (fun _ => (0, .slice none 0 0)) w0 ∧ w0.ownsMap Tryz.prog 3 ptrElem M 0 (.map []) := by
  have f3 : Fr No w2 w0 := (Fr.refl No w2).grown hg fun k e => by cases e
  have h0 := (h.step f2).step f3
  have hv : ∀ k, v.ownBlock = some k → k < q.heap.size := fun k hk => ((h.lv v rfl).lt k hk).2
  refine ⟨{ fr := h0.fr, st := h0.drop, blk := hb.of (f3.block _ hb.lt id), cw := h.fr.size, mw := (h.mp M rfl).2, xM := fun e => h.am M (by rw [e]) rfl, yM := fun e => h.bm M (by rw [e]) rfl, itl := by omega, itx := ⟨fun e => ?_, fun e => ?_, fun e => ?_, ?_, ?_⟩, keys := fun n => ?_, fls := fun n r hr hl => ?_, ap := fun n m r q hne h1 h2 l1 l2 => ?_ }, (h0.mp M rfl).1⟩
  · have := h.ltA (k := w2.heap.size) (by rw [e]); omega
  · have := h.ltB (k := w2.heap.size) (by rw [e]); omega
  · have := hv _ e; omega
  · omega
  · have := h.ltM (k := M) rfl; omega
  · cases has R.FD (.int .i64 n) <;> rfl
  · rw [hA.has_file hr] at hl; cases hl
  · rw [hA.has_file h1] at l1; cases l1
theorem Fr.grownBy {w w' : World} (h : Fr No w w') (row : Option Nat) : w.grownBy w' row := ⟨h.os, h.tape, h.output, h.size, fun k hk _ => h.block k hk id⟩
/-- The store of a copied file. -/
theorem CL.store {w wr : World} {c M IT m fb cnt : Nat} {R : Rp} {S : AS} {x y : Option Nat} {v : Value} {left : Lit → Bool} {Dout : DU} {rc : Int → Nat × Value} (h : CL w c M IT R S x y v left Dout rc wr) {n : Int} {r : FR} (hr : S.file n = some r) (hh : has R.FD (.int .i64 n) = true) (hwn : (Lit.int .i64 n).wf = true)
    (hM : wr.ownsMap Tryz.prog 3 ptrElem M m Dout) (hm : m < maxLen) (hleft : left (.int .i64 n) = true) (hrg : wr.ranges Tryz.prog 3 ptrElem fb IT (Maps.size R.FD) R.FD (fun z => left z && !z.sameKey (.int .i64 n)) cnt) (hfm : fb < w.heap.size)
    (wa : World) (A : Option Addr) (cc : Nat) (hf : Fr No wr wa) (hu : wa.ownsRow wr.heap.size 5 1 (.slice A r.bytes.length cc) r.bytes.length (r.bytes.map byteV)) :
    ∃ w5, (Instr.mapUpdate 76 (.map (some M)) (.int .i64 n) (.pointer (some ⟨wa.heap.size, 0, none⟩))).run Tryz.prog (wa.alloc (.cells #[.slice A r.bytes.length cc, .int .i64 r.firm] 124)) = .ok () w5 ∧
      w5.ownsMap Tryz.prog 3 ptrElem M (m + 1) (Dout.put (.int .i64 n) (.lit (.int .i64 wa.heap.size))) ∧ CL w c M IT R S x y v (fun z => left z && !z.sameKey (.int .i64 n)) (Dout.put (.int .i64 n) (.lit (.int .i64 wa.heap.size))) (upd rc n (wa.heap.size, .slice A r.bytes.length cc)) w5 ∧
      w5.ranges Tryz.prog 3 ptrElem fb IT (Maps.size R.FD) R.FD (fun z => left z && !z.sameKey (.int .i64 n)) cnt := by
  have f2 : Fr No wr (wa.alloc (.cells #[.slice A r.bytes.length cc, .int .i64 r.firm] 124)) := hf.alloc _
  have hM2 := owns_of hM (f2.block M (World.ownsMap.lt hM) id)
  obtain ⟨w5, hrun, hown, hturn⟩ := World.ownsMap.store hM2 law3 Tryz.underlying76 hm (key3 n hwn) (ptrElem_mk wa.heap.size)
  refine ⟨w5, hrun, hown, h.put hr hh hM hu hf.below hturn hleft, (hrg.kept (f2.grownBy none) (by simp) (by simp)).kept hturn.grown (fun e => ?_) (fun e => ?_)⟩
  · cases e; have := h.mw; omega
  · cases e; exact h.itx.2.2.2.2 rfl
theorem ptr_inv {v : Value} {y : DU × List MemPlace} (h : ptrElem v = some y) : ∃ o : Option Nat, v = .pointer (o.map fun b => ⟨b, 0, none⟩) := by
  unfold ptrElem at h
  split at h
  · exact ⟨none, rfl⟩
  · rename_i b; exact ⟨some b, rfl⟩
  · cases h
def CpQ (S : AS) (w : World) (e : Ending) (w' : World) : Prop :=
  ∃ c R', e = .returned (.pointer (some ⟨c, 0, none⟩)) ∧ At w' c R' S ∧ Fr No w w' ∧ ∀ k, foot c R' S k → w.heap.size ≤ k
theorem CL.fin {w wr : World} {c M IT m d : Nat} {R : Rp} {S : AS} {x y : Option Nat} {v : Value} {left : Lit → Bool} {Dout : DU} {rc : Int → Nat × Value} (h : CL w c M IT R S x y v left Dout rc wr) (hM : wr.ownsMap Tryz.prog 3 ptrElem M m Dout) (hA : At w d R S) (hl : ∀ k, left k = false) :
    CpQ S w (.returned (.pointer (some ⟨c, 0, none⟩))) wr := by
  obtain ⟨b, hx⟩ : ∃ b, x = some b := Option.ne_none_iff_exists'.1 (h.st.nm x rfl).2.2
  refine ⟨c, { nm := x, fm := y, fb := some M, lv := v, rc := rc, FD := Dout }, rfl, {
    blk := h.blk
    names := (h.st.nm x rfl).1
    firm := (h.st.fm y rfl).1
    files := owns_tight (b := M) hM
    loose := own_base (h.st.lv v rfl) (Nat.zero_le _)
    fd := fun n => ?_
    ne1 := fun k e1 e2 => h.st.ab k (by rw [show x = some k from e1]) (by rw [show y = some k from e2])
    ne2 := fun k e1 e2 => h.xM (by rw [show x = some k from e1, show some M = some k from e2])
    ne3 := fun k e1 e2 => h.yM (by rw [show y = some k from e1, show some M = some k from e2])
    ap := fun n1 n2 r q hne h1 h2 => h.ap n1 n2 r q hne h1 h2 (hl _) (hl _)
    onn := fun _ => ⟨b, M, hx, rfl⟩ }, h.fr, fun k hk => ?_⟩
  · cases hr : S.file n with
    | none =>
      have := hA.fd n
      rw [hr] at this
      show has Dout _ = false
      rw [h.keys n, show has R.FD (.int .i64 n) = false from this]
      rfl
    | some r =>
      obtain ⟨g1, g2, g3, _⟩ := h.fls n r hr (hl _)
      exact ⟨g1, g2, own_base g3 (Nat.zero_le _)⟩
  · rcases hk with e | e | e | e | e | ⟨n, r, hr, e | e⟩
    · subst e; exact h.cw
    · exact (h.st.nm x rfl).2.1 k e
    · exact (h.st.fm y rfl).2 k e
    · cases e; exact h.mw
    · exact ((h.st.lv v rfl).lt k e).1
    · obtain ⟨_, _, _, g4, _⟩ := h.fls n r hr (hl _)
      subst e; exact g4
    · obtain ⟨_, _, g3, _⟩ := h.fls n r hr (hl _)
      exact (g3.lt k e).1
end Go.Proofs.YtccjkolcmdhliaaGreatDoor
