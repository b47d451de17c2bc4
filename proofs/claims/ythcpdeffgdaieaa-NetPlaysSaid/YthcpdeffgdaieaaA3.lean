/- What a net is: the state as the document has it, and how it lies in memory; what is kept when a part of it turns. -/
import Derived.Test.YthcpdeffgdaieaaA2
namespace Go.Proofs.Ythcpdeffgdaieaa
open Go.RowKit Go.Maps
set_option linter.unusedVariables false

/-- What leads to a side. -/
structure WS where
  bytes : List UInt8
  arr : Nat
  shut : Bool
/-- A connection: by the side to which a way leads. -/
structure LK where
  way : Bool → WS
  cut : Bool
  told : Bool → Bool
/-- A net. -/
structure NS where
  last : Int
  keys : List Int
  link : Int → Option LK

def upd {α : Type} (f : Int → α) (n : Int) (x : α) (m : Int) : α := if m = n then x else f m
theorem upd_same {α : Type} (f : Int → α) (n : Int) (x : α) : upd f n x n = x := by simp [upd]
theorem upd_other {α : Type} (f : Int → α) {n m : Int} (x : α) (h : m ≠ n) : upd f n x m = f m := by simp [upd, h]
theorem upd_upd {α : Type} (f : Int → α) (n : Int) (x y : α) : upd (upd f n x) n y = upd f n y := by funext m; unfold upd; split <;> rfl
def updB {α : Type} (f : Bool → α) (n : Bool) (x : α) (m : Bool) : α := if m = n then x else f m
theorem updB_same {α : Type} (f : Bool → α) (n : Bool) (x : α) : updB f n x n = x := by simp [updB]
theorem updB_other {α : Type} (f : Bool → α) {n m : Bool} (x : α) (h : m ≠ n) : updB f n x m = f m := by simp [updB, h]

def LK.cells (K : LK) (vv : Bool → Value) : Array Value :=
  #[vv false, .int .i64 (K.way false).arr, .bool (K.way false).shut, vv true, .int .i64 (K.way true).arr, .bool (K.way true).shut, .bool K.cut, .bool (K.told false), .bool (K.told true)]

/-- Where it lies. -/
structure Rp where
  m : Option Nat
  rc : Int → Nat × (Bool → Value)
  FD : DU

structure LAt (w : World) (g : Nat) (vv : Bool → Value) (K : LK) : Prop where
  blk : Blk w g 69 (K.cells vv)
  row : ∀ s, RowB w (vv s) (K.way s).bytes
  ap : ∀ k, (vv false).ownBlock = some k → (vv true).ownBlock ≠ some k

def blkL (g : Nat) (vv : Bool → Value) (k : Nat) : Prop := k = g ∨ ∃ s, (vv s).ownBlock = some k
def linkB (R : Rp) (n : Int) (k : Nat) : Prop := blkL (R.rc n).1 (R.rc n).2 k

def LinkAt (w : World) (R : Rp) (n : Int) : Option LK → Prop
  | none => has R.FD (.int .i64 n) = false
  | some K => (∀ z, R.FD.atKey (.int .i64 n) z = .lit (.int .i64 (R.rc n).1)) ∧ LAt w (R.rc n).1 (R.rc n).2 K

structure At (w : World) (d : Nat) (R : Rp) (S : NS) : Prop where
  blk : Blk w d 53 #[.map R.m, .int .i64 S.last]
  map : MapAt w Try.prog 3 ptrElem R.m R.FD
  fd : ∀ n, LinkAt w R n (S.link n)
  ap : ∀ n m K Q, n ≠ m → S.link n = some K → S.link m = some Q → ∀ k, linkB R n k → ¬ linkB R m k
  sz : Maps.size R.FD = S.keys.length

def foot (d : Nat) (R : Rp) (S : NS) (k : Nat) : Prop := k = d ∨ R.m = some k ∨ ∃ n K, S.link n = some K ∧ linkB R n k

theorem LAt.of {w w' : World} {g : Nat} {vv : Bool → Value} {K : LK} (h : LAt w g vv K) (hk : ∀ k, blkL g vv k → w'.heap[k]? = w.heap[k]?) : LAt w' g vv K :=
  ⟨h.blk.of (hk _ (.inl rfl)), fun s => (h.row s).of fun k hb => hk k (.inr ⟨s, hb⟩), h.ap⟩
theorem LAt.lt {w : World} {g : Nat} {vv : Bool → Value} {K : LK} (h : LAt w g vv K) {k : Nat} (hk : blkL g vv k) : k < w.heap.size := by
  rcases hk with rfl | ⟨s, hk⟩
  · exact h.blk.lt
  · exact (h.row s).lt hk
/-- It is a block of cells, of a link's kind or of bytes. -/
theorem LAt.kind {w : World} {g : Nat} {vv : Bool → Value} {K : LK} (h : LAt w g vv K) {k : Nat} (hk : blkL g vv k) : ∃ cs t, w.heap[k]? = some (.cells cs t (0, 0)) ∧ t ≠ 53 := by
  rcases hk with rfl | ⟨s, hk⟩
  · exact ⟨_, _, h.blk, by decide⟩
  · obtain ⟨cur, hc⟩ := (h.row s).block hk
    exact ⟨_, _, hc, by decide⟩

theorem LinkAt.of {w w' : World} {R : Rp} {n : Int} {o : Option LK} (h : LinkAt w R n o) (hk : ∀ K, o = some K → ∀ k, linkB R n k → w'.heap[k]? = w.heap[k]?) : LinkAt w' R n o := by
  cases o with
  | none => exact h
  | some K => exact ⟨h.1, h.2.of (hk K rfl)⟩

theorem At.of {w w' : World} {d : Nat} {R : Rp} {S : NS} (h : At w d R S) (hk : ∀ k, foot d R S k → w'.heap[k]? = w.heap[k]?) : At w' d R S where
  blk := h.blk.of (hk _ (.inl rfl))
  map := h.map.of fun b hb => hk _ (.inr (.inl hb))
  fd n := (h.fd n).of fun K hK k hb => hk _ (.inr (.inr ⟨n, K, hK, hb⟩))
  ap := h.ap
  sz := h.sz

theorem At.lat {w : World} {d : Nat} {R : Rp} {S : NS} (h : At w d R S) {n : Int} {K : LK} (hK : S.link n = some K) : (∀ z, R.FD.atKey (.int .i64 n) z = .lit (.int .i64 (R.rc n).1)) ∧ LAt w (R.rc n).1 (R.rc n).2 K := by
  have := h.fd n
  rw [hK] at this
  exact this

theorem At.lt {w : World} {d : Nat} {R : Rp} {S : NS} (h : At w d R S) : ∀ k, foot d R S k → k < w.heap.size := by
  intro k hk
  rcases hk with rfl | hk | ⟨n, K, hK, hk⟩
  · exact h.blk.lt
  · exact h.map.lt k hk
  · exact (h.lat hK).2.lt hk

theorem At.fr {w w' : World} {d : Nat} {R : Rp} {S : NS} (h : At w d R S) {F : Nat → Prop} (hf : Fr F w w') (hd : ∀ k, F k → ¬ foot d R S k) : At w' d R S :=
  h.of fun k hk => hf.block k (h.lt k hk) fun hF => hd k hF hk
theorem At.keep {w w' : World} {d : Nat} {R : Rp} {S : NS} (h : At w d R S) (hf : Fr No w w') : At w' d R S := h.fr hf fun _ hF => hF.elim
theorem At.drewN {w : World} {d : Nat} {R : Rp} {S : NS} (h : At w d R S) (n : Nat) : At (w.drewN n) d R S := h.keep ((Fr.refl _ _).drewN n)
theorem At.alloc {w : World} {d : Nat} {R : Rp} {S : NS} (h : At w d R S) (o : Obj) : At (w.alloc o) d R S := h.keep ((Fr.refl _ w).alloc o)

/-- The map's block is none of cells. -/
theorem map_not_cells {w : World} {m : Option Nat} {D : DU} (hm : MapAt w Try.prog 3 ptrElem m D) {k : Nat} {cs : Array Value} {t : TypeId} {fz : Nat × Nat} (hc : w.heap[k]? = some (.cells cs t fz)) : m ≠ some k := by
  rintro rfl
  obtain ⟨es, c, he⟩ := owns_map (b := k) hm
  exact map_ne_blk he hc rfl

/-- A link's blocks are neither the net's own nor the map's, nor another link's. -/
theorem At.other {w : World} {d : Nat} {R : Rp} {S : NS} (h : At w d R S) {n : Int} {K : LK} (hK : S.link n = some K) {k : Nat} (hk : linkB R n k) :
    k ≠ d ∧ R.m ≠ some k ∧ ∀ m Q, m ≠ n → S.link m = some Q → ¬ linkB R m k := by
  obtain ⟨cs, t, hc, ht⟩ := (h.lat hK).2.kind hk
  refine ⟨?_, map_not_cells h.map hc, fun m Q hne hQ => h.ap n m K Q (Ne.symm hne) hK hQ k hk⟩
  exact Blk.ne_ (w := w) (t := t) hc h.blk ht

theorem At.map_ne {w : World} {d : Nat} {R : Rp} {S : NS} (h : At w d R S) : R.m ≠ some d := map_not_cells h.map h.blk

/-- What a call leaves of a net. -/
structure PR (d : Nat) (R : Rp) (S : NS) (w : World) (R' : Rp) (S' : NS) (w' : World) : Prop where
  at_ : At w' d R' S'
  fr : Fr (foot d R S) w w'
  foot : ∀ k, foot d R' S' k → foot d R S k ∨ w.heap.size ≤ k
def Post (d : Nat) (R : Rp) (S : NS) (w : World) (S' : NS) (w' : World) : Prop := ∃ R', PR d R S w R' S' w'
theorem PR.post {d : Nat} {R R' : Rp} {S S' : NS} {w w' : World} (h : PR d R S w R' S' w') : Post d R S w S' w' := ⟨R', h⟩
theorem PR.refl {d : Nat} {R : Rp} {S : NS} {w : World} (h : At w d R S) : PR d R S w R S w := ⟨h, Fr.refl _ _, fun k hk => .inl hk⟩
theorem PR.same {d : Nat} {R : Rp} {S : NS} {w w' : World} (h : At w d R S) (hf : Fr No w w') : PR d R S w R S w' := ⟨h.keep hf, hf.any, fun k hk => .inl hk⟩
theorem Post.refl {d : Nat} {R : Rp} {S : NS} {w : World} (h : At w d R S) : Post d R S w S w := (PR.refl h).post
theorem PR.trans {d : Nat} {R R1 R2 : Rp} {S S1 S2 : NS} {w w1 w2 : World} (h : PR d R S w R1 S1 w1) (k : PR d R1 S1 w1 R2 S2 w2) : PR d R S w R2 S2 w2 := by
  obtain ⟨h1, f1, g1⟩ := h
  obtain ⟨h2, f2, g2⟩ := k
  refine ⟨h2, f1.trans f2 (fun j hj hf => (g1 j hf).resolve_right (by omega)), fun j hj => ?_⟩
  rcases g2 j hj with hj | hj
  · exact g1 j hj
  · exact .inr (by have := f1.size; omega)

/-! ### one link turns -/
def NS.setL (S : NS) (n : Int) (K : LK) : NS := { S with link := upd S.link n (some K) }
def NS.drop (S : NS) (n : Int) : NS := { S with keys := S.keys.filter (fun k => decide (k ≠ n)), link := upd S.link n none }
theorem NS.drop_setL (S : NS) (n : Int) (K : LK) : (S.setL n K).drop n = S.drop n := by
  unfold NS.drop NS.setL
  simp only [upd_upd]

theorem PRlink {w w' : World} {d : Nat} {R : Rp} {S : NS} (h : At w d R S) {n : Int} {K K' : LK} {vv' : Bool → Value} (hK : S.link n = some K) (hf : Fr (linkB R n) w w')
    (hl : LAt w' (R.rc n).1 vv' K') (hv : ∀ s k, (vv' s).ownBlock = some k → linkB R n k ∨ w.heap.size ≤ k) :
    PR d R S w { R with rc := upd R.rc n ((R.rc n).1, vv') } (S.setL n K') w' := by
  have lt := h.lt
  have oth := fun k (hk : linkB R n k) => h.other hK hk
  have same : ∀ k, foot d R S k → ¬ linkB R n k → w'.heap[k]? = w.heap[k]? := fun k hk hn => hf.block k (lt k hk) hn
  have nb : ∀ k, linkB { R with rc := upd R.rc n ((R.rc n).1, vv') } n k → linkB R n k ∨ w.heap.size ≤ k := by
    intro k hk
    unfold linkB at hk
    simp only [upd_same] at hk
    rcases hk with rfl | ⟨s, hk⟩
    · exact .inl (.inl rfl)
    · exact hv s k hk
  have ob : ∀ m, m ≠ n → ∀ k, linkB { R with rc := upd R.rc n ((R.rc n).1, vv') } m k ↔ linkB R m k := by
    intro m hm k
    unfold linkB
    simp only [upd_other _ _ hm]
  have hA : At w' d { R with rc := upd R.rc n ((R.rc n).1, vv') } (S.setL n K') := {
    blk := h.blk.of (same _ (.inl rfl) fun hk => (oth _ hk).1 rfl)
    map := h.map.of fun b hb => same _ (.inr (.inl hb)) fun hk => (oth _ hk).2.1 hb
    fd := fun m => by
      by_cases e : m = n
      · subst e
        show LinkAt w' _ _ (upd S.link m (some K') m)
        rw [upd_same]
        refine ⟨fun z => ?_, ?_⟩
        · simp only [upd_same]; exact (h.lat hK).1 z
        · simp only [upd_same]; exact hl
      · show LinkAt w' _ _ (upd S.link n (some K') m)
        rw [upd_other _ _ e]
        have hm := h.fd m
        cases hq : S.link m with
        | none => rw [hq] at hm; exact hm
        | some Q =>
          rw [hq] at hm
          obtain ⟨h1, h2⟩ := hm
          refine ⟨fun z => ?_, ?_⟩
          · simp only [upd_other _ _ e]; exact h1 z
          · simp only [upd_other _ _ e]
            exact h2.of fun k hk => same k (.inr (.inr ⟨m, Q, hq, hk⟩)) fun hn => (oth k hn).2.2 m Q e hq hk
    ap := fun m1 m2 Q1 Q2 hne h1 h2 k hk1 hk2 => by
      have h1' : upd S.link n (some K') m1 = some Q1 := h1
      have h2' : upd S.link n (some K') m2 = some Q2 := h2
      by_cases e1 : m1 = n
      · subst e1
        have e2 : m2 ≠ m1 := Ne.symm hne
        rw [upd_other _ _ e2] at h2'
        rw [ob m2 e2] at hk2
        rcases nb k hk1 with hk1 | hk1
        · exact h.ap m1 m2 K Q2 hne hK h2' k hk1 hk2
        · have := (h.lat h2').2.lt hk2; omega
      · rw [upd_other _ _ e1] at h1'
        rw [ob m1 e1] at hk1
        by_cases e2 : m2 = n
        · subst e2
          rcases nb k hk2 with hk2 | hk2
          · exact h.ap m1 m2 Q1 K hne h1' hK k hk1 hk2
          · have := (h.lat h1').2.lt hk1; omega
        · rw [upd_other _ _ e2] at h2'
          rw [ob m2 e2] at hk2
          exact h.ap m1 m2 Q1 Q2 hne h1' h2' k hk1 hk2
    sz := h.sz }
  refine ⟨hA, hf.mono fun k _ hk => .inr (.inr ⟨n, K, hK, hk⟩), fun k hk => ?_⟩
  rcases hk with hk | hk | ⟨m, Q, hQ, hk⟩
  · exact .inl (.inl hk)
  · exact .inl (.inr (.inl hk))
  · have hQ' : upd S.link n (some K') m = some Q := hQ
    by_cases e : m = n
    · subst e
      rcases nb k hk with hk | hk
      · exact .inl (.inr (.inr ⟨m, K, hK, hk⟩))
      · exact .inr hk
    · rw [upd_other _ _ e] at hQ'
      rw [ob m e] at hk
      exact .inl (.inr (.inr ⟨m, Q, hQ', hk⟩))

/-! ### one link goes -/
theorem isKeyI (n : Int) : WideAt.IsKeyLit (.int .i64 n) := by simp [WideAt.IsKeyLit]
theorem keyI_ne {s t : Int} (h : s ≠ t) : (Lit.int .i64 s) ≠ .int .i64 t := by simpa using h
theorem wf64 {n : Int} (h0 : -9223372036854775808 ≤ n) (h1 : n ≤ 9223372036854775807) : (Lit.int .i64 n).wf = true := WalkArith.wf_i64 ⟨h0, h1⟩
theorem key3 (n : Int) (hn : (Lit.int .i64 n).wf = true) : keyOf Try.prog 3 (.int .i64 n) = some (.int .i64 n) := keyOf_int_mk Try.underlying3 hn
theorem law3 : Keyed Try.prog 3 := int_keyed Try.underlying3

def One (d k : Nat) : Prop := k = d
theorem mapTurned_one {w w' : World} {b : Nat} (h : w.mapTurned w' b) : Fr (One b) w w' :=
  (Fr.refl _ w).grown h.grown fun k hk _ => by cases hk; rfl

/-- A number is not counted twice. -/
def NS.Right (S : NS) : Prop := S.keys.Pairwise (· < ·) ∧ ∀ n, n ∈ S.keys ↔ (S.link n).isSome = true

theorem has_link {w : World} {d : Nat} {R : Rp} {S : NS} (h : At w d R S) {n : Int} {K : LK} (hK : S.link n = some K) : has R.FD (.int .i64 n) = true := has_true_of_atKey (h.lat hK).1

theorem filter_ne_length : ∀ (l : List Int) (n : Int), l.Pairwise (· < ·) → n ∈ l → (l.filter (fun k => decide (k ≠ n))).length + 1 = l.length
  | [], n, _, h => by cases h
  | x :: l, n, hp, h => by
    rw [List.pairwise_cons] at hp
    by_cases e : x = n
    · subst e
      have : l.filter (fun k => decide (k ≠ x)) = l := by
        rw [List.filter_eq_self]
        intro a ha
        have := hp.1 a ha
        simp only [ne_eq, decide_eq_true_eq]; omega
      rw [List.filter_cons_of_neg (by simp), this]; rfl
    · have hm : n ∈ l := by
        rcases List.mem_cons.1 h with h | h
        · exact absurd h.symm e
        · exact h
      have := filter_ne_length l n hp.2 hm
      simp only [List.filter_cons, e, ne_eq, not_false_eq_true, decide_true, if_true, List.length_cons]
      simp only [ne_eq] at this
      omega

theorem PRdrop {w w' : World} {d : Nat} {R : Rp} {S : NS} (h : At w d R S) (hr : S.Right) {n : Int} {K : LK} (hK : S.link n = some K) {b : Nat} (hb : R.m = some b)
    (hf : Fr (One b) w w') (ho : w'.ownsMap Try.prog 3 ptrElem b (Maps.size (R.FD.del (.int .i64 n))) (R.FD.del (.int .i64 n))) :
    PR d R S w { R with FD := R.FD.del (.int .i64 n) } (S.drop n) w' := by
  have same : ∀ k, foot d R S k → k ≠ b → w'.heap[k]? = w.heap[k]? := fun k hk hn => hf.block k (h.lt k hk) hn
  have hl : ∀ m Q, S.link m = some Q → ∀ k, linkB R m k → k ≠ b := fun m Q hQ k hk e => (h.other hQ hk).2.1 (e ▸ hb)
  have hA : At w' d { R with FD := R.FD.del (.int .i64 n) } (S.drop n) := {
    blk := h.blk.of (same _ (.inl rfl) fun e => h.map_ne (e ▸ hb))
    map := by
      show MapAt w' Try.prog 3 ptrElem R.m _
      rw [hb]; exact ho
    fd := fun m => by
      by_cases e : m = n
      · subst e
        show LinkAt w' _ _ (upd S.link m none m)
        rw [upd_same]
        exact has_del_same
      · show LinkAt w' _ _ (upd S.link n none m)
        rw [upd_other _ _ e]
        have hm := h.fd m
        cases hq : S.link m with
        | none =>
          rw [hq] at hm
          show has (R.FD.del _) _ = false
          rw [has_del_other (keyI_ne e)]; exact hm
        | some Q =>
          rw [hq] at hm
          obtain ⟨h1, h2⟩ := hm
          refine ⟨fun z => ?_, h2.of fun k hk => same k (.inr (.inr ⟨m, Q, hq, hk⟩)) (hl m Q hq k hk)⟩
          show (R.FD.del _).atKey _ z = _
          rw [atKey_del_other (keyI_ne e)]; exact h1 z
    ap := fun m1 m2 Q1 Q2 hne h1 h2 k hk1 hk2 => by
      have h1' : upd S.link n none m1 = some Q1 := h1
      have h2' : upd S.link n none m2 = some Q2 := h2
      have e1 : m1 ≠ n := by rintro rfl; rw [upd_same] at h1'; cases h1'
      have e2 : m2 ≠ n := by rintro rfl; rw [upd_same] at h2'; cases h2'
      rw [upd_other _ _ e1] at h1'
      rw [upd_other _ _ e2] at h2'
      exact h.ap m1 m2 Q1 Q2 hne h1' h2' k hk1 hk2
    sz := by
      have h1 := size_del (k := .int .i64 n) (h.map.tidy law3)
      rw [if_pos (has_link h hK)] at h1
      have h2 := filter_ne_length S.keys n hr.1 ((hr.2 n).2 (by rw [hK]; rfl))
      have h3 := h.sz
      show Maps.size (R.FD.del _) = (S.keys.filter _).length
      omega }
  refine ⟨hA, hf.mono fun k _ hk => .inr (.inl (by cases hk; exact hb)), fun k hk => ?_⟩
  rcases hk with hk | hk | ⟨m, Q, hQ, hk⟩
  · exact .inl (.inl hk)
  · exact .inl (.inr (.inl hk))
  · have hQ' : upd S.link n none m = some Q := hQ
    have e : m ≠ n := by rintro rfl; rw [upd_same] at hQ'; cases hQ'
    rw [upd_other _ _ e] at hQ'
    exact .inl (.inr (.inr ⟨m, Q, hQ', hk⟩))

theorem At.mapSome {w : World} {d : Nat} {R : Rp} {S : NS} (h : At w d R S) {n : Int} {K : LK} (hK : S.link n = some K) : ∃ b, R.m = some b := by
  cases hm : R.m with
  | some b => exact ⟨b, rfl⟩
  | none =>
    have hf := h.map
    rw [hm] at hf
    have hD : R.FD = .map [] := hf
    have := has_link h hK
    rw [hD] at this
    cases this

theorem NS.Right.setL {S : NS} (h : S.Right) {n : Int} {K K' : LK} (hK : S.link n = some K) : (S.setL n K').Right := by
  refine ⟨h.1, fun m => ?_⟩
  show m ∈ S.keys ↔ (upd S.link n (some K') m).isSome = true
  by_cases e : m = n
  · subst e; rw [upd_same, h.2, hK]; simp
  · rw [upd_other _ _ e]; exact h.2 m
theorem NS.Right.drop {S : NS} (h : S.Right) (n : Int) : (S.drop n).Right := by
  refine ⟨h.1.filter _, fun m => ?_⟩
  show m ∈ S.keys.filter _ ↔ (upd S.link n none m).isSome = true
  by_cases e : m = n
  · subst e; rw [upd_same]; simp
  · rw [upd_other _ _ e, List.mem_filter, ← h.2 m]; simp [e]

end Go.Proofs.Ythcpdeffgdaieaa
