/- What a dictionary is: its state, plain, and how it lies in memory. -/
import Derived.Test.YtmaeejojmbibnaaDP1
import Derived.Test.YtmaeejojmbibnaaDL1
namespace Go.Proofs.Ytmaeejojmbibnaa
open Go.RowKit Go.Maps
set_option linter.unusedVariables false

/-! ### tables of numbers by text -/
theorem law9 : Keyed Try.prog 9 := string_keyed Try.underlying9
def look (D : DU) (s : List UInt8) : Option Int :=
  match D.atKey (.string s) .nil with
  | .lit (.int .i64 n) => some n
  | _ => none
theorem isKey (s : List UInt8) : WideAt.IsKeyLit (.string s) := by simp [WideAt.IsKeyLit]
theorem key_ne {s t : List UInt8} (h : s ≠ t) : (Lit.string s) ≠ .string t := by simpa using h
theorem look_empty (s : List UInt8) : look (.map []) s = none := rfl
theorem look_put_same {D : DU} (h : IsMap D) (s : List UInt8) (n : Int) : look (D.put (.string s) (.lit (.int .i64 n))) s = some n := by
  unfold look; rw [atKey_put_same h (isKey s)]
theorem look_put_other {D : DU} {s t : List UInt8} (h : t ≠ s) (d : DU) : look (D.put (.string s) d) t = look D t := by
  unfold look; rw [atKey_put_other (key_ne h)]
def Ints (D : DU) : Prop := ∀ s, has D (.string s) = true → ∃ n, ∀ z, D.atKey (.string s) z = .lit (.int .i64 n)
theorem atKey_any {D : DU} {k : Lit} (h : has D k = true) (y z : DU) : D.atKey k y = D.atKey k z := by
  cases D with
  | map es =>
    rw [has_eq, List.any_eq_true] at h
    obtain ⟨p, hp, hs⟩ := h
    simp only [DataW.atKey]
    cases hf : es.find? (fun p => p.1.sameKey k) with
    | some q => rfl
    | none => rw [List.find?_eq_none] at hf; exact absurd hs (hf p hp)
  | _ => simp [has] at h
theorem key9 (l : List UInt8) (hl : l.length ≤ maxLen) : keyOf Try.prog 9 (.string ⟨l.toArray⟩) = some (.string l) := by
  have := WideMaps.keyOf_string_mk (P := Try.prog) (k := 9) Try.underlying9 (s := ⟨l.toArray⟩) (by simpa [ByteArray.size] using hl)
  simpa using this
theorem owns_key {w : World} {b n : Nat} {D : DU} {P : Program} {k : TypeId} {R : Value → Option (DU × List MemPlace)} (h : w.ownsMap P k R b n D) {kl : Lit} (hh : has D kl = true) : ∃ key, keyOf P k key = some kl := by
  obtain ⟨es, clock, hb, F, hs, rfl⟩ := h
  rw [has_eq, List.any_eq_true] at hh
  obtain ⟨p, hp, hsm⟩ := hh
  have hp' := mem_sorted.1 hp
  obtain ⟨x, hx, rfl⟩ := List.mem_map.1 hp'
  obtain ⟨y, hy⟩ := F.reads x hx
  have h1 := WideElems.rd_key hy
  rw [WideElems.rg_of hy] at hsm
  refine ⟨x.key, ?_⟩
  rw [h1]
  by_cases e : y.1 = kl
  · rw [e]
  · rw [sameKey_ne e] at hsm; cases hsm
theorem owns_ints {w : World} {b n : Nat} {D : DU} (h : w.ownsMap Try.prog 9 (plainElem Try.prog 3) b n D) : Ints D := by
  intro s hs
  obtain ⟨key, hk⟩ := owns_key h hs
  obtain ⟨c, _, hat, _⟩ := h.lookup_int law9 Try.underlying87 Try.underlying3 (Try.zeroValue3 w) hk
  exact ⟨c, fun z => by rw [atKey_any hs z (.lit (.int .i64 0)), hat]⟩
theorem MapAt.ints {w : World} {m : Option Nat} {D : DU} (h : MapAt w Try.prog 9 (plainElem Try.prog 3) m D) : Ints D := by
  cases m with
  | none => rw [show D = .map [] from h]; intro s hs; simp [has] at hs
  | some b => exact owns_ints (b := b) h
theorem has_look {D : DU} (h : Ints D) (s : List UInt8) : has D (.string s) = (look D s).isSome := by
  cases hh : has D (.string s) with
  | true =>
    obtain ⟨n, hn⟩ := h s hh
    unfold look; rw [hn .nil]; rfl
  | false =>
    unfold look; rw [atKey_of_not_has hh]; rfl
theorem look_some {D : DU} (h : Ints D) {s : List UInt8} {n : Int} (hl : look D s = some n) (z : DU) : D.atKey (.string s) z = .lit (.int .i64 n) := by
  have hh : has D (.string s) = true := by rw [has_look h, hl]; rfl
  obtain ⟨m, hm⟩ := h s hh
  unfold look at hl
  rw [hm .nil] at hl
  cases hl
  exact hm z

/-! ### the state -/
structure DS where
  L : List Tx
  S : List Nat
  K : List Nat
  done : Bool
  mu : Int
structure Rp where
  tv : Value
  nm : Option Nat
  sv : Value
  kv : Value
  D : DU

def encT (t : Tx) : Value := .string ⟨t.toArray⟩
def encN (n : Nat) : Value := .int .i64 n
def oneN (b : Bool) : Int := if b then 1 else 0
def dcells (S : DS) (R : Rp) : Array Value := #[R.tv, .map R.nm, .int .u32 (oneN S.done), .int .i32 S.mu, .int .u32 0, R.sv, R.kv]
def numI (L : List Tx) (t : Tx) : Option Int := (num L t).map fun n => (n : Int)

structure At (w : World) (d : Nat) (R : Rp) (S : DS) : Prop where
  blk : Blk w d 101 (dcells S R)
  texts : w.ownsRow 0 9 1 R.tv S.L.length (S.L.map encT)
  names : MapAt w Try.prog 9 (plainElem Try.prog 3) R.nm R.D
  lk : ∀ t, look R.D t = numI S.L t
  sz : Maps.size R.D ≤ S.L.length
  sorted : w.ownsRow 0 3 1 R.sv S.S.length (S.S.map encN)
  ranks : w.ownsRow 0 3 1 R.kv S.K.length (S.K.map encN)
  ap : ∀ k, R.sv.ownBlock = some k → R.kv.ownBlock ≠ some k

/-- The blocks that are the dictionary's. -/
def foot (d : Nat) (R : Rp) (k : Nat) : Prop := k = d ∨ R.nm = some k ∨ R.tv.ownBlock = some k ∨ R.sv.ownBlock = some k ∨ R.kv.ownBlock = some k

theorem At.of {w w' : World} {d : Nat} {R : Rp} {S : DS} (h : At w d R S) (hk : ∀ k, foot d R k → w'.heap[k]? = w.heap[k]?) : At w' d R S where
  blk := h.blk.of (hk _ (.inl rfl))
  texts := own_of h.texts fun b hb => hk _ (.inr (.inr (.inl hb)))
  names := h.names.of fun b hb => hk _ (.inr (.inl hb))
  lk := h.lk
  sz := h.sz
  sorted := own_of h.sorted fun b hb => hk _ (.inr (.inr (.inr (.inl hb))))
  ranks := own_of h.ranks fun b hb => hk _ (.inr (.inr (.inr (.inr hb))))
  ap := h.ap
theorem At.lt {w : World} {d : Nat} {R : Rp} {S : DS} (h : At w d R S) : ∀ k, foot d R k → k < w.heap.size := by
  intro k hk
  rcases hk with rfl | hk | hk | hk | hk
  · exact h.blk.lt
  · exact h.names.lt k hk
  · exact (h.texts.lt k hk).2
  · exact (h.sorted.lt k hk).2
  · exact (h.ranks.lt k hk).2
theorem At.fr {w w' : World} {d : Nat} {R : Rp} {S : DS} (h : At w d R S) {F : Nat → Prop} (hf : Fr F w w') (hd : ∀ k, F k → ¬ foot d R k) : At w' d R S :=
  h.of fun k hk => hf.block k (h.lt k hk) fun hF => hd k hF hk
theorem At.keep {w w' : World} {d : Nat} {R : Rp} {S : DS} (h : At w d R S) (hf : Fr No w w') : At w' d R S := h.fr hf fun _ hF => hF.elim
theorem At.drewN {w : World} {d : Nat} {R : Rp} {S : DS} (h : At w d R S) (n : Nat) : At (w.drewN n) d R S := h.keep ((Fr.refl _ _).drewN n)
theorem At.below {w w' : World} {d : Nat} {R : Rp} {S : DS} (h : At w d R S) (hb : Below w.heap.size w w') : At w' d R S := h.keep (Fr.of_below hb)

/-- d's own block, the rows' and the map's are apart. -/
theorem At.apart {w : World} {d : Nat} {R : Rp} {S : DS} (h : At w d R S) :
    R.nm ≠ some d ∧ R.tv.ownBlock ≠ some d ∧ R.sv.ownBlock ≠ some d ∧ R.kv.ownBlock ≠ some d ∧
    (∀ k, R.nm = some k → R.tv.ownBlock ≠ some k ∧ R.sv.ownBlock ≠ some k ∧ R.kv.ownBlock ≠ some k) ∧
    (∀ k, R.tv.ownBlock = some k → R.sv.ownBlock ≠ some k ∧ R.kv.ownBlock ≠ some k) := by
  have hb := h.blk
  have mp : ∀ {k : Nat} {cs : Array Value} {t : TypeId} {fz : Nat × Nat}, R.nm = some k → w.heap[k]? = some (.cells cs t fz) → False := by
    intro k cs t fz hk hc
    have hm := h.names
    rw [hk] at hm
    obtain ⟨es, c, he⟩ := owns_map (b := k) hm
    exact map_ne_blk he hc rfl
  refine ⟨fun e => mp e hb, fun e => own_blk_ne h.texts e hb (by decide) rfl, fun e => own_blk_ne h.sorted e hb (by decide) rfl, fun e => own_blk_ne h.ranks e hb (by decide) rfl, fun k hk => ?_, fun k hk => ?_⟩
  · refine ⟨fun e => ?_, fun e => ?_, fun e => ?_⟩
    · obtain ⟨cur, hc⟩ := own_row h.texts e; exact mp hk hc
    · obtain ⟨cur, hc⟩ := own_row h.sorted e; exact mp hk hc
    · obtain ⟨cur, hc⟩ := own_row h.ranks e; exact mp hk hc
  · exact ⟨fun e => own_own_ne h.texts hk h.sorted e (by decide) rfl, fun e => own_own_ne h.texts hk h.ranks e (by decide) rfl⟩

/-- d alone -/
def One (d k : Nat) : Prop := k = d
theorem Fr.set1 {d : Nat} {a w : World} (h : Fr (One d) a w) (i : Nat) (u : Value) : Fr (One d) a (w.setCell ⟨d, i, none⟩ u) := h.setCell (p := ⟨d, i, none⟩) (fun _ => rfl) u
theorem Fr.set0 (d : Nat) (w : World) (i : Nat) (u : Value) : Fr (One d) w (w.setCell ⟨d, i, none⟩ u) := (Fr.refl _ w).set1 i u

/-- Only d's own block has turned. -/
theorem At.own {w w' : World} {d : Nat} {R : Rp} {S S' : DS} (h : At w d R S) (hf : Fr (One d) w w') (hb : Blk w' d 101 (dcells S' R)) (e1 : S'.L = S.L) (e2 : S'.S = S.S) (e3 : S'.K = S.K) : At w' d R S' := by
  obtain ⟨a1, a2, a3, a4, _, _⟩ := h.apart
  have hk : ∀ k, foot d R k → k ≠ d → w'.heap[k]? = w.heap[k]? := fun k hk hn => hf.block k (h.lt k hk) hn
  exact {
    blk := hb
    texts := by rw [e1]; exact own_of h.texts fun b hb => hk _ (.inr (.inr (.inl hb))) (fun e => a2 (e ▸ hb))
    names := h.names.of fun b hb => hk _ (.inr (.inl hb)) (fun e => a1 (e ▸ hb))
    lk := by rw [e1]; exact h.lk
    sz := by rw [e1]; exact h.sz
    sorted := by rw [e2]; exact own_of h.sorted fun b hb => hk _ (.inr (.inr (.inr (.inl hb)))) (fun e => a3 (e ▸ hb))
    ranks := by rw [e3]; exact own_of h.ranks fun b hb => hk _ (.inr (.inr (.inr (.inr hb)))) (fun e => a4 (e ▸ hb))
    ap := h.ap }

/-- What a call leaves: the dictionary, in its own blocks and in new ones. -/
def Post (d : Nat) (R : Rp) (w : World) (S' : DS) (w' : World) : Prop := ∃ R', At w' d R' S' ∧ Fr (foot d R) w w' ∧ ∀ k, foot d R' k → foot d R k ∨ w.heap.size ≤ k
theorem Post.refl {w : World} {d : Nat} {R : Rp} {S : DS} (h : At w d R S) : Post d R w S w := ⟨R, h, Fr.refl _ _, fun _ hk => .inl hk⟩
theorem Post.keep {w w' : World} {d : Nat} {R : Rp} {S : DS} (h : At w d R S) (hf : Fr No w w') : Post d R w S w' := ⟨R, h.keep hf, hf.any, fun _ hk => .inl hk⟩

theorem At.cells {w : World} {d : Nat} {R : Rp} {S : DS} (h : At w d R S) : w.cell? ⟨d, 0, none⟩ = some R.tv ∧ w.cell? ⟨d, 1, none⟩ = some (.map R.nm) ∧ w.cell? ⟨d, 2, none⟩ = some (.int .u32 (oneN S.done)) ∧ w.cell? ⟨d, 3, none⟩ = some (.int .i32 S.mu) ∧ w.cell? ⟨d, 4, none⟩ = some (.int .u32 0) ∧ w.cell? ⟨d, 5, none⟩ = some R.sv ∧ w.cell? ⟨d, 6, none⟩ = some R.kv :=
  ⟨h.blk.cell 0, h.blk.cell 1, h.blk.cell 2, h.blk.cell 3, h.blk.cell 4, h.blk.cell 5, h.blk.cell 6⟩

/-! ### what is always so -/
structure WF (S : DS) : Prop where
  nd : S.L.Nodup
  le : S.L.length ≤ 4096
  tx : ∀ t ∈ S.L, t.length ≤ 64
  sp : S.S.Perm (List.range S.S.length)
  sl : S.S.length ≤ S.L.length
  kl : S.K.length ≤ 4096
  dn : S.done = true → Ord S.L S.S ∧ Rks S.S S.K
  mu : S.mu = 0
def DS.new : DS := ⟨[], [], [], false, 0⟩
theorem WF.new : WF .new := ⟨List.nodup_nil, Nat.zero_le _, by simp [DS.new], by simp [DS.new], Nat.le_refl _, Nat.zero_le _, by simp [DS.new], rfl⟩
/-- One more. -/
def DS.add (S : DS) (t : Tx) : DS := { S with L := S.L ++ [t], done := false, mu := 0 }
theorem WF.add {S : DS} (h : WF S) {t : Tx} (ht : t ∉ S.L) (hl : t.length ≤ 64) (hn : S.L.length < 4096) : WF (S.add t) where
  nd := by
    show (S.L ++ [t]).Nodup
    rw [List.nodup_append]
    exact ⟨h.nd, by simp, by intro a ha b hb; rw [List.mem_singleton.1 hb]; rintro rfl; exact ht ha⟩
  le := by show (S.L ++ [t]).length ≤ 4096; simp; omega
  tx := by
    intro s hs
    rcases List.mem_append.1 (show s ∈ S.L ++ [t] from hs) with hs | hs
    · exact h.tx s hs
    · rw [List.mem_singleton.1 hs]; exact hl
  sp := h.sp
  sl := by show S.S.length ≤ (S.L ++ [t]).length; have := h.sl; simp; omega
  kl := h.kl
  dn := by simp [DS.add]
  mu := rfl
end Go.Proofs.Ytmaeejojmbibnaa
