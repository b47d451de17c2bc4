/- Texts as one text: no two lists are the same; rows by their keys, in memory. -/
import Derived.Test.YtlpglijikmnopaaGreatDoorUG3
import Derived.Maps.OwnOps
namespace Go.Proofs.YtlpglijikmnopaaGreatDoor
open Go.RowKit Go.Maps Go.Sort
set_option linter.unusedVariables false

def valD (l : Tx) : Nat := l.foldl (fun a c => a * 10 + (c.toNat - 48)) 0
theorem dec_valD (u : Nat) : valD (Lib.decDigits u) = u := by
  induction u using Nat.strongRecOn with
  | _ u ih =>
    by_cases h : u < 10
    · rw [Lib.decDigits, dif_pos h]
      unfold valD
      simp only [List.foldl_cons, List.foldl_nil, UInt8.toNat_ofNat']
      omega
    · rw [Lib.decDigits, dif_neg h]
      have h1 := ih (u / 10) (by omega)
      unfold valD at *
      rw [List.foldl_append, h1]
      simp only [List.foldl_cons, List.foldl_nil, UInt8.toNat_ofNat']
      omega
theorem dec_no32 (u : Nat) : ∀ c ∈ Lib.decDigits u, c ≠ 32 := by
  induction u using Nat.strongRecOn with
  | _ u ih =>
    by_cases h : u < 10
    · rw [Lib.decDigits, dif_pos h]
      intro c hc
      simp only [List.mem_singleton] at hc
      subst hc
      intro e
      have := congrArg UInt8.toNat e
      simp only [UInt8.toNat_ofNat'] at this
      have e32 : (32 : UInt8).toNat = 32 := rfl
      omega
    · rw [Lib.decDigits, dif_neg h]
      intro c hc
      rcases List.mem_append.1 hc with hc | hc
      · exact ih (u / 10) (by omega) c hc
      · simp only [List.mem_singleton] at hc
        subst hc
        intro e
        have := congrArg UInt8.toNat e
        simp only [UInt8.toNat_ofNat'] at this
        have e32 : (32 : UInt8).toNat = 32 := rfl
        omega
theorem itoa_nat (u : Nat) : Lib.itoa (u : Int) = Lib.decDigits u := by unfold Lib.itoa; rw [if_neg (by omega)]; simp
theorem itoa_inj {a b : Nat} (h : Lib.itoa (a : Int) = Lib.itoa (b : Int)) : a = b := by
  rw [itoa_nat, itoa_nat] at h
  have := congrArg valD h
  rwa [dec_valD, dec_valD] at this
theorem split32 : ∀ (a b x y : Tx), (∀ c ∈ a, c ≠ 32) → (∀ c ∈ b, c ≠ 32) → a ++ 32 :: x = b ++ 32 :: y → a = b ∧ x = y
  | [], [], x, y, _, _, h => ⟨rfl, by simpa using h⟩
  | [], c :: b, x, y, _, h2, h => by
    injection h with h3 _
    exact absurd h3.symm (h2 c (by simp))
  | c :: a, [], x, y, h1, _, h => by
    injection h with h3 _
    exact absurd h3 (h1 c (by simp))
  | c :: a, d :: b, x, y, h1, h2, h => by
    injection h with h3 h4
    obtain ⟨e1, e2⟩ := split32 a b x y (fun c hc => h1 c (by simp [hc])) (fun c hc => h2 c (by simp [hc])) h4
    exact ⟨by rw [h3, e1], e2⟩
theorem jnT_cons (s : Tx) (l : List Tx) : jnT (s :: l) = Lib.itoa (s.length : Nat) ++ 32 :: (s ++ jnT l) := by unfold jnT; simp
theorem jnT_inj : ∀ (l m : List Tx), jnT l = jnT m → l = m
  | [], [], _ => rfl
  | [], t :: m, h => by rw [jnT_cons] at h; simp [jnT] at h
  | s :: l, [], h => by rw [jnT_cons] at h; simp [jnT] at h
  | s :: l, t :: m, h => by
    rw [jnT_cons, jnT_cons] at h
    obtain ⟨e1, e2⟩ := split32 _ _ _ _ (by rw [itoa_nat]; exact dec_no32 _) (by rw [itoa_nat]; exact dec_no32 _) h
    obtain ⟨e3, e4⟩ := List.append_inj e2 (itoa_inj e1)
    rw [e3, jnT_inj l m e4]

/-! ### a map from texts to numbers -/
abbrev DUc := DataW Unit
def numE (v : Value) : Option (DUc × List MemPlace) := match v with
  | .int .i64 i => some (.lit (.int .i64 i), [])
  | _ => none
theorem numE_mk (i : Int) : numE (.int .i64 i) = some (.lit (.int .i64 i), []) := rfl
theorem numE_inv {v : Value} {z : DUc × List MemPlace} (h : numE v = some z) : ∃ i, v = .int .i64 i ∧ z = (.lit (.int .i64 i), []) := by
  unfold numE at h
  split at h
  · exact ⟨_, rfl, (Option.some.inj h).symm⟩
  · cases h
abbrev Fm := Tx → Option Int
def putM (F : Fm) (t : Tx) (x : Int) : Fm := fun u => if u = t then some x else F u
/-- A block is a map. -/
def MapI (w : World) (b n : Nat) (F : Fm) : Prop := ∃ D : DUc, w.ownsMap Tryz.prog 9 numE b n D ∧ Tidy D ∧ ∀ t, Maps.has D (.string t) = (F t).isSome ∧ ∀ i, F t = some i → ∀ z, D.atKey (.string t) z = .lit (.int .i64 i)
theorem keyc (l : Tx) (hl : l.length ≤ maxLen) : keyOf Tryz.prog 9 (sv l) = some (.string l) := by
  have := WideMaps.keyOf_string_mk (P := Tryz.prog) (k := 9) Tryz.underlying9 (s := ⟨l.toArray⟩) (by simpa [ByteArray.size] using hl)
  simpa using this
theorem MapI.lt {w : World} {b n : Nat} {F : Fm} (h : MapI w b n F) : b < w.heap.size := by
  obtain ⟨D, ho, _⟩ := h
  exact ho.lt
theorem MapI.of {w w' : World} {b n : Nat} {F : Fm} (h : MapI w b n F) (e : w'.heap[b]? = w.heap[b]?) : MapI w' b n F := by
  obtain ⟨D, ho, h⟩ := h
  refine ⟨D, ?_, h⟩
  obtain ⟨es, clock, h1, h2⟩ := ho
  exact ⟨es, clock, e.trans h1, h2⟩
theorem MapI.new (w : World) : MapI (w.alloc (.map #[] 0)) w.heap.size 0 (fun _ => none) :=
  ⟨.map [], World.ownsMap_made w Tryz.prog 9 numE, Maps.tidy_empty, fun t => ⟨rfl, fun i h => by cases h⟩⟩
theorem MapI.put {w : World} {b n : Nat} {F : Fm} (h : MapI w b n F) (hn : n < maxLen) (t : Tx) (ht : t.length ≤ maxLen) (i : Int) :
    ∃ w', (Instr.mapUpdate 109 (.map (some b)) (sv t) (.int .i64 i)).run Tryz.prog w = .ok () w' ∧ MapI w' b (n + 1) (putM F t i) ∧ Fr (fun k => k = b) w w' := by
  obtain ⟨D, ho, htd, hF⟩ := h
  obtain ⟨w', hrun, h1, h2⟩ := ho.store (string_keyed Tryz.underlying9) Tryz.underlying109 hn (keyc t ht) (numE_mk i)
  have hkl : WideAt.IsKeyLit (.string t) := trivial
  refine ⟨w', hrun, ⟨_, h1, htd.put hkl _, fun u => ?_⟩, (Fr.refl _ w).grown h2.grown fun k hk _ => (Option.some.inj hk).symm⟩
  unfold putM
  by_cases hu : u = t
  · subst hu
    rw [if_pos rfl]
    refine ⟨by rw [Maps.has_put_same htd.isMap hkl]; rfl, fun i' e z => ?_⟩
    obtain rfl := Option.some.inj e
    exact Maps.atKey_put_same htd.isMap hkl _ _
  · rw [if_neg hu]
    have hne : (Lit.string u) ≠ .string t := fun e => hu (by injection e)
    exact ⟨by rw [Maps.has_put_other hne]; exact (hF u).1, fun i' e z => by rw [Maps.atKey_put_other hne]; exact (hF u).2 i' e z⟩
theorem zero3 (w : World) : (zeroValue 3).run Tryz.prog w = .ok (.int .i64 0) w := by kernel_rfl
theorem MapI.look {w : World} {b n : Nat} {F : Fm} (h : MapI w b n F) (t : Tx) (ht : t.length ≤ maxLen) :
    (Instr.lookup 109 (.map (some b)) (sv t) true).run Tryz.prog w = .ok (.tuple #[.int .i64 ((F t).getD 0), .bool (F t).isSome]) w := by
  obtain ⟨D, ho, htd, hF⟩ := h
  obtain ⟨v, ps, hrun, hv⟩ := ho.look_ok (string_keyed Tryz.underlying9) Tryz.underlying109 (zero3 w) (numE_mk 0) (keyc t ht)
  obtain ⟨i, rfl, hz⟩ := numE_inv hv
  rw [hrun, (hF t).1]
  have hat := congrArg Prod.fst hz
  simp only at hat
  cases hf : F t with
  | none =>
    have hh : Maps.has D (.string t) = false := by rw [(hF t).1, hf]; rfl
    rw [Maps.atKey_of_not_has hh] at hat
    simp only [DataW.lit.injEq, Lit.int.injEq, true_and] at hat
    subst hat
    rfl
  | some x =>
    rw [(hF t).2 x hf] at hat
    simp only [DataW.lit.injEq, Lit.int.injEq, true_and] at hat
    subst hat
    rfl
end Go.Proofs.YtlpglijikmnopaaGreatDoor
