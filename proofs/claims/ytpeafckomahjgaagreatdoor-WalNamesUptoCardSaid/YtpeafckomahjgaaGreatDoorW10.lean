/- Opening a log: all segments are read. -/
import Derived.Test.YtpeafckomahjgaaGreatDoorW9
namespace Go.Proofs.YtpeafckomahjgaaGreatDoor
open Go.RowKit Go.Maps
set_option linter.unusedVariables false

theorem Grow.keepG {b : Nat} {w w' : World} {v : Value} {l : List RcP} (h : Grow b 52 2 recG w v l) {F : Nat → Prop} (hf : Fr F w w') (hF : ∀ k, v.ownBlock = some k → ¬ F k) : Grow b 52 2 recG w' v l := by
  obtain ⟨K, xs, ho, hel, hK⟩ := h
  refine ⟨K, xs, own_of ho fun k hk => hf.block k (ho.lt k hk).2 (hF k hk), fun j hj => ?_, fun k hk => ?_⟩
  · obtain ⟨cs, h1, h2, h3⟩ := hel j hj
    exact ⟨cs, h1, h2, h3⟩
  · obtain ⟨h1, h2, h3⟩ := hK k hk
    exact ⟨h1, Nat.lt_of_lt_of_le h2 hf.size, h3⟩
theorem Lg.dk {w : World} {X : Nat → Prop} {d g N : Nat} {S : AS} {L : LS} (h : Lg w X d g N S L) : Dk w X d N S := by
  obtain ⟨fv, h1, h2, h3, h4⟩ := h.log
  exact h2.less fun k hk => .inl hk
theorem Lg.base {w : World} {X : Nat → Prop} {d g N : Nat} {S : AS} {L : LS} (h : Lg w X d g N S L) : ∀ k, X k → k < w.heap.size := h.dk.base
/-- What is new joins the law's own. -/
theorem Lg.grow {w w' : World} {X Y F : Nat → Prop} {d g N : Nat} {S : AS} {L : LS} (h : Lg w X d g N S L) (hf : Fr F w w') (hF : ∀ k, F k → X k ∧ 4 ≤ k) (hXY : ∀ k, X k → Y k) (hY : ∀ k, Y k → k < w'.heap.size ∧ (X k ∨ w.heap.size ≤ k)) : Lg w' Y d g N S L := by
  obtain ⟨fv, h1, h2, h3, h4⟩ := h.log
  have hnX : ∀ k, (k = g ∨ fv.ownBlock = some k) → ¬ X k := fun k hk hx => by
    rcases hk with rfl | hk
    · exact h3 hx
    · exact h4 k hk hx
  have hnY : ∀ k, (k = g ∨ fv.ownBlock = some k) → ¬ Y k := fun k hk hy => by
    rcases (hY k hy).2 with hx | hx
    · exact hnX k hk hx
    · have := h1.lt k hk; omega
  refine ⟨h.vr.of fun k hk => hf.block k (by have := h.vr.lt; omega) fun e => by have := (hF k e).2; omega, fun k hk => hXY k (h.lo k hk), ⟨fv, h1.of fun k hk => hf.block k (h1.lt k hk) fun e => hnX k hk (hF k e).1, ?_, hnY g (.inl rfl), fun k hk => hnY k (.inr hk)⟩, h.ok, h.big⟩
  refine h2.grow (hf.mono fun k _ hk => .inl (hF k hk).1) fun k hk => ?_
  rcases hk with hk | hk
  · rcases hY k hk with ⟨e1, e2 | e2⟩
    · exact ⟨e1, .inl (.inl e2)⟩
    · exact ⟨e1, .inr e2⟩
  · exact ⟨Nat.lt_of_lt_of_le (h1.lt k hk) hf.size, .inl (.inr hk)⟩
theorem lg_list {w : World} {X : Nat → Prop} {d g N : Nat} {S : AS} {L : LS} (h : Lg w X d g N S L) (hon : S.on = true) :
    Calls Tryz.prog 44 #[dkp d] w fun e w' => ∃ A c, e = .returned (.slice A (sortedKeys S.names).length c) ∧ w'.ownsRow w.heap.size 9 1 (.slice A (sortedKeys S.names).length c) (sortedKeys S.names).length ((sortedKeys S.names).map encStr) ∧ Fr No w w' := by
  obtain ⟨fv, hL, hk, h3, h4⟩ := h.log
  exact x_list hk hon

theorem numW_name (s : List UInt8) (h : 0 < numW s) : numW s ≤ 99999999 := by
  unfold numW at h ⊢
  split at h
  · rename_i v hv
    split at h
    · rename_i hs
      simp only [hs, if_true]
      by_cases hb : v ≤ 99999999
      · exact hb
      · exfalso
        have he : nameW v = [] := by unfold nameW; rw [if_pos (.inr (by omega))]
        rw [he] at hs
        subst hs
        have ha : (match Lib.atoiAll (Lib.trimPrefix [] walL) with | .ok _ => true | _ => false) = false := by rfl
        rw [hv] at ha
        exact nomatch ha
    · omega
  · omega
theorem segsW_bd (ns : List (List UInt8)) : ∀ m ∈ segsW ns, 1 ≤ m ∧ m ≤ 99999999 := by
  intro m hm
  unfold segsW at hm
  obtain ⟨h1, h2⟩ := List.mem_filter.1 hm
  obtain ⟨s, hs, rfl⟩ := List.mem_map.1 h1
  have hp : 0 < numW s := by simpa using h2
  exact ⟨hp, numW_name s hp⟩

abbrev LdP := List RcP × LS × Bool
def lastSeq (rs : List RcP) : Int := match rs.getLast? with | some q => q.seq | none => 0
def loadStep (S : AS) (first : Bool) (x : LdP) (m : Int) : Except Int LdP :=
  if first = false ∧ m ≠ x.2.1.number + 1 then .error 24
  else if x.2.2 = true then .error 24
  else if (S.read (nameW m)).2 ≠ 0 then .error (S.read (nameW m)).2
  else match scanW ((S.read (nameW m)).1.length + 1) x.1 (S.read (nameW m)).1 0 with
    | none => .error 24
    | some (rs, at_) => .ok (rs, { x.2.1 with size := at_, number := m, files := x.2.1.files ++ [⟨m, if x.1.length < rs.length then lastSeq rs else 0⟩] }, decide (at_ < (S.read (nameW m)).1.length))
def loadW (S : AS) : Bool → LdP → List Int → Except Int LdP
  | _, x, [] => .ok x
  | first, x, m :: ms => match loadStep S first x m with
    | .error e => .error e
    | .ok y => loadW S false y ms
def LoadP (X : Nat → Prop) (d g N : Nat) (S : AS) (w : World) (R : Except Int LdP) (e : Ending) (w' : World) : Prop :=
  (∀ x, R = .ok x → ∃ A c X1 b1, e = .returned (.tuple #[.slice A x.1.length c, .bool x.2.2]) ∧ (∀ k, X k → X1 k) ∧ Lg w' X1 d g N S x.2.1 ∧ Grow b1 52 2 recG w' (.slice A x.1.length c) x.1 ∧ w.heap.size ≤ b1 ∧ (∀ k, (Value.slice A x.1.length c).ownBlock = some k → X1 k ∧ w.heap.size ≤ k)) ∧
    (∀ n, R = .error n → e = .panicked [{ v := given n, recovered := false }]) ∧ Dk w' X d N S ∧ Vr w' ∧ Fr (fun k => ¬ X k) w w'
theorem read_len {N : Nat} {S : AS} (h : Inv N S) (l : List UInt8) : (S.read l).1.length ≤ 16777216 := by
  unfold AS.read
  split
  · split
    · split
      · rename_i r hr
        exact (h.file _ _ hr).2.2.2
      · simp
    · simp
  · simp
/-- What is read is counted. -/
theorem scanW_len : ∀ (k : Nat) (rs : List RcP) (D : List UInt8) (a : Nat) (rs' : List RcP) (a' : Nat), a ≤ D.length → scanW k rs D a = some (rs', a') → rs'.length * 8 + a ≤ rs.length * 8 + a' ∧ a' ≤ D.length ∧ rs.length ≤ rs'.length
  | 0, rs, D, a, rs', a', h, e => by
    rw [scanW] at e
    obtain ⟨rfl, rfl⟩ := Prod.mk.inj (Option.some.inj e)
    omega
  | k + 1, rs, D, a, rs', a', h, e => by
    by_cases hlt : a < D.length
    · rw [scanW_step hlt] at e
      split at e
      · obtain ⟨rfl, rfl⟩ := Prod.mk.inj (Option.some.inj e)
        omega
      · split at e
        · exact nomatch e
        · rename_i h0
          split at e
          · exact nomatch e
          · split at e
            · obtain ⟨h1, h2, h3⟩ := unfR_size (D.drop a) (by simpa using h0)
              rw [List.length_drop] at h2
              have := scanW_len k _ D _ rs' a' (by omega) e
              rw [List.length_append, List.length_singleton] at this
              omega
            · exact nomatch e
    · rw [scanW_end hlt] at e
      obtain ⟨rfl, rfl⟩ := Prod.mk.inj (Option.some.inj e)
      omega
end Go.Proofs.YtpeafckomahjgaaGreatDoor
