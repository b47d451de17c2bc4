/- What a disk holds, name by name (no program here). -/
import Derived.Test.YtlopbhamlhmpbaaC8
namespace Go.Proofs.Ytlopbhamlhmpbaa
open Go.RowKit Go.Maps Go.Sort
set_option linter.unusedVariables false

theorem same_str (z : Lit) (s : List UInt8) : z.sameKey (.string s) = true ↔ z = .string s := by
  cases z <;> simp [Lit.sameKey]

/-- The bytes under a name. -/
def AS.cont (S : AS) (l : List UInt8) : Option (List UInt8) :=
  match look S.names l with
  | some n => match S.file n with
    | some r => some r.bytes
    | none => none
  | none => none
def flk (f : Int → Option FR) (D : DU) (s : List UInt8) : Int :=
  match look D s with
  | some n => match f n with
    | some r => r.bytes.length
    | none => 0
  | none => 0

theorem has_string {D : DU} (c : CanonK KO D) {z : Lit} (h : has D z = true) : ∃ s, z = .string s := by
  obtain ⟨es, rfl, hp, hk⟩ := c
  rw [has_eq, List.any_eq_true] at h
  obtain ⟨p, hpm, hs⟩ := h
  obtain ⟨key, hkey⟩ := hk p hpm
  obtain ⟨s, e⟩ := key_string hkey
  rw [e] at hs
  cases z <;> simp [Lit.sameKey] at hs
  exact ⟨_, rfl⟩
theorem used_keys_left {f : Int → Option FR} {D : DU} (ht : Tidy D) (hi : Ints D) (href : ∀ l n, look D l = some n → ∃ r, f n = some r) : ∀ ks : List (List UInt8), ks.Nodup →
    leftSum f D (fun z => has D z && ks.any (fun s => z.sameKey (.string s))) = (ks.map (flk f D)).sum
  | [], _ => by
    simp only [List.any_nil, Bool.and_false]
    exact leftSum_end f D fun _ => rfl
  | s :: ks, hn => by
    have ih := used_keys_left ht hi href ks (List.nodup_cons.1 hn).2
    have hs := (List.nodup_cons.1 hn).1
    rw [List.map_cons, List.sum_cons, ← ih]
    cases hl : look D s with
    | none =>
      have h0 : flk f D s = 0 := by unfold flk; rw [hl]
      rw [h0, Int.zero_add]
      congr 1
      funext z
      rw [List.any_cons]
      cases hz : z.sameKey (.string s) with
      | false => rfl
      | true =>
        have e := (same_str z s).1 hz
        subst e
        have : has D (.string s) = false := by rw [has_look hi, hl]; rfl
        rw [this]; rfl
    | some n =>
      obtain ⟨r, hr⟩ := href s n hl
      have h0 : flk f D s = r.bytes.length := by unfold flk; rw [hl]; simp only [hr]
      rw [h0, leftSum_step f ht _ (.string s) (isKey s) (by rw [has_look hi, hl]; simp [Lit.sameKey]) (look_some hi hl) hr]
      congr 2
      funext z
      rw [List.any_cons]
      cases hz : z.sameKey (.string s) with
      | false => simp
      | true =>
        have e := (same_str z s).1 hz
        subst e
        have : (ks.any fun t => (Lit.string s).sameKey (.string t)) = false := by
          rw [List.any_eq_false]
          intro t ht e
          have := (same_str _ _).1 e
          cases this
          exact hs ht
        rw [this]
        simp
theorem used_keys {f : Int → Option FR} {D : DU} (g : Good f D) {ks : List (List UInt8)} (hn : ks.Nodup) (hc : ∀ l n, look D l = some n → l ∈ ks) : usedOf f D = (ks.map (flk f D)).sum := by
  rw [← used_keys_left g.tidy g.ints g.ref ks hn, ← leftSum_start f g.tidy fun es e p hp => by
    obtain ⟨es', e', _, hk⟩ := g.canon.canon law9.one
    rw [e] at e'
    cases e'
    exact hk p hp]
  congr 1
  funext z
  cases hz : has D z with
  | false => rfl
  | true =>
    obtain ⟨s, rfl⟩ := has_string g.canon hz
    rw [has_look g.ints] at hz
    obtain ⟨n, hl⟩ := Option.isSome_iff_exists.1 hz
    symm
    rw [Bool.true_and, List.any_eq_true]
    exact ⟨s, hc s n hl, (same_str _ _).2 rfl⟩

/-- What a write does, name by name. -/
structure Wrote (S S' : AS) (l data : List UInt8) : Prop where
  room : S'.room = S.room
  on : S'.on = S.on
  armed : S'.armed = S.armed
  now : ∃ n k, look S'.names l = some n ∧ S'.file n = some { bytes := (S.cont l).getD [] ++ data, firm := k }
  rest : ∀ s, s ≠ l → look S'.names s = look S.names s ∧ ∀ m, look S.names s = some m → S'.file m = S.file m
  sizes : Maps.size S'.names = Maps.size S.names + (if (look S.names l).isSome then 0 else 1) ∧ S'.last = S.last + (if (look S.names l).isSome then 0 else 1) ∧ S'.loose.length = S.loose.length + (if (look S.names l).isSome then 0 else 1)

theorem step_calm {S : AS} (h : S.armed = false) : S.step = { S with steps := wrap64 (S.steps + 1) } := by unfold AS.step; rw [h]; rfl
theorem stepE_calm {S : AS} (h : S.armed = false) : S.stepE = 0 := by unfold AS.stepE; rw [h]; rfl

theorem wrote {N : Nat} {S : AS} (hi : Inv N S) (ha : S.armed = false) {l data : List UInt8} (hE : checkOf S.on [l] = 0) (hful : ¬ S.room < usedOf S.file S.names + data.length) (h64 : ¬ 64 ≤ Maps.size S.names) :
    (S.write l data).2 = 0 ∧ Wrote S (S.write l data).1 l data := by
  unfold AS.write
  rw [if_pos hE, if_neg hful]
  cases hn : look S.names l with
  | some n =>
    obtain ⟨r, hr⟩ := hi.names.ref l n hn
    simp only [hr]
    refine ⟨stepE_calm ha, ?_⟩
    rw [step_calm (S := S.written n r data) ha]
    refine ⟨rfl, rfl, rfl, ⟨n, r.firm, hn, ?_⟩, fun s hs => ⟨rfl, fun m hm => ?_⟩, by rw [hn]; exact ⟨rfl, (Int.add_zero _).symm, rfl⟩⟩
    · show upd S.file n _ n = _
      rw [upd_same]
      unfold AS.cont
      rw [hn]
      simp only [hr, Option.getD_some]
    · show upd S.file n _ m = _
      rw [upd_other]
      rintro rfl
      exact hs (hi.names.inj s l m hm hn)
  | none =>
    simp only
    rw [if_neg h64]
    have hne : l ≠ [] := by intro e; subst e; have := checkOf_ok hE; simp [nameOk] at this
    have hno : has S.names (.string []) = false := by
      rw [has_look hi.names.ints]
      cases hx : look S.names [] with
      | none => rfl
      | some m => have := hi.names.ok _ _ hx; simp [nameOk] at this
    have e : ((S.made l).written (S.last + 1) { bytes := [], firm := 0 } data).names = S.names.put (.string l) (.lit (.int .i64 (S.last + 1))) := by
      show (Ch.mk [] l (S.last + 1)).app S.names = _
      unfold Ch.app; simp only; rw [if_neg hne, del_of_not_has hno]
    refine ⟨stepE_calm ha, ?_⟩
    rw [step_calm (S := (S.made l).written (S.last + 1) { bytes := [], firm := 0 } data) ha]
    have hh : has S.names (.string l) = false := by rw [has_look hi.names.ints, hn]; rfl
    refine ⟨rfl, rfl, rfl, ⟨S.last + 1, 0, ?_, ?_⟩, fun s hs => ⟨?_, fun m hm => ?_⟩, ?_⟩
    · show look ((S.made l).written (S.last + 1) { bytes := [], firm := 0 } data).names l = _
      rw [e, look_put_same hi.names.isMap]
    · show upd _ (S.last + 1) _ (S.last + 1) = _
      rw [upd_same]
      unfold AS.cont
      rw [hn]
      rfl
    · show look ((S.made l).written (S.last + 1) { bytes := [], firm := 0 } data).names s = _
      rw [e, look_put_other hs]
    · have hm1 : m ≠ S.last + 1 := by
        obtain ⟨r, hr⟩ := hi.names.ref s m hm
        have := hi.file m r hr
        omega
      show upd (upd S.file (S.last + 1) _) (S.last + 1) _ m = _
      rw [upd_other _ _ hm1, upd_other _ _ hm1]
    · rw [hn]
      refine ⟨?_, rfl, ?_⟩
      · show Maps.size ((S.made l).written (S.last + 1) { bytes := [], firm := 0 } data).names = _
        rw [e, size_put hi.names.tidy, hh]
        rfl
      · show (S.loose ++ [_]).length = _
        simp

theorem cont_read {S : AS} {l : List UInt8} (hE : checkOf S.on [l] = 0) : S.read l = match S.cont l with | some b => (b, 0) | none => ([], 11) := by
  unfold AS.read AS.cont
  rw [if_pos hE]
  cases look S.names l with
  | none => rfl
  | some n => cases hr : S.file n with
    | none => simp only [hr]
    | some r => simp only [hr]
theorem Wrote.cont {S S' : AS} {l data : List UInt8} (h : Wrote S S' l data) : S'.cont l = some ((S.cont l).getD [] ++ data) := by
  obtain ⟨n, k, h1, h2⟩ := h.now
  unfold AS.cont
  rw [h1]
  simp only [h2]
  rfl
theorem flk_cont (S : AS) (s : List UInt8) : flk S.file S.names s = ((S.cont s).getD []).length := by
  unfold flk AS.cont
  cases look S.names s with
  | none => rfl
  | some n => cases hr : S.file n with
    | none => simp only [hr]; rfl
    | some r => simp only [hr]; rfl
theorem Wrote.other {S S' : AS} {l data : List UInt8} (h : Wrote S S' l data) {s : List UInt8} (hs : s ≠ l) : S'.cont s = S.cont s := by
  obtain ⟨h1, h2⟩ := h.rest s hs
  unfold AS.cont
  rw [h1]
  cases hl : look S.names s with
  | none => rfl
  | some m => simp only [h2 m hl]
theorem Wrote.flk {S S' : AS} {l data : List UInt8} (h : Wrote S S' l data) (s : List UInt8) : flk S'.file S'.names s = flk S.file S.names s + (if s = l then (data.length : Int) else 0) := by
  rw [flk_cont, flk_cont]
  by_cases e : s = l
  · subst e
    rw [h.cont, if_pos rfl]
    simp
  · rw [h.other e, if_neg e, Int.add_zero]
theorem sum_if (g : List UInt8 → Int) (l : List UInt8) (x : Int) : ∀ ks : List (List UInt8), ks.Nodup → (ks.map (fun s => g s + (if s = l then x else 0))).sum = (ks.map g).sum + (if l ∈ ks then x else 0)
  | [], _ => by simp
  | k :: ks, hn => by
    have ih := sum_if g l x ks (List.nodup_cons.1 hn).2
    have h1 := (List.nodup_cons.1 hn).1
    rw [List.map_cons, List.sum_cons, ih, List.map_cons, List.sum_cons]
    by_cases e : k = l
    · subst e
      rw [if_pos rfl, if_neg h1, if_pos (by simp)]
      omega
    · rw [if_neg e]
      by_cases hm : l ∈ ks
      · rw [if_pos hm, if_pos (by simp [hm])]; omega
      · rw [if_neg hm, if_neg (by simp [hm, Ne.symm e])]; omega
theorem Wrote.keys {S S' : AS} {l data : List UInt8} (h : Wrote S S' l data) {ks : List (List UInt8)} (hl : l ∈ ks) (hc : ∀ l n, look S.names l = some n → l ∈ ks) : ∀ s n, look S'.names s = some n → s ∈ ks := by
  intro s n hs
  by_cases e : s = l
  · subst e; exact hl
  · rw [(h.rest s e).1] at hs; exact hc s n hs
theorem Wrote.used {S S' : AS} {l data : List UInt8} (h : Wrote S S' l data) (g : Good S.file S.names) (g' : Good S'.file S'.names) {ks : List (List UInt8)} (hn : ks.Nodup) (hl : l ∈ ks) (hc : ∀ l n, look S.names l = some n → l ∈ ks) :
    usedOf S'.file S'.names = usedOf S.file S.names + data.length := by
  rw [used_keys g' hn (h.keys hl hc), used_keys g hn hc]
  have : (ks.map (Go.Proofs.Ytlopbhamlhmpbaa.flk S'.file S'.names)) = ks.map (fun s => Go.Proofs.Ytlopbhamlhmpbaa.flk S.file S.names s + (if s = l then (data.length : Int) else 0)) := List.map_congr_left fun s _ => h.flk s
  rw [this, sum_if _ _ _ ks hn, if_pos hl]

end Go.Proofs.Ytlopbhamlhmpbaa
