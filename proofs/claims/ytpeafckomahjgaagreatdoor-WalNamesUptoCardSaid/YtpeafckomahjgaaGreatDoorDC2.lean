/- What every disk keeps, whatever is done to it (no program here: plain lists and numbers). -/
import Derived.Test.YtpeafckomahjgaaGreatDoorDC1
namespace Go.Proofs.YtpeafckomahjgaaGreatDoor
open Go.RowKit Go.Maps Go.Sort
set_option linter.unusedVariables false

abbrev KO : Lit → Prop := KeysOf Tryz.prog 9
theorem ko_mk {l : List UInt8} (h : l.length ≤ maxLen) : KO (.string l) := ⟨_, key9 l h⟩

/-- A table of names as it may be. -/
structure Good (f : Int → Option FR) (D : DU) : Prop where
  canon : CanonK KO D
  ints : Ints D
  small : Maps.size D ≤ 64
  ref : ∀ l n, look D l = some n → ∃ r, f n = some r
  inj : ∀ l m n, look D l = some n → look D m = some n → l = m
  ok : ∀ l n, look D l = some n → nameOk l = true

theorem nameOk_len {l : List UInt8} (h : nameOk l = true) : 1 ≤ l.length ∧ l.length ≤ 32 := by
  unfold nameOk at h
  simp at h
  omega
theorem nameOk_max {l : List UInt8} (h : nameOk l = true) : l.length ≤ maxLen := by have := nameOk_len h; unfold maxLen; omega

theorem Good.tidy {f : Int → Option FR} {D : DU} (h : Good f D) : Tidy D := by
  obtain ⟨es, e, hp, _⟩ := h.canon
  exact ⟨es, e, apart_of_rising hp⟩
theorem Good.isMap {f : Int → Option FR} {D : DU} (h : Good f D) : IsMap D := h.tidy.isMap
theorem Good.mono {f f' : Int → Option FR} {D : DU} (h : Good f D) (hf : ∀ l n r, look D l = some n → f n = some r → ∃ r', f' n = some r') : Good f' D :=
  ⟨h.canon, h.ints, h.small, fun l n hl => by obtain ⟨r, hr⟩ := h.ref l n hl; exact hf l n r hl hr, h.inj, h.ok⟩
theorem good_empty (f : Int → Option FR) : Good f (.map []) :=
  ⟨⟨[], rfl, List.Pairwise.nil, (by intro p hp; cases hp)⟩, fun s hs => (by simp [has] at hs), (by simp [Maps.size]), fun l n h => (by cases h), fun l m n h => (by cases h), fun l n h => (by cases h)⟩

theorem canonK_del {D : DU} (h : CanonK KO D) (k : Lit) : CanonK KO (D.del k) := by
  obtain ⟨es, rfl, hp, hk⟩ := h
  exact ⟨_, rfl, hp.filter _, fun p hp => hk p (List.mem_filter.1 hp).1⟩

theorem ints_put {D : DU} (h : Ints D) (hm : IsMap D) (l : List UInt8) (n : Int) : Ints (D.put (.string l) (.lit (.int .i64 n))) := by
  intro s hs
  by_cases e : s = l
  · subst e; exact ⟨n, fun z => atKey_put_same hm (isKey s) _ z⟩
  · rw [has_put_other (key_ne e)] at hs
    obtain ⟨c, hc⟩ := h s hs
    exact ⟨c, fun z => by rw [atKey_put_other (key_ne e)]; exact hc z⟩
theorem ints_del {D : DU} (h : Ints D) (l : List UInt8) : Ints (D.del (.string l)) := by
  intro s hs
  by_cases e : s = l
  · subst e; rw [has_del_same] at hs; cases hs
  · rw [has_del_other (key_ne e)] at hs
    obtain ⟨c, hc⟩ := h s hs
    exact ⟨c, fun z => by rw [atKey_del_other (key_ne e)]; exact hc z⟩

/-- A new name for a new file. -/
theorem Good.make {f : Int → Option FR} {D : DU} (h : Good f D) {l : List UInt8} {n : Int} {r : FR} (hl : nameOk l = true) (hn : look D l = none) (hf : f n = none) (hs : Maps.size D < 64) :
    Good (upd f n (some r)) ((Ch.mk [] l n).app D) := by
  have hne : l ≠ [] := by intro e; subst e; simp [nameOk] at hl
  have hno : has D (.string []) = false := by
    rw [has_look h.ints]
    cases hx : look D [] with
    | none => rfl
    | some m => have := h.ok _ _ hx; simp [nameOk] at this
  have e : (Ch.mk [] l n).app D = D.put (.string l) (.lit (.int .i64 n)) := by
    unfold Ch.app; simp only; rw [if_neg hne, del_of_not_has hno]
  rw [e]
  have hm := h.isMap
  have hh : has D (.string l) = false := by rw [has_look h.ints, hn]; rfl
  have hlk : ∀ s m, look (D.put (.string l) (.lit (.int .i64 n))) s = some m → (s = l ∧ m = n) ∨ (s ≠ l ∧ look D s = some m) := by
    intro s m hsm
    by_cases e : s = l
    · subst e; rw [look_put_same hm] at hsm; cases hsm; exact .inl ⟨rfl, rfl⟩
    · rw [look_put_other e] at hsm; exact .inr ⟨e, hsm⟩
  have hnn : ∀ s, look D s ≠ some n := fun s hs => by obtain ⟨r, hr⟩ := h.ref s n hs; rw [hf] at hr; cases hr
  refine ⟨canonK_put law9.one (ko_mk (nameOk_max hl)) _ h.canon, ints_put h.ints hm l n, ?_, ?_, ?_, ?_⟩
  · rw [size_put h.tidy, hh]; simp; omega
  · intro s m hsm
    rcases hlk s m hsm with ⟨_, rfl⟩ | ⟨_, hd⟩
    · exact ⟨r, upd_same _ _ _⟩
    · obtain ⟨q, hq⟩ := h.ref s m hd
      exact ⟨q, by rw [upd_other _ _ (by rintro rfl; rw [hf] at hq; cases hq)]; exact hq⟩
  · intro s t m hs ht
    rcases hlk s m hs with ⟨rfl, rfl⟩ | ⟨_, hd⟩
    · rcases hlk t m ht with ⟨rfl, _⟩ | ⟨_, hd'⟩
      · rfl
      · exact absurd hd' (hnn t)
    · rcases hlk t m ht with ⟨rfl, rfl⟩ | ⟨_, hd'⟩
      · exact absurd hd (hnn s)
      · exact h.inj s t m hd hd'
  · intro s m hs
    rcases hlk s m hs with ⟨rfl, _⟩ | ⟨_, hd⟩
    · exact hl
    · exact h.ok s m hd

/-- A file gets another name. -/
theorem Good.rename {f : Int → Option FR} {D : DU} (h : Good f D) {a b : List UInt8} {n : Int} (hb : nameOk b = true) (ha : look D a = some n) : Good f ((Ch.mk a b n).app D) := by
  have hne : b ≠ [] := by intro e; subst e; simp [nameOk] at hb
  have e : (Ch.mk a b n).app D = (D.del (.string a)).put (.string b) (.lit (.int .i64 n)) := by unfold Ch.app; simp only; rw [if_neg hne]
  rw [e]
  have hm := h.isMap.del (.string a)
  have hlk : ∀ s m, look ((D.del (.string a)).put (.string b) (.lit (.int .i64 n))) s = some m → (s = b ∧ m = n) ∨ (s ≠ b ∧ s ≠ a ∧ look D s = some m) := by
    intro s m hsm
    by_cases e : s = b
    · subst e; rw [look_put_same hm] at hsm; cases hsm; exact .inl ⟨rfl, rfl⟩
    · rw [look_put_other e] at hsm
      by_cases e' : s = a
      · subst e'; rw [look_del_same] at hsm; cases hsm
      · rw [look_del_other e'] at hsm; exact .inr ⟨e, e', hsm⟩
  have hh : has D (.string a) = true := by rw [has_look h.ints, ha]; rfl
  refine ⟨canonK_put law9.one (ko_mk (nameOk_max hb)) _ (canonK_del h.canon _), ints_put (ints_del h.ints a) hm b n, ?_, ?_, ?_, ?_⟩
  · rw [size_put (h.tidy.del _)]
    have := size_del (k := .string a) h.tidy
    rw [hh] at this
    have hs := h.small
    split <;> simp at this <;> omega
  · intro s m hsm
    rcases hlk s m hsm with ⟨_, rfl⟩ | ⟨_, _, hd⟩
    · exact h.ref a m ha
    · exact h.ref s m hd
  · intro s t m hs ht
    rcases hlk s m hs with ⟨rfl, rfl⟩ | ⟨_, h2, hd⟩
    · rcases hlk t m ht with ⟨rfl, _⟩ | ⟨_, h2', hd'⟩
      · rfl
      · exact absurd (h.inj t a m hd' ha) h2'
    · rcases hlk t m ht with ⟨rfl, rfl⟩ | ⟨_, h2', hd'⟩
      · exact absurd (h.inj s a m hd ha) h2
      · exact h.inj s t m hd hd'
  · intro s m hs
    rcases hlk s m hs with ⟨rfl, _⟩ | ⟨_, _, hd⟩
    · exact hb
    · exact h.ok s m hd

/-- A name goes. -/
theorem Good.remove {f : Int → Option FR} {D : DU} (h : Good f D) (a : List UInt8) : Good f ((Ch.mk a [] 0).app D) := by
  have e : (Ch.mk a [] 0).app D = D.del (.string a) := by unfold Ch.app; simp
  rw [e]
  have hlk : ∀ s m, look (D.del (.string a)) s = some m → look D s = some m := by
    intro s m hsm
    by_cases e' : s = a
    · subst e'; rw [look_del_same] at hsm; cases hsm
    · rw [look_del_other e'] at hsm; exact hsm
  refine ⟨canonK_del h.canon _, ints_del h.ints a, ?_, fun s m hs => h.ref s m (hlk s m hs), fun s t m hs ht => h.inj s t m (hlk s m hs) (hlk t m ht), fun s m hs => h.ok s m (hlk s m hs)⟩
  have := size_del (k := .string a) h.tidy
  have hs := h.small
  omega

/-- What every disk keeps: at most so many changes of names ever, N. -/
structure Inv (N : Nat) (S : AS) : Prop where
  left : 0 ≤ S.left ∧ S.left ≤ 9223372036854775807
  room : 0 ≤ S.room ∧ S.room ≤ 16777216
  last : 0 ≤ S.last ∧ S.last ≤ N
  loose : S.loose.length ≤ N
  now : S.names = past S S.loose.length
  good : ∀ k, k ≤ S.loose.length → Good S.file (past S k)
  chs : ∀ c ∈ S.loose, c.frm.length ≤ 32 ∧ c.to.length ≤ 32 ∧ 0 ≤ c.file ∧ c.file ≤ S.last
  file : ∀ n r, S.file n = some r → 1 ≤ n ∧ n ≤ S.last ∧ r.firm ≤ r.bytes.length ∧ r.bytes.length ≤ 16777216

theorem Inv.names {N : Nat} {S : AS} (h : Inv N S) : Good S.file S.names := by
  have := h.good S.loose.length (Nat.le_refl _)
  rw [← h.now] at this
  exact this
theorem Inv.wf {N : Nat} {S : AS} (h : Inv N S) (hN : N ≤ 4611686018427387904) : WF S :=
  ⟨h.left, h.room, by have := h.last; omega, h.names.ref, h.file⟩
theorem Inv.mono {N M : Nat} {S : AS} (h : Inv N S) (hNM : N ≤ M) : Inv M S :=
  ⟨h.left, h.room, by have := h.last; omega, by have := h.loose; omega, h.now, h.good, h.chs, h.file⟩
theorem past_same {S S' : AS} (e1 : S'.firm = S.firm) (e2 : S'.loose = S.loose) (k : Nat) : past S' k = past S k := by unfold past; rw [e1, e2]

/-- Where names, and which files there are, stay. -/
theorem Inv.keep {N : Nat} {S S' : AS} (h : Inv N S) (e1 : S'.names = S.names) (e2 : S'.firm = S.firm) (e3 : S'.loose = S.loose) (e4 : S'.last = S.last)
    (hl : 0 ≤ S'.left ∧ S'.left ≤ 9223372036854775807) (hr : 0 ≤ S'.room ∧ S'.room ≤ 16777216) (hf : ∀ n r, S.file n = some r → ∃ r', S'.file n = some r')
    (hf' : ∀ n r, S'.file n = some r → 1 ≤ n ∧ n ≤ S.last ∧ r.firm ≤ r.bytes.length ∧ r.bytes.length ≤ 16777216) : Inv N S' := by
  refine ⟨hl, hr, by rw [e4]; exact h.last, by rw [e3]; exact h.loose, ?_, ?_, ?_, fun n r hr => by rw [e4]; exact hf' n r hr⟩
  · rw [e1, h.now, e3]; exact (past_same e2 e3 _).symm
  · intro k hk
    rw [past_same e2 e3 k]
    exact (h.good k (by rw [e3] at hk; exact hk)).mono fun l n r _ hr => hf n r hr
  · rw [e3, e4]; exact h.chs

theorem Inv.step {N : Nat} {S : AS} (h : Inv N S) : Inv N S.step := by
  obtain ⟨e1, e2, e3, e4, e5, e6⟩ := step_same S
  exact h.keep e1 e2 e3 e6 (step_left h.left) (by rw [e5]; exact h.room) (fun n r hr => ⟨r, by rw [e4]; exact hr⟩) (by rw [e4]; exact h.file)
theorem Inv.arm {N : Nat} {S : AS} (h : Inv N S) (n : Int) (hn : n ≤ 9223372036854775807) : Inv N (S.arm n) :=
  h.keep rfl rfl rfl rfl ⟨by show 0 ≤ max n 0; omega, by show max n 0 ≤ _; omega⟩ h.room (fun n r hr => ⟨r, hr⟩) h.file
theorem Inv.limit {N : Nat} {S : AS} (h : Inv N S) (n : Int) : Inv N (S.limit n) :=
  h.keep rfl rfl rfl rfl h.left (by show 0 ≤ roomOf n ∧ roomOf n ≤ 16777216; unfold roomOf; omega) (fun n r hr => ⟨r, hr⟩) h.file
/-- One file's bytes turn. -/
theorem Inv.turn {N : Nat} {S : AS} (h : Inv N S) {n : Int} {r : FR} (hr : S.file n = some r) {r' : FR} (h1 : r'.firm ≤ r'.bytes.length) (h2 : r'.bytes.length ≤ 16777216) : Inv N { S with file := upd S.file n (some r') } := by
  refine h.keep rfl rfl rfl rfl h.left h.room (fun m q hq => ?_) (fun m q hq => ?_)
  · by_cases e : m = n
    · subst e; exact ⟨r', upd_same _ _ _⟩
    · exact ⟨q, by show upd S.file n _ m = _; rw [upd_other _ _ e]; exact hq⟩
  · have hq' : upd S.file n (some r') m = some q := hq
    by_cases e : m = n
    · subst e
      rw [upd_same] at hq'
      cases hq'
      have := h.file m r hr
      exact ⟨this.1, this.2.1, h1, h2⟩
    · rw [upd_other _ _ e] at hq'
      exact h.file m q hq'

theorem past_app (S : AS) (c : Ch) (k : Nat) (hk : k ≤ S.loose.length) : past (S.altered c) k = past S k := by
  unfold past AS.altered
  simp only
  rw [List.take_append_of_le_length hk]
theorem past_app_last (S : AS) (c : Ch) : past (S.altered c) (S.altered c).loose.length = c.app (past S S.loose.length) := by
  have h1 : (S.altered c).loose.length = S.loose.length + 1 := by simp [AS.altered]
  rw [h1, past_succ _ _ (by rw [h1]; omega), past_app S c _ (Nat.le_refl _)]
  congr 1
  simp [AS.altered]

theorem Inv.altered {N : Nat} {S : AS} (h : Inv N S) {c : Ch} (hc : c.frm.length ≤ 32 ∧ c.to.length ≤ 32 ∧ 0 ≤ c.file ∧ c.file ≤ S.last) (hg : Good S.file (c.app S.names)) : Inv (N + 1) (S.altered c) := by
  have hl : (S.altered c).loose.length = S.loose.length + 1 := by simp [AS.altered]
  refine ⟨h.left, h.room, by have := h.last; exact ⟨this.1, by show S.last ≤ _; push_cast; omega⟩, by rw [hl]; have := h.loose; omega, ?_, ?_, ?_, h.file⟩
  · rw [past_app_last, ← h.now]; rfl
  · intro k hk
    by_cases e : k ≤ S.loose.length
    · rw [past_app S c k e]; exact h.good k e
    · have : k = (S.altered c).loose.length := by omega
      subst this
      rw [past_app_last, ← h.now]
      exact hg
  · intro c' hc'
    have : c' ∈ S.loose ++ [c] := hc'
    rcases List.mem_append.1 this with h1 | h1
    · exact h.chs c' h1
    · rw [List.mem_singleton] at h1; subst h1; exact hc

/-- A file is made. -/
theorem Inv.made {N : Nat} {S : AS} (h : Inv N S) {l : List UInt8} (hl : nameOk l = true) (hn : look S.names l = none) (hs : Maps.size S.names < 64) : Inv (N + 1) (S.made l) := by
  have hnone : S.file (S.last + 1) = none := by
    cases hf : S.file (S.last + 1) with
    | none => rfl
    | some r => have := (h.file _ r hf).2.1; omega
  have ho : Inv (N + 1) S.opened := by
    refine ⟨h.left, h.room, by have := h.last; show 0 ≤ S.last + 1 ∧ S.last + 1 ≤ _; push_cast; omega, by have := h.loose; show S.loose.length ≤ _; omega, h.now, fun k hk => ?_, fun c hc => by have := h.chs c hc; exact ⟨this.1, this.2.1, this.2.2.1, by show c.file ≤ S.last + 1; omega⟩, fun n r hr => ?_⟩
    · refine (h.good k hk).mono fun l n r hl hr => ⟨r, ?_⟩
      show upd S.file _ _ n = _
      rw [upd_other _ _ (by rintro rfl; rw [hnone] at hr; cases hr)]
      exact hr
    · have hr' : upd S.file (S.last + 1) (some { bytes := [], firm := 0 }) n = some r := hr
      by_cases e : n = S.last + 1
      · subst e
        rw [upd_same] at hr'
        cases hr'
        have := h.last
        exact ⟨by omega, Int.le_refl _, by simp, by simp⟩
      · rw [upd_other _ _ e] at hr'
        have := h.file n r hr'
        exact ⟨this.1, by show n ≤ S.last + 1; omega, this.2.2⟩
  have hg : Good S.opened.file ((Ch.mk [] l (S.last + 1)).app S.opened.names) := h.names.make hl hn hnone hs
  have hll := nameOk_len hl
  have hla := h.last
  have := ho.altered (c := Ch.mk [] l (S.last + 1)) ⟨by simp, hll.2, by show 0 ≤ S.last + 1; omega, Int.le_refl _⟩ hg
  refine ⟨this.left, this.room, ?_, ?_, this.now, this.good, this.chs, this.file⟩
  · show 0 ≤ S.last + 1 ∧ S.last + 1 ≤ _; push_cast; omega
  · show (S.loose ++ [_]).length ≤ _; have := h.loose; simp; omega

theorem Inv.renamed {N : Nat} {S : AS} (h : Inv N S) {a b : List UInt8} {n : Int} (ha : nameOk a = true) (hb : nameOk b = true) (hn : look S.names a = some n) : Inv (N + 1) (S.renamed a b n) := by
  obtain ⟨r, hr⟩ := h.names.ref a n hn
  have := h.file n r hr
  exact h.altered ⟨(nameOk_len ha).2, (nameOk_len hb).2, by show 0 ≤ n; omega, this.2.1⟩ (h.names.rename hb hn)
theorem Inv.removed {N : Nat} {S : AS} (h : Inv N S) {a : List UInt8} (ha : nameOk a = true) : Inv (N + 1) (S.removed a) :=
  h.altered ⟨(nameOk_len ha).2, by simp, Int.le_refl _, h.last.1⟩ (h.names.remove a)

theorem keeps_of {f : Int → Option FR} {D : DU} (h : Good f D) {l : List UInt8} {n : Int} (hl : look D l = some n) : keeps D n = true :=
  keeps_look (h.canon.canon law9.one) (look_some h.ints hl)

theorem Inv.settled {N : Nat} {S : AS} (h : Inv N S) : Inv N S.settled := by
  have hg : Good S.settled.file S.names := h.names.mono fun l n r hl hr => ⟨r, by show (if keeps S.names n = true then S.file n else none) = _; rw [if_pos (keeps_of h.names hl)]; exact hr⟩
  refine ⟨h.left, h.room, h.last, Nat.zero_le _, rfl, fun k hk => ?_, fun c hc => (by cases hc), fun n r hr => ?_⟩
  · have : past S.settled k = S.names := by unfold past AS.settled; simp
    rw [this]; exact hg
  · have hr' : (if keeps S.names n = true then S.file n else none) = some r := hr
    split at hr'
    · exact h.file n r hr'
    · cases hr'

theorem foldl_isSome (D : DU) (m : Int) : ∀ (ls : List (List UInt8)) (st : (Int → Option FR) × List Int), ((ls.foldl (crashStep D) st).1 m).isSome = (st.1 m).isSome := by
  intro ls
  induction ls with
  | nil => intro st; rfl
  | cons l ls ih => intro st; rw [List.foldl_cons, ih, crashStep_isSome]
theorem foldl_sane (D : DU) : ∀ (ls : List (List UInt8)) (st : (Int → Option FR) × List Int), Sane st.1 → Sane (ls.foldl (crashStep D) st).1 := by
  intro ls
  induction ls with
  | nil => intro st h; exact h
  | cons l ls ih => intro st h; rw [List.foldl_cons]; exact ih _ (h.step l)

theorem Inv.crashed {N : Nat} {S : AS} (h : Inv N S) (ps : List Int) : Inv N (S.crashed ps) := by
  have hk : (pickN ps (S.loose.length : Int)).toNat ≤ S.loose.length := by have := pickN_bd ps (S.loose.length : Int) (by omega); omega
  have hgk := h.good _ hk
  have hsane : Sane S.file := fun n r hr => (h.file n r hr).2.2
  unfold AS.crashed
  generalize (pickN ps (S.loose.length : Int)).toNat = k at *
  have hsn := foldl_sane (past S k) (sortedKeys (past S k)) (S.file, ps.tail) hsane
  have his : ∀ m, (((sortedKeys (past S k)).foldl (crashStep (past S k)) (S.file, ps.tail)).1 m).isSome = (S.file m).isSome := fun m => foldl_isSome (past S k) m (sortedKeys (past S k)) (S.file, ps.tail)
  generalize ((sortedKeys (past S k)).foldl (crashStep (past S k)) (S.file, ps.tail)).1 = f at *
  have hff : ∀ n r, f n = some r → 1 ≤ n ∧ n ≤ S.last ∧ r.firm ≤ r.bytes.length ∧ r.bytes.length ≤ 16777216 := fun n r hr => by
    have := his n
    rw [hr] at this
    obtain ⟨q, hq⟩ := Option.isSome_iff_exists.1 this.symm
    have h1 := h.file n q hq
    exact ⟨h1.1, h1.2.1, hsn n r hr⟩
  have hg : Good f (past S k) := hgk.mono fun l n r _ hr => by
    have := his n
    rw [hr] at this
    exact Option.isSome_iff_exists.1 this
  have hi : Inv N { S with names := past S k, firm := past S k, loose := [], file := f } :=
    ⟨h.left, h.room, h.last, Nat.zero_le _, rfl, fun j hj => by
      have : past { S with names := past S k, firm := past S k, loose := [], file := f } j = past S k := by unfold past; simp
      rw [this]; exact hg, fun c hc => (by cases hc), hff⟩
  have h2 := hi.settled
  exact (h2.keep (S' := { AS.settled { S with names := past S k, file := f } with on := true }) rfl rfl rfl rfl h.left h.room (fun n r hr => ⟨r, hr⟩) (fun n r hr => h2.file n r hr)).arm (-1) (by omega)

theorem inv_new (room : Int) : Inv 0 (AS.new room) := by
  refine ⟨⟨Int.le_refl _, by show (0 : Int) ≤ _; omega⟩, ?_, ⟨Int.le_refl _, Int.le_refl _⟩, Nat.le_refl _, rfl, fun k hk => ?_, fun c hc => (by cases hc), fun n r hr => by cases hr⟩
  · show 0 ≤ roomOf room ∧ roomOf room ≤ 16777216; unfold roomOf; omega
  · have : past (AS.new room) k = .map [] := by unfold past AS.new; simp
    rw [this]; exact good_empty _

end Go.Proofs.YtpeafckomahjgaaGreatDoor
