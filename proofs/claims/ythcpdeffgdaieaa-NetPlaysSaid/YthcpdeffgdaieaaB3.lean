/- What every net keeps; the calls as a law sees them. -/
import Derived.Test.YthcpdeffgdaieaaB2
namespace Go.Proofs.Ythcpdeffgdaieaa
open Go.RowKit Go.Maps
set_option linter.unusedVariables false

/-! ### well made stays well made -/
def LK.Fit (K : LK) : Prop := ∀ s, (K.way s).arr ≤ (K.way s).bytes.length ∧ (K.way s).bytes.length ≤ 65536
theorem WF.fit {S : NS} (h : WF S) {n : Int} {K : LK} (hK : S.link n = some K) : K.Fit := fun s => h.way n K s hK
theorem WF.setL {S : NS} (h : WF S) {n : Int} {K K' : LK} (hK : S.link n = some K) (hf : K'.Fit) : WF (S.setL n K') := by
  refine ⟨h.right.setL hK, h.keys, h.last, fun m Q s hQ => ?_⟩
  have hQ' : upd S.link n (some K') m = some Q := hQ
  by_cases e : m = n
  · subst e; rw [upd_same] at hQ'; cases hQ'; exact hf s
  · rw [upd_other _ _ e] at hQ'; exact h.way m Q s hQ'
theorem WF.drop {S : NS} (h : WF S) (n : Int) : WF (S.drop n) := by
  refine ⟨h.right.drop n, fun m hm => h.keys m (List.mem_filter.1 hm).1, h.last, fun m Q s hQ => ?_⟩
  have hQ' : upd S.link n none m = some Q := hQ
  by_cases e : m = n
  · subst e; rw [upd_same] at hQ'; cases hQ'
  · rw [upd_other _ _ e] at hQ'; exact h.way m Q s hQ'
theorem fit_setW {K : LK} (h : K.Fit) (s : Bool) {W : WS} (h1 : W.arr ≤ W.bytes.length) (h2 : W.bytes.length ≤ 65536) : (K.setW s W).Fit := by
  intro t
  show (updB K.way s W t).arr ≤ _ ∧ _
  by_cases e : t = s
  · subst e; unfold LK.setW; simp only [updB_same]; exact ⟨h1, h2⟩
  · unfold LK.setW; simp only [updB_other _ _ e]; exact h t
theorem fit_tell {K : LK} (h : K.Fit) (s : Bool) : (K.tell s).Fit := h
theorem WF.tell {S : NS} (h : WF S) {n : Int} {K : LK} (hK : S.link n = some K) (s : Bool) : WF (S.tell n K s) := by
  unfold NS.tell
  split
  · exact h.drop n
  · exact h.setL hK (fit_tell (h.fit hK) s)
theorem WF.release {S : NS} (h : WF S) (n : Int) (K : LK) : WF (S.release n K) := by
  unfold NS.release
  split
  · exact h.drop n
  · exact h
theorem fit_send {K : LK} (h : K.Fit) (s : Bool) (data : List UInt8) : (K.send s data).Fit := by
  have := h (!s)
  have hk1 : K.sent s data ≤ data.length := Nat.min_le_left _ _
  have hk2 : K.sent s data ≤ 65536 - (K.way (!s)).bytes.length := Nat.min_le_right _ _
  refine fit_setW h _ ?_ ?_ <;> simp only [List.length_append, List.length_take] <;> omega
theorem fit_move {K : LK} (h : K.Fit) (s : Bool) (many : Int) : (K.move s many).Fit := by
  have := h s
  have hb := amt_bd many (K.way s).mov (by unfold WS.mov; omega)
  have hm : (K.way s).mov = ((K.way s).bytes.length : Int) - (K.way s).arr := rfl
  have hm2 : K.moved s many = amt many (K.way s).mov := rfl
  refine fit_setW h _ ?_ this.2
  show (K.way s).arr + (K.moved s many).toNat ≤ (K.way s).bytes.length
  omega
theorem took_le (K : LK) (s : Bool) (many : Int) : K.took s many ≤ (K.way s).arr := by
  have := amt_bd many (K.way s).arr (by omega)
  unfold LK.took; omega
theorem fit_take {K : LK} (h : K.Fit) (s : Bool) (many : Int) : (K.take s many).Fit := by
  have := h s
  have := took_le K s many
  refine fit_setW h _ ?_ ?_ <;> simp only [List.length_drop] <;> omega
theorem fit_shut {K : LK} (h : K.Fit) (s : Bool) : (K.shutS s).Fit := fit_setW h _ (h (!s)).1 (h (!s)).2
theorem fit_dead : LK.dead.Fit := fun s => by unfold LK.dead; simp
theorem fit_fresh : LK.fresh.Fit := fun s => by unfold LK.fresh; simp

theorem find_some {S : NS} {conn side : Int} {s : Bool} {K : LK} (h : S.find conn side = some (s, K)) : S.link conn = some K := by
  unfold NS.find at h
  cases hs : sideOf side with
  | none => rw [hs] at h; cases h
  | some t =>
    rw [hs] at h
    cases hK : S.link conn with
    | none => rw [hK] at h; cases h
    | some Q =>
      rw [hK] at h
      simp at h
      rw [h.2]

theorem WF.send {S : NS} (h : WF S) (conn side : Int) (data : List UInt8) : WF (S.send conn side data).2 := by
  unfold NS.send
  cases hf : S.find conn side with
  | none => exact h
  | some p =>
    obtain ⟨s, K⟩ := p
    have hK := find_some hf
    simp only
    split
    · exact h.tell hK s
    · split
      · exact h
      · exact h.setL hK (fit_send (h.fit hK) s data)
theorem WF.move {S : NS} (h : WF S) (conn side many : Int) : WF (S.move conn side many).2 := by
  unfold NS.move
  cases hf : S.find conn side with
  | none => exact h
  | some p =>
    obtain ⟨s, K⟩ := p
    have hK := find_some hf
    simp only
    split
    · exact h.tell hK s
    · exact h.setL hK (fit_move (h.fit hK) s many)
theorem WF.take {S : NS} (h : WF S) (conn side many : Int) : WF (S.take conn side many).2 := by
  unfold NS.take
  cases hf : S.find conn side with
  | none => exact h
  | some p =>
    obtain ⟨s, K⟩ := p
    have hK := find_some hf
    simp only
    split
    · exact h.tell hK s
    · split
      · exact h
      · split
        · exact h
        · exact (h.setL hK (fit_take (h.fit hK) s many)).release conn _
theorem WF.shut {S : NS} (h : WF S) (conn side : Int) : WF (S.shut conn side).2 := by
  unfold NS.shut
  cases hf : S.find conn side with
  | none => exact h
  | some p =>
    obtain ⟨s, K⟩ := p
    have hK := find_some hf
    simp only
    split
    · exact h.tell hK s
    · split
      · exact h
      · exact (h.setL hK (fit_shut (h.fit hK) s)).release conn _
theorem WF.cutC {S : NS} (h : WF S) (conn : Int) : WF (S.cutC conn).2 := by
  unfold NS.cutC
  cases hK : S.link conn with
  | none => exact h
  | some K =>
    simp only
    split
    · exact h
    · exact h.setL hK fit_dead
theorem WF.opened {S : NS} (h : WF S) (hl : S.last < 4611686018427387904) : WF S.opened.2 := by
  unfold NS.opened
  split
  · exact h
  · have hlast := h.last
    have hn : ∀ m ∈ S.keys, m < S.last + 1 := fun m hm => by have := h.keys m hm; omega
    refine ⟨⟨?_, fun m => ?_⟩, fun m hm => ?_, ⟨by show 0 ≤ S.last + 1; omega, by show S.last + 1 ≤ _; omega⟩, fun m Q s hQ => ?_⟩
    · show (S.keys ++ [S.last + 1]).Pairwise (· < ·)
      rw [List.pairwise_append]
      exact ⟨h.right.1, List.pairwise_singleton _ _, fun a ha b hb => by rw [List.mem_singleton.1 hb]; exact hn a ha⟩
    · show m ∈ S.keys ++ [S.last + 1] ↔ (upd S.link (S.last + 1) (some LK.fresh) m).isSome = true
      by_cases e : m = S.last + 1
      · subst e; rw [upd_same]; simp
      · rw [upd_other _ _ e, List.mem_append, ← h.right.2 m]; simp [e]
    · have hm' : m ∈ S.keys ++ [S.last + 1] := hm
      show 1 ≤ m ∧ m ≤ S.last + 1
      rcases List.mem_append.1 hm' with hm' | hm'
      · have := h.keys m hm'; omega
      · rw [List.mem_singleton.1 hm']; omega
    · have hQ' : upd S.link (S.last + 1) (some LK.fresh) m = some Q := hQ
      by_cases e : m = S.last + 1
      · subst e; rw [upd_same] at hQ'; cases hQ'; exact fit_fresh s
      · rw [upd_other _ _ e] at hQ'; exact h.way m Q s hQ'

/-! ### a net beside what a law has of its own -/
/-- The net lies outside X, all of which is there. -/
structure Nt (w : World) (X : Nat → Prop) (d : Nat) (S : NS) : Prop where
  ex : ∃ R, At w d R S ∧ ∀ k, foot d R S k → ¬ X k
  wf : WF S
  there : ∀ k, X k → k < w.heap.size
def Out (X : Nat → Prop) (k : Nat) : Prop := ¬ X k

theorem Nt.turn {w w' : World} {X : Nat → Prop} {d : Nat} {S S' : NS} (hX : ∀ k, X k → k < w.heap.size) {R : Rp} (hR : ∀ k, foot d R S k → ¬ X k) (hw : WF S') (hp : Post d R S w S' w') : Nt w' X d S' ∧ Fr (Out X) w w' := by
  obtain ⟨R', h1, h2, h3⟩ := hp
  refine ⟨⟨⟨R', h1, fun k hk hx => ?_⟩, hw, fun k hk => Nat.lt_of_lt_of_le (hX k hk) h2.size⟩, h2.mono fun k _ hk => hR k hk⟩
  rcases h3 k hk with hk | hk
  · exact hR k hk hx
  · have := hX k hx; omega
theorem Nt.keep {w w' : World} {X : Nat → Prop} {d : Nat} {S : NS} (h : Nt w X d S) (hf : Fr No w w') : Nt w' X d S :=
  ⟨by obtain ⟨R, hA, hR⟩ := h.ex; exact ⟨R, hA.keep hf, hR⟩, h.wf, fun k hk => Nat.lt_of_lt_of_le (h.there k hk) hf.size⟩
/-- What is the law's own may turn. -/
theorem Nt.own {w w' : World} {X : Nat → Prop} {d : Nat} {S : NS} (h : Nt w X d S) (hf : Fr X w w') : Nt w' X d S :=
  ⟨by obtain ⟨R, hA, hR⟩ := h.ex; exact ⟨R, hA.fr hf fun k hx hk => hR k hk hx, hR⟩, h.wf, fun k hk => Nat.lt_of_lt_of_le (h.there k hk) hf.size⟩
theorem Nt.less {w : World} {X Y : Nat → Prop} {d : Nat} {S : NS} (h : Nt w X d S) (hY : ∀ k, Y k → X k) : Nt w Y d S :=
  ⟨by obtain ⟨R, hA, hR⟩ := h.ex; exact ⟨R, hA, fun k hk hy => hR k hk (hY k hy)⟩, h.wf, fun k hk => h.there k (hY k hk)⟩
/-- A new block is the law's own. -/
theorem Nt.alloc {w : World} {X : Nat → Prop} {d : Nat} {S : NS} (h : Nt w X d S) (o : Obj) : Nt (w.alloc o) (fun k => X k ∨ k = w.heap.size) d S := by
  refine ⟨?_, h.wf, fun k hk => ?_⟩
  · obtain ⟨R, hA, hR⟩ := h.ex
    refine ⟨R, hA.alloc o, fun k hk hx => ?_⟩
    rcases hx with hx | hx
    · exact hR k hk hx
    · have := hA.lt k hk; omega
  · rcases hk with hk | hk
    · have := h.there k hk; simp; omega
    · simp; omega

section
variable {w : World} {X : Nat → Prop} {d : Nat} {S : NS}
theorem m_open (h : Nt w X d S) (hl : S.last < 4611686018427387904) :
    Calls Try.prog 11 #[.pointer (some ⟨d, 0, none⟩)] w fun e w' => e = .returned (.tuple #[.int .i64 S.opened.1.1, .int .i64 S.opened.1.2]) ∧ Nt w' X d S.opened.2 ∧ Fr (Out X) w w' := by
  obtain ⟨R, hA, hR⟩ := h.ex
  exact (open_call d R S w hA h.wf).mono fun e w' ⟨h1, h2⟩ => ⟨h1, Nt.turn h.there hR (h.wf.opened hl) h2⟩
theorem m_send (h : Nt w X d S) (conn side : Int) (data : List UInt8) (hw : (Lit.int .i64 conn).wf = true) (hd : data.length ≤ 9223372036854775807) :
    Calls Try.prog 12 #[.pointer (some ⟨d, 0, none⟩), .int .i64 conn, .int .i64 side, .string ⟨data.toArray⟩] w fun e w' => e = .returned (.tuple #[.int .i64 (S.send conn side data).1.1, .int .i64 (S.send conn side data).1.2]) ∧ Nt w' X d (S.send conn side data).2 ∧ Fr (Out X) w w' := by
  obtain ⟨R, hA, hR⟩ := h.ex
  exact (send_any d R S conn side data w hA h.wf hw hd).mono fun e w' ⟨h1, h2⟩ => ⟨h1, Nt.turn h.there hR (h.wf.send conn side data) h2⟩
theorem m_move (h : Nt w X d S) (conn side many : Int) (hw : (Lit.int .i64 conn).wf = true) :
    Calls Try.prog 13 #[.pointer (some ⟨d, 0, none⟩), .int .i64 conn, .int .i64 side, .int .i64 many] w fun e w' => e = .returned (.tuple #[.int .i64 (S.move conn side many).1.1, .int .i64 (S.move conn side many).1.2]) ∧ Nt w' X d (S.move conn side many).2 ∧ Fr (Out X) w w' := by
  obtain ⟨R, hA, hR⟩ := h.ex
  exact (move_any d R S conn side many w hA h.wf hw).mono fun e w' ⟨h1, h2⟩ => ⟨h1, Nt.turn h.there hR (h.wf.move conn side many) h2⟩
theorem m_take (h : Nt w X d S) (conn side many : Int) (hw : (Lit.int .i64 conn).wf = true) :
    Calls Try.prog 14 #[.pointer (some ⟨d, 0, none⟩), .int .i64 conn, .int .i64 side, .int .i64 many] w fun e w' => e = .returned (.tuple #[.string ⟨(S.take conn side many).1.1.toArray⟩, .int .i64 (S.take conn side many).1.2]) ∧ Nt w' X d (S.take conn side many).2 ∧ Fr (Out X) w w' := by
  obtain ⟨R, hA, hR⟩ := h.ex
  exact (take_call d R S conn side many w hA h.wf hw).mono fun e w' ⟨h1, h2⟩ => ⟨h1, Nt.turn h.there hR (h.wf.take conn side many) h2⟩
theorem m_shut (h : Nt w X d S) (conn side : Int) (hw : (Lit.int .i64 conn).wf = true) :
    Calls Try.prog 15 #[.pointer (some ⟨d, 0, none⟩), .int .i64 conn, .int .i64 side] w fun e w' => e = .returned (.int .i64 (S.shut conn side).1) ∧ Nt w' X d (S.shut conn side).2 ∧ Fr (Out X) w w' := by
  obtain ⟨R, hA, hR⟩ := h.ex
  exact (shut_call d R S conn side w hA h.wf hw).mono fun e w' ⟨h1, h2⟩ => ⟨h1, Nt.turn h.there hR (h.wf.shut conn side) h2⟩
theorem m_cut (h : Nt w X d S) (conn : Int) (hw : (Lit.int .i64 conn).wf = true) :
    Calls Try.prog 17 #[.pointer (some ⟨d, 0, none⟩), .int .i64 conn] w fun e w' => e = .returned (.int .i64 (S.cutC conn).1) ∧ Nt w' X d (S.cutC conn).2 ∧ Fr (Out X) w w' := by
  obtain ⟨R, hA, hR⟩ := h.ex
  exact (cut_call d R S conn w hA hw).mono fun e w' ⟨h1, h2⟩ => ⟨h1, Nt.turn h.there hR (h.wf.cutC conn) h2⟩
theorem m_waits (h : Nt w X d S) (conn side : Int) (hw : (Lit.int .i64 conn).wf = true) :
    Calls Try.prog 16 #[.pointer (some ⟨d, 0, none⟩), .int .i64 conn, .int .i64 side] w fun e w' => e = .returned (.tuple #[.int .i64 (S.waits conn side).1, .int .i64 (S.waits conn side).2]) ∧ Nt w' X d S ∧ Fr No w w' := by
  obtain ⟨R, hA, hR⟩ := h.ex
  exact (waits_call d R S conn side w hA h.wf hw).mono fun e w' ⟨h1, h2⟩ => ⟨h1, h.keep h2, h2⟩
theorem m_new (X : Nat → Prop) (hX : ∀ k, X k → k < w.heap.size) :
    Calls Try.prog 8 #[] w fun e w' => ∃ d, e = .returned (.pointer (some ⟨d, 0, none⟩)) ∧ Nt w' X d NS.zero ∧ Fr No w w' := by
  refine (new_any w).mono fun e w' ⟨h1, h2⟩ => ⟨_, h1, ?_⟩
  subst h2
  refine ⟨⟨⟨Rp.zero, zero_at (Blk.new w 53 _), fun k hk hx => ?_⟩, zero_wf, fun k hk => ?_⟩, (Fr.refl _ w).alloc _⟩
  · have := hX k hx
    have := zero_foot hk
    omega
  · have := hX k hk; simp; omega
end

end Go.Proofs.Ythcpdeffgdaieaa
