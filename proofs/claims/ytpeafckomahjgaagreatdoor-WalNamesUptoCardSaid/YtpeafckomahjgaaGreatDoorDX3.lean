/- The disk's calls, beside whatever blocks X are somebody else's. -/
import Derived.Test.YtpeafckomahjgaaGreatDoorDC3
namespace Go.Proofs.YtpeafckomahjgaaGreatDoor
open Go.RowKit Go.Maps Go.Sort
set_option linter.unusedVariables false

/-- A disk none of whose blocks is among X. -/
structure Dk (w : World) (X : Nat → Prop) (d N : Nat) (S : AS) : Prop where
  inv : Inv N S
  mem : ∃ R, At w d R S ∧ ∀ k, foot d R S k → ¬ X k
  big : N ≤ 1000000000000
  base : ∀ k, X k → k < w.heap.size
theorem Dk.of_post {w w' : World} {X : Nat → Prop} {d M : Nat} {R : Rp} {S S' : AS} (hb : ∀ k, X k → k < w.heap.size) (hf : ∀ k, foot d R S k → ¬ X k) (hP : Post d R S w S' w') (hi : Inv M S') (hM : M ≤ 1000000000000) : Dk w' X d M S' ∧ Fr (fun k => ¬ X k) w w' := by
  obtain ⟨R', P⟩ := hP
  have hbl : Fr (fun k => ¬ X k) w w' := P.fr.mono fun k _ hk => hf k hk
  refine ⟨⟨hi, ⟨R', P.at_, fun k hk => ?_⟩, hM, fun k hk => Nat.lt_of_lt_of_le (hb k hk) hbl.size⟩, hbl⟩
  rcases P.foot k hk with h | h
  · exact hf k h
  · intro hx
    have := hb k hx
    omega
theorem Dk.keep {w w' : World} {X : Nat → Prop} {d N : Nat} {S : AS} (h : Dk w X d N S) (hf : Fr No w w') : Dk w' X d N S := by
  obtain ⟨R, h1, h2⟩ := h.mem
  exact ⟨h.inv, ⟨R, h1.keep hf, h2⟩, h.big, fun k hk => Nat.lt_of_lt_of_le (h.base k hk) hf.size⟩
/-- What turns is X's. -/
theorem Dk.side {w w' : World} {X : Nat → Prop} {d N : Nat} {S : AS} (h : Dk w X d N S) (hf : Fr X w w') : Dk w' X d N S := by
  obtain ⟨R, h1, h2⟩ := h.mem
  exact ⟨h.inv, ⟨R, h1.fr hf fun k hx hk => h2 k hk hx, h2⟩, h.big, fun k hk => Nat.lt_of_lt_of_le (h.base k hk) hf.size⟩
/-- Fewer blocks. -/
theorem Dk.less {w : World} {X Y : Nat → Prop} {d N : Nat} {S : AS} (h : Dk w X d N S) (hXY : ∀ k, Y k → X k) : Dk w Y d N S := by
  obtain ⟨R, h1, h2⟩ := h.mem
  exact ⟨h.inv, ⟨R, h1, fun k hk hy => h2 k hk (hXY k hy)⟩, h.big, fun k hk => h.base k (hXY k hk)⟩
/-- What is new since w is none of the disk's: X grows by it. -/
theorem Dk.grow {w w' : World} {X Y : Nat → Prop} {d N : Nat} {S : AS} (h : Dk w X d N S) (hf : Fr X w w') (hY : ∀ k, Y k → k < w'.heap.size ∧ (X k ∨ w.heap.size ≤ k)) : Dk w' Y d N S := by
  obtain ⟨R, h1, h2⟩ := h.mem
  refine ⟨h.inv, ⟨R, h1.fr hf fun k hx hk => h2 k hk hx, fun k hk hy => ?_⟩, h.big, fun k hk => (hY k hk).1⟩
  rcases (hY k hy).2 with hx | hx
  · exact h2 k hk hx
  · have := h1.lt k hk; omega
theorem Dk.more {w : World} {X : Nat → Prop} {d N M : Nat} {S : AS} (h : Dk w X d N S) (hNM : N ≤ M) (hM : M ≤ 1000000000000) : Dk w X d M S := ⟨h.inv.mono hNM, h.mem, hM, h.base⟩
theorem Dk.wf {w : World} {X : Nat → Prop} {d N : Nat} {S : AS} (h : Dk w X d N S) : WF S := h.inv.wf (by have := h.big; omega)
theorem Dk.size {w : World} {X : Nat → Prop} {d N : Nat} {S : AS} (h : Dk w X d N S) : Maps.size S.names ≤ 1000000 := by have := h.inv.names.small; omega
theorem x_write {w : World} {X : Nat → Prop} {d N : Nat} {S : AS} (h : Dk w X d N S) (hN : N + 1 ≤ 1000000000000) (l : List UInt8) (data : List UInt8) (hl : l.length ≤ maxLen) (hd : data.length ≤ maxLen) :
    Calls Tryz.prog 27 #[.pointer (some ⟨d, 0, none⟩), .string ⟨l.toArray⟩, .string ⟨data.toArray⟩] w fun e w' => e = .returned (.int .i64 (S.write l data).2) ∧ Dk w' X d (N + 1) (S.write l data).1 ∧ Fr (fun k => ¬ X k) w w' := by
  obtain ⟨R, hA, hf⟩ := h.mem
  have hW := h.wf
  have hsz := h.size
  have hsd : (⟨data.toArray⟩ : ByteArray).size = data.length := by simp [ByteArray.size]
  have hlo := h.inv.loose
  have hla := h.inv.last
  have hbig := h.big
  have stay : ∀ {E : Int}, Calls Tryz.prog 27 #[.pointer (some ⟨d, 0, none⟩), .string ⟨l.toArray⟩, .string ⟨data.toArray⟩] w (fun e w' => e = .returned (.int .i64 E) ∧ Fr No w w') →
      Calls Tryz.prog 27 #[.pointer (some ⟨d, 0, none⟩), .string ⟨l.toArray⟩, .string ⟨data.toArray⟩] w fun e w' => e = .returned (.int .i64 E) ∧ Dk w' X d (N + 1) S ∧ Fr (fun k => ¬ X k) w w' := fun hc => by
    refine hc.mono ?_
    rintro e w' ⟨he, hfr⟩
    exact ⟨he, (h.keep hfr).more (by omega) hN, hfr.any⟩
  unfold AS.write
  by_cases hE : checkOf S.on [l] = 0
  · rw [if_pos hE]
    by_cases hful : S.room < usedOf S.file S.names + data.length
    · rw [if_pos hful]
      exact stay (write_full1 d R S l (look S.names l) ⟨data.toArray⟩ w hA hW hl hE rfl hsz (by rw [hsd]; exact hd) (by rw [hsd]; exact hful))
    · rw [if_neg hful]
      cases hn : look S.names l with
      | some n =>
        obtain ⟨r, hr⟩ := hW.ref l n hn
        simp only [hr]
        refine (write_old d R S l n r data w hA hW hl hE hn hr hsz (by omega)).mono ?_
        rintro e w' ⟨he, hP⟩
        have hlen := len_le_used (h.inv.names.canon.canon law9.one) h.inv.names.ints hn hr
        have hroom := h.inv.room
        have hfi := h.inv.file n r hr
        have hi : Inv (N + 1) (S.written n r data).step := ((h.inv.turn hr (r' := { bytes := r.bytes ++ data, firm := r.firm }) (by simp; omega) (by simp; omega)).step).mono (by omega)
        exact ⟨he, Dk.of_post h.base hf hP hi hN⟩
      | none =>
        simp only
        by_cases h64 : 64 ≤ Maps.size S.names
        · rw [if_pos h64]
          exact stay (write_full2 d R S l data w hA hW hl hE hn hsz (by omega) h64)
        · rw [if_neg h64]
          refine (write_new d R S l data w hA hW hl hE hn hsz (by omega) (by omega) (by omega) (by omega)).mono ?_
          rintro e w' ⟨he, hP⟩
          have hm := h.inv.made (checkOf_ok hE) hn (by omega)
          have hroom := h.inv.room
          have hu := @used_nonneg S.file S.names
          have hi := (hm.turn (n := S.last + 1) (r := { bytes := [], firm := 0 }) (upd_same _ _ _) (r' := { bytes := [] ++ data, firm := 0 }) (by simp) (by simp; omega)).step
          exact ⟨he, Dk.of_post h.base hf hP hi hN⟩
  · rw [if_neg hE]
    exact stay (write_bad d R S l ⟨data.toArray⟩ _ w hA hl rfl hE)

theorem x_read {w : World} {X : Nat → Prop} {d N : Nat} {S : AS} (h : Dk w X d N S) (l : List UInt8) (hl : l.length ≤ maxLen) :
    Calls Tryz.prog 47 #[.pointer (some ⟨d, 0, none⟩), .string ⟨l.toArray⟩] w fun e w' => e = .returned (.tuple #[.string ⟨(S.read l).1.toArray⟩, .int .i64 (S.read l).2]) ∧ Fr No w w' := by
  obtain ⟨R, hA, hf⟩ := h.mem
  unfold AS.read
  by_cases hE : checkOf S.on [l] = 0
  · rw [if_pos hE]
    cases hn : look S.names l with
    | none => exact read_none d R S l w hA hl hE hn
    | some n =>
      obtain ⟨r, hr⟩ := h.wf.ref l n hn
      simp only [hr]
      exact read_some d R S l n r w hA h.wf hl hE hn hr
  · rw [if_neg hE]
    exact read_bad d R S l _ w hA hl rfl hE

theorem x_sync {w : World} {X : Nat → Prop} {d N : Nat} {S : AS} (h : Dk w X d N S) (l : List UInt8) (hl : l.length ≤ maxLen) :
    Calls Tryz.prog 29 #[.pointer (some ⟨d, 0, none⟩), .string ⟨l.toArray⟩] w fun e w' => e = .returned (.int .i64 (S.sync l).2) ∧ Dk w' X d N (S.sync l).1 ∧ Fr (fun k => ¬ X k) w w' := by
  obtain ⟨R, hA, hf⟩ := h.mem
  refine (sync_any d R S l w hA h.wf hl).mono ?_
  rintro e w' ⟨he, hP⟩
  refine ⟨he, Dk.of_post h.base hf hP ?_ h.big⟩
  unfold AS.sync
  by_cases hE : checkOf S.on [l] = 0
  · rw [if_pos hE]
    cases hn : look S.names l with
    | none => exact h.inv
    | some n =>
      cases hr : S.file n with
      | none => simp only [hr]; exact h.inv
      | some r =>
        simp only [hr]
        have hst := h.inv.step
        split
        · exact hst.turn (n := n) (r := r) (by rw [(step_same S).2.2.2.1]; exact hr) (r' := { bytes := r.bytes, firm := r.bytes.length }) (Nat.le_refl _) (h.inv.file n r hr).2.2.2
        · exact hst
  · rw [if_neg hE]; exact h.inv

theorem x_settle {w : World} {X : Nat → Prop} {d N : Nat} {S : AS} (h : Dk w X d N S) :
    Calls Tryz.prog 30 #[.pointer (some ⟨d, 0, none⟩)] w fun e w' => e = .returned (.int .i64 S.settle.2) ∧ Dk w' X d N S.settle.1 ∧ Fr (fun k => ¬ X k) w w' := by
  obtain ⟨R, hA, hf⟩ := h.mem
  unfold AS.settle
  by_cases hon : S.on = true
  · rw [if_pos hon]
    rcases stepE_01 S with he | he
    · rw [if_pos he]
      refine (settle_ok d R S w hA h.wf h.size hon he).mono ?_
      rintro e w' ⟨h1, hP⟩
      exact ⟨h1, Dk.of_post h.base hf hP h.inv.step.settled h.big⟩
    · rw [if_neg (by rw [he]; decide)]
      refine (settle_out d R S w hA h.inv.left.2 hon he).mono ?_
      rintro e w' ⟨h1, hP⟩
      exact ⟨h1, Dk.of_post h.base hf hP.post h.inv.step h.big⟩
  · rw [if_neg hon]
    have hoff : S.on = false := by simpa using hon
    refine (settle_off d w (by have := (cells_all hA).2.1; rw [hoff] at this; exact this)).mono ?_
    rintro e w' ⟨h1, rfl⟩
    exact ⟨h1, h, Fr.refl _ _⟩

theorem x_remove {w : World} {X : Nat → Prop} {d N : Nat} {S : AS} (h : Dk w X d N S) (hN : N + 1 ≤ 1000000000000) (a : List UInt8) (ha : a.length ≤ maxLen) :
    Calls Tryz.prog 252 #[.pointer (some ⟨d, 0, none⟩), .string ⟨a.toArray⟩] w fun e w' => e = .returned (.int .i64 (S.remove a).2) ∧ Dk w' X d (N + 1) (S.remove a).1 ∧ Fr (fun k => ¬ X k) w w' := by
  obtain ⟨R, hA, hf⟩ := h.mem
  have hlo := h.inv.loose
  unfold AS.remove
  by_cases hE : checkOf S.on [a] = 0
  · rw [if_pos hE]
    cases hn : look S.names a with
    | none =>
      refine (remove_err d a none 11 w (by decide) (find_none d R S a w hA ha hE hn)).mono ?_
      rintro e w' ⟨he, hfr⟩
      exact ⟨he, (h.keep hfr).more (by omega) hN, hfr.any⟩
    | some n =>
      obtain ⟨r, hr⟩ := h.wf.ref a n hn
      refine (remove_some d R S a n r w hA h.wf ha hE hn hr h.size (by omega)).mono ?_
      rintro e w' ⟨he, hP⟩
      exact ⟨he, Dk.of_post h.base hf hP (h.inv.removed (checkOf_ok hE)).step hN⟩
  · rw [if_neg hE]
    refine (remove_err d a none _ w hE (find_bad d R S a _ w hA ha rfl hE)).mono ?_
    rintro e w' ⟨he, hfr⟩
    exact ⟨he, (h.keep hfr).more (by omega) hN, hfr.any⟩

theorem x_crash {w : World} {X : Nat → Prop} {d N : Nat} {S : AS} (h : Dk w X d N S) (g : Nat) (A : Option Addr) (n c : Nat) (ps : List Int) (hp : PicksAt w g A n c ps) (hg : 0 < n → X g ∨ ∃ cs fz, w.heap[g]? = some (.cells cs 3 fz)) :
    Calls Tryz.prog 23 #[.pointer (some ⟨d, 0, none⟩), .slice A n c] w fun e w' => e = .returned (.tuple #[]) ∧ Dk w' X d N (S.crashed ps) ∧ Fr (fun k => ¬ X k) w w' := by
  obtain ⟨R, hA, hf⟩ := h.mem
  have hlo := h.inv.loose
  have hbig := h.big
  have hla := h.inv.last
  refine (crash_any d R S g A n c ps w hA hp (fun hn hfo => ?_) (by omega) (fun k hk => by have := (h.inv.good k hk).small; omega) (fun c hc => ?_) (fun k hk => (h.inv.good k hk).ref) (fun n r hr => (h.inv.file n r hr).2.2) (fun m r hr => h.wf.wf hr)).mono ?_
  · rcases hg hn with h1 | ⟨cs, fz, h1⟩
    · exact hf g hfo h1
    · exact not_foot hA h1 hfo
  · have := h.inv.chs c hc
    exact ⟨by omega, by omega, wf64 (by omega) (by omega)⟩
  · rintro e w' ⟨he, hP⟩
    exact ⟨he, Dk.of_post h.base hf hP (h.inv.crashed ps) h.big⟩

theorem x_arm {w : World} {X : Nat → Prop} {d N : Nat} {S : AS} (h : Dk w X d N S) (n : Int) (hn : n ≤ 9223372036854775807) :
    Calls Tryz.prog 22 #[.pointer (some ⟨d, 0, none⟩), .int .i64 n] w fun e w' => e = .returned (.tuple #[]) ∧ Dk w' X d N (S.arm n) ∧ Fr (fun k => ¬ X k) w w' := by
  obtain ⟨R, hA, hf⟩ := h.mem
  refine (arm_any d R S n w hA).mono ?_
  rintro e w' ⟨he, h1, h2⟩
  exact ⟨he, Dk.of_post h.base hf (PR.own (S := S) h1 h2 rfl).post (h.inv.arm n hn) h.big⟩
theorem x_limit {w : World} {X : Nat → Prop} {d N : Nat} {S : AS} (h : Dk w X d N S) (n : Int) :
    Calls Tryz.prog 35 #[.pointer (some ⟨d, 0, none⟩), .int .i64 n] w fun e w' => e = .returned (.tuple #[]) ∧ Dk w' X d N (S.limit n) ∧ Fr (fun k => ¬ X k) w w' := by
  obtain ⟨R, hA, hf⟩ := h.mem
  refine (limit_any d R S n w hA).mono ?_
  rintro e w' ⟨he, h1, h2⟩
  exact ⟨he, Dk.of_post h.base hf (PR.own (S := S) h1 h2 rfl).post (h.inv.limit n) h.big⟩
theorem x_on {w : World} {X : Nat → Prop} {d N : Nat} {S : AS} (h : Dk w X d N S) : Calls Tryz.prog 49 #[.pointer (some ⟨d, 0, none⟩)] w fun e w' => e = .returned (.bool S.on) ∧ w = w' := by
  obtain ⟨R, hA, hf⟩ := h.mem
  exact on_any d R S w hA
theorem x_steps {w : World} {X : Nat → Prop} {d N : Nat} {S : AS} (h : Dk w X d N S) : Calls Tryz.prog 46 #[.pointer (some ⟨d, 0, none⟩)] w fun e w' => e = .returned (.int .i64 S.steps) ∧ w = w' := by
  obtain ⟨R, hA, hf⟩ := h.mem
  exact steps_any d R S w hA
theorem x_used {w : World} {X : Nat → Prop} {d N : Nat} {S : AS} (h : Dk w X d N S) (hon : S.on = true) : Calls Tryz.prog 38 #[.pointer (some ⟨d, 0, none⟩)] w fun e w' => e = .returned (.int .i64 (usedOf S.file S.names)) ∧ Fr No w w' := by
  obtain ⟨R, hA, hf⟩ := h.mem
  obtain ⟨nb, fb, e1, e2⟩ := hA.onn hon
  exact used_any d R S nb w hA h.wf e1 h.size
theorem x_list {w : World} {X : Nat → Prop} {d N : Nat} {S : AS} (h : Dk w X d N S) (hon : S.on = true) :
    Calls Tryz.prog 44 #[.pointer (some ⟨d, 0, none⟩)] w fun e w' => ∃ A c, e = .returned (.slice A (sortedKeys S.names).length c) ∧ w'.ownsRow w.heap.size 9 1 (.slice A (sortedKeys S.names).length c) (sortedKeys S.names).length ((sortedKeys S.names).map encStr) ∧ Fr No w w' := by
  obtain ⟨R, hA, hf⟩ := h.mem
  exact list_on d R S w hA hon h.size
theorem x_new (room : Int) (w : World) (X : Nat → Prop) (hX : ∀ k, X k → k < w.heap.size) :
    Calls Tryz.prog 11 #[.int .i64 room] w fun e w' => ∃ d, e = .returned (.pointer (some ⟨d, 0, none⟩)) ∧ Dk w' X d 0 (AS.new room) ∧ Fr No w w' := by
  refine (new_any room w).mono ?_
  rintro e w' ⟨d, R, he, hA, hfr, hf⟩
  exact ⟨d, he, ⟨inv_new room, ⟨R, hA, fun k hk hx => by have := hf k hk; have := hX k hx; omega⟩, by omega, fun k hk => Nat.lt_of_lt_of_le (hX k hk) hfr.size⟩, hfr⟩

end Go.Proofs.YtpeafckomahjgaaGreatDoor
