/- Sync, and Cut. -/
import Derived.Test.YtpeafckomahjgaaGreatDoorDA7
namespace Go.Proofs.YtpeafckomahjgaaGreatDoor
open Go.RowKit Go.Maps
set_option linter.unusedVariables false

theorem step_same (S : AS) : S.step.names = S.names ∧ S.step.firm = S.firm ∧ S.step.loose = S.loose ∧ S.step.file = S.file ∧ S.step.room = S.room ∧ S.step.last = S.last := by
  unfold AS.step; split
  · split <;> exact ⟨rfl, rfl, rfl, rfl, rfl, rfl⟩
  · exact ⟨rfl, rfl, rfl, rfl, rfl, rfl⟩
theorem step_left {S : AS} (h : 0 ≤ S.left ∧ S.left ≤ 9223372036854775807) : 0 ≤ S.step.left ∧ S.step.left ≤ 9223372036854775807 := by
  unfold AS.step; split
  · split <;> simp <;> omega
  · exact h
theorem WF.step {S : AS} (h : WF S) : WF S.step := by
  obtain ⟨e1, e2, e3, e4, e5, e6⟩ := step_same S
  exact ⟨step_left h.left, by rw [e5]; exact h.room, by rw [e6]; exact h.last, by rw [e1, e4]; exact h.ref, by rw [e4, e6]; exact h.file⟩

/-- What Sync does where there is nothing against it. -/
def AS.synced (S : AS) (n : Int) (r : FR) : AS := { S with file := upd S.file n (some { bytes := r.bytes, firm := r.bytes.length }) }
def AS.sync (S : AS) (l : List UInt8) : AS × Int :=
  if checkOf S.on [l] = 0 then
    match look S.names l with
    | none => (S, 11)
    | some n =>
      match S.file n with
      | none => (S, 11)
      | some r => if S.stepE = 0 then (S.step.synced n r, 0) else (S.step, S.stepE)
  else (S, checkOf S.on [l])

theorem stepE_01 (S : AS) : S.stepE = 0 ∨ S.stepE = 13 := by
  unfold AS.stepE; split
  · split
    · exact .inl rfl
    · exact .inr rfl
  · exact .inl rfl

theorem row_len {v : Value} {w : World} {base : Nat} {l : List UInt8} (h : w.ownsRow base 5 1 v l.length (l.map byteV)) : ∃ A c, v = .slice A l.length c := len_row h

set_option maxHeartbeats 400000 in
theorem sync_err (d : Nat) (R : Rp) (S : AS) (l : List UInt8) (v : Option Addr) (E : Int) (w : World) (hE : E ≠ 0)
    (hfind : Calls Tryz.prog 78 #[.pointer (some ⟨d, 0, none⟩), .string ⟨l.toArray⟩] w fun e w' => e = .returned (.tuple #[.pointer v, .int .i64 E]) ∧ Fr No w w') :
    Calls Tryz.prog 29 #[.pointer (some ⟨d, 0, none⟩), .string ⟨l.toArray⟩] w fun e w' => e = .returned (.int .i64 E) ∧ Fr No w w' := by
  have hne2 : (E != 0) = true := by simpa using hE
  go_enter Tryz.func29, Tryz.ntmps29
  go_wp2_with fail
  refine hfind.mono ?_
  rintro e w' ⟨rfl, hf⟩
  have HF := Lib.hid hf; clear hf hfind
  go_wp2
  go_ret
  exact ⟨rfl, HF.out⟩

/-- find, then a step: where both go well. -/
theorem step_ok (d : Nat) (R : Rp) (S : AS) (w : World) (h : At w d R S) (hl : S.left ≤ 9223372036854775807) (E : Int) (hE : S.stepE = E) :
    Calls Tryz.prog 75 #[.pointer (some ⟨d, 0, none⟩)] w fun e w' => e = .returned (.int .i64 E) ∧ At w' d R S.step ∧ Fr (One d) w w' := hE ▸ step_any d R S w h hl

set_option maxHeartbeats 400000 in
theorem sync_out (d : Nat) (R : Rp) (S : AS) (l : List UInt8) (n : Int) (r : FR) (w : World) (h : At w d R S) (hW : WF S) (hl : l.length ≤ maxLen) (hE : checkOf S.on [l] = 0) (hn : look S.names l = some n) (hr : S.file n = some r) (he : S.stepE = 13) :
    Calls Tryz.prog 29 #[.pointer (some ⟨d, 0, none⟩), .string ⟨l.toArray⟩] w fun e w' => e = .returned (.int .i64 13) ∧ PR d R S w R S.step w' := by
  have hcon := find_some d R S l n r w h hl hE hn hr (hW.wf hr)
  have hst := fun w1 (h1 : At w1 d R S) => step_ok d R S w1 h1 hW.left.2 13 he
  have HST := Lib.hid hst
  clear hE hn hl hW he hst
  go_enter Tryz.func29, Tryz.ntmps29
  go_wp2_with fail
  refine hcon.mono ?_
  rintro e w1 ⟨rfl, hf⟩
  have P1 := PR.same h hf
  clear hcon h hf hr
  go_wp2_with fail
  refine (HST.out w1 P1.at_).mono ?_
  rintro e w2 ⟨rfl, h2, hf2⟩
  have P2 := P1.trans (PR.own h2 hf2 (step_same S).2.2.2.1)
  clear HST h2 hf2 P1
  go_wp2
  go_ret
  exact ⟨rfl, P2⟩

set_option maxHeartbeats 400000 in
theorem sync_ok (d : Nat) (R : Rp) (S : AS) (l : List UInt8) (n : Int) (r : FR) (w : World) (h : At w d R S) (hW : WF S) (hl : l.length ≤ maxLen) (hE : checkOf S.on [l] = 0) (hn : look S.names l = some n) (hr : S.file n = some r) (he : S.stepE = 0) :
    Calls Tryz.prog 29 #[.pointer (some ⟨d, 0, none⟩), .string ⟨l.toArray⟩] w fun e w' => e = .returned (.int .i64 0) ∧ Post d R S w (S.step.synced n r) w' := by
  have hcon := find_some d R S l n r w h hl hE hn hr (hW.wf hr)
  have hst := fun w1 (h1 : At w1 d R S) => step_ok d R S w1 h1 hW.left.2 0 he
  have HST := Lib.hid hst
  have hr2 : S.step.file n = some r := by rw [(step_same S).2.2.2.1]; exact hr
  have HR := Lib.hid hr2
  clear hE hn hl hW he hst hr2
  go_enter Tryz.func29, Tryz.ntmps29
  go_wp2_with fail
  refine hcon.mono ?_
  rintro e w1 ⟨rfl, hf⟩
  have P1 := PR.same h hf
  clear hcon h hf hr
  go_wp2_with fail
  refine (HST.out w1 P1.at_).mono ?_
  rintro e w2 ⟨rfl, h2, hf2⟩
  have P2 := P1.trans (PR.own h2 hf2 (step_same S).2.2.2.1)
  have hfd := h2.fd n
  rw [HR.out] at hfd
  obtain ⟨_, hb, ho⟩ := hfd
  obtain ⟨A, c, hv⟩ := row_len ho
  have c0 : w2.cell? ⟨(R.rc n).1, 0, none⟩ = some (R.rc n).2 := hb.cell 0
  rw [hv] at c0
  have f1 := hb.frozen 1
  have c1 : w2.cell? ⟨(R.rc n).1, 1, none⟩ = some (.int .i64 r.firm) := hb.cell 1
  have HB := Lib.hid hb
  have HO := Lib.hid ho
  clear HST h2 hf2 P1 hv hb ho
  go_wp2
  go_ret
  have hf3 : Fr (fileB R n) w2 (w2.setCell ⟨(R.rc n).1, 1, none⟩ (.int .i64 r.bytes.length)) := (Fr.refl _ _).setCell (p := ⟨(R.rc n).1, 1, none⟩) (fun _ => .inl rfl) _
  have ho3 : (w2.setCell ⟨(R.rc n).1, 1, none⟩ (.int .i64 r.bytes.length)).ownsRow 0 5 1 (R.rc n).2 r.bytes.length (r.bytes.map byteV) :=
    own_of HO.out fun k hk => Below.heap_setCell _ _ _ _ (own_blk_ne HO.out hk HB.out (by decide))
  exact ⟨rfl, (P2.trans (PR.file (r' := { bytes := r.bytes, firm := r.bytes.length }) P2.at_ HR.out hf3 (HB.out.set_ 1 _) ho3 fun k hk => .inl hk)).post⟩

theorem sync_any (d : Nat) (R : Rp) (S : AS) (l : List UInt8) (w : World) (h : At w d R S) (hW : WF S) (hl : l.length ≤ maxLen) :
    Calls Tryz.prog 29 #[.pointer (some ⟨d, 0, none⟩), .string ⟨l.toArray⟩] w fun e w' => e = .returned (.int .i64 (S.sync l).2) ∧ Post d R S w (S.sync l).1 w' := by
  unfold AS.sync
  by_cases hE : checkOf S.on [l] = 0
  · rw [if_pos hE]
    cases hn : look S.names l with
    | none =>
      refine (sync_err d R S l _ 11 w (by decide) (find_none d R S l w h hl hE hn)).mono ?_
      rintro e w' ⟨he, hf⟩
      exact ⟨he, (PR.same h hf).post⟩
    | some n =>
      obtain ⟨r, hr⟩ := hW.ref l n hn
      simp only [hr]
      rcases stepE_01 S with he | he
      · rw [if_pos he]
        exact sync_ok d R S l n r w h hW hl hE hn hr he
      · rw [if_neg (by rw [he]; decide), he]
        refine (sync_out d R S l n r w h hW hl hE hn hr he).mono ?_
        rintro e w' ⟨h1, h2⟩
        exact ⟨h1, h2.post⟩
  · rw [if_neg hE]
    refine (sync_err d R S l _ _ w hE (find_bad d R S l _ w h hl rfl hE)).mono ?_
    rintro e w' ⟨he, hf⟩
    exact ⟨he, (PR.same h hf).post⟩

end Go.Proofs.YtpeafckomahjgaaGreatDoor
