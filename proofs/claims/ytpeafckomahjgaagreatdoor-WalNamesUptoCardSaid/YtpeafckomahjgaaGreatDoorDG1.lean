/- Cut. -/
import Derived.Test.YtpeafckomahjgaaGreatDoorDC3
namespace Go.Proofs.YtpeafckomahjgaaGreatDoor
open Go.RowKit Go.Maps
set_option linter.unusedVariables false

/-- What Cut does where there is nothing against it. -/
def AS.cutF (S : AS) (n : Int) (r : FR) (k : Nat) : AS := { S with file := upd S.file n (some { bytes := r.bytes.take k, firm := min r.firm k }) }
def AS.cut (S : AS) (l : List UInt8) (size : Int) : AS × Int :=
  if checkOf S.on [l] = 0 then
    match look S.names l with
    | none => (S, 11)
    | some n =>
      match S.file n with
      | none => (S, 11)
      | some r => if size < 0 ∨ (r.bytes.length : Int) < size then (S, 1) else if S.stepE = 0 then (S.step.cutF n r size.toNat, 0) else (S.step, S.stepE)
  else (S, checkOf S.on [l])

set_option maxHeartbeats 400000 in
theorem cut_err (d : Nat) (l : List UInt8) (size : Int) (v : Option Addr) (E : Int) (w : World) (hE : E ≠ 0)
    (hfind : Calls Tryz.prog 78 #[.pointer (some ⟨d, 0, none⟩), .string ⟨l.toArray⟩] w fun e w' => e = .returned (.tuple #[.pointer v, .int .i64 E]) ∧ Fr No w w') :
    Calls Tryz.prog 251 #[.pointer (some ⟨d, 0, none⟩), .string ⟨l.toArray⟩, .int .i64 size] w fun e w' => e = .returned (.int .i64 E) ∧ Fr No w w' := by
  have hne2 : (E != 0) = true := by simpa using hE
  go_enter Tryz.func251, Tryz.ntmps251
  go_wp2_with fail
  refine hfind.mono ?_
  rintro e w' ⟨rfl, hf⟩
  have HF := Lib.hid hf; clear hf hfind
  go_wp2
  go_ret
  exact ⟨rfl, HF.out⟩

set_option maxHeartbeats 400000 in
theorem cut_arg (d : Nat) (R : Rp) (S : AS) (l : List UInt8) (size : Int) (n : Int) (r : FR) (w : World) (h : At w d R S) (hW : WF S) (hl : l.length ≤ maxLen) (hE : checkOf S.on [l] = 0) (hn : look S.names l = some n) (hr : S.file n = some r) (hs : size < 0 ∨ (r.bytes.length : Int) < size) :
    Calls Tryz.prog 251 #[.pointer (some ⟨d, 0, none⟩), .string ⟨l.toArray⟩, .int .i64 size] w fun e w' => e = .returned (.int .i64 1) ∧ PR d R S w R S w' := by
  have hcon := find_some d R S l n r w h hl hE hn hr (hW.wf hr)
  have hbl := (hW.file n r hr).2.2.2
  have HS := Lib.hid hs
  have HR := Lib.hid hr
  clear hE hn hl hW hs hr
  go_enter Tryz.func251, Tryz.ntmps251
  go_wp2_with fail
  refine hcon.mono ?_
  rintro e w1 ⟨rfl, hf⟩
  have P1 := PR.same h hf
  have hfd := P1.at_.fd n
  rw [HR.out] at hfd
  obtain ⟨_, hb, ho⟩ := hfd
  obtain ⟨A, c, hv⟩ := row_len ho
  have c0 : w1.cell? ⟨(R.rc n).1, 0, none⟩ = some (R.rc n).2 := hb.cell 0
  rw [hv] at c0
  have HP := Lib.hid P1
  clear hcon h hf hv hb ho P1
  by_cases h0 : size < 0
  · go_wp2
    go_ret
    exact ⟨rfl, HP.out⟩
  · have h1 : (r.bytes.length : Int) < size := HS.out.resolve_left h0
    go_wp2
    go_ret
    exact ⟨rfl, HP.out⟩

set_option maxHeartbeats 400000 in
theorem cut_out (d : Nat) (R : Rp) (S : AS) (l : List UInt8) (size : Int) (n : Int) (r : FR) (w : World) (h : At w d R S) (hW : WF S) (hl : l.length ≤ maxLen) (hE : checkOf S.on [l] = 0) (hn : look S.names l = some n) (hr : S.file n = some r) (hs0 : 0 ≤ size) (hs1 : size ≤ (r.bytes.length : Int)) (he : S.stepE = 13) :
    Calls Tryz.prog 251 #[.pointer (some ⟨d, 0, none⟩), .string ⟨l.toArray⟩, .int .i64 size] w fun e w' => e = .returned (.int .i64 13) ∧ PR d R S w R S.step w' := by
  have hcon := find_some d R S l n r w h hl hE hn hr (hW.wf hr)
  have hbl := (hW.file n r hr).2.2.2
  have hst := fun w1 (h1 : At w1 d R S) => step_ok d R S w1 h1 hW.left.2 13 he
  have HST := Lib.hid hst
  have HR := Lib.hid hr
  clear hE hn hl hW he hst hr
  go_enter Tryz.func251, Tryz.ntmps251
  go_wp2_with fail
  refine hcon.mono ?_
  rintro e w1 ⟨rfl, hf⟩
  have P1 := PR.same h hf
  have hfd := P1.at_.fd n
  rw [HR.out] at hfd
  obtain ⟨_, hb, ho⟩ := hfd
  obtain ⟨A, c, hv⟩ := row_len ho
  have c0 : w1.cell? ⟨(R.rc n).1, 0, none⟩ = some (R.rc n).2 := hb.cell 0
  rw [hv] at c0
  have HP := Lib.hid P1
  clear hcon h hf hv hb ho P1
  go_wp2_with fail
  refine (HST.out w1 HP.out.at_).mono ?_
  rintro e w2 ⟨rfl, h2, hf2⟩
  have P2 := HP.out.trans (PR.own h2 hf2 (step_same S).2.2.2.1)
  have HP2 := Lib.hid P2
  clear HST h2 hf2 HP P2
  go_wp2
  go_ret
  exact ⟨rfl, HP2.out⟩

theorem cut_end {w0 w2 : World} {d : Nat} {R : Rp} {S S1 : AS} {n : Int} {r : FR} {k c : Nat} {A : Option Addr} (P2 : PR d R S w0 R S1 w2) (hr : S1.file n = some r) (hv : (R.rc n).2 = .slice A r.bytes.length c) (hk : k ≤ r.bytes.length) :
    Post d R S w0 (S1.cutF n r k) ((w2.setCell ⟨(R.rc n).1, 0, none⟩ (.slice A k c)).setCell ⟨(R.rc n).1, 1, none⟩ (.int .i64 ((min r.firm k : Nat) : Int))) := by
  have hfd := P2.at_.fd n
  rw [hr] at hfd
  obtain ⟨_, hb, ho⟩ := hfd
  have hf3 : Fr (fileB R n) w2 ((w2.setCell ⟨(R.rc n).1, 0, none⟩ (.slice A k c)).setCell ⟨(R.rc n).1, 1, none⟩ (.int .i64 ((min r.firm k : Nat) : Int))) :=
    ((Fr.refl _ _).setCell (p := ⟨(R.rc n).1, 0, none⟩) (fun _ => .inl rfl) _).setCell (p := ⟨(R.rc n).1, 1, none⟩) (fun _ => .inl rfl) _
  have hne : ∀ j, (R.rc n).2.ownBlock = some j → j ≠ (R.rc n).1 := fun j hj => own_blk_ne ho hj hb (by decide)
  have hown : (Value.slice A k c).ownBlock = (R.rc n).2.ownBlock := by rw [hv]; cases A <;> rfl
  have hl : (r.bytes.take k).length = k := by rw [List.length_take]; omega
  refine (P2.trans (PR.file (r' := { bytes := r.bytes.take k, firm := min r.firm k }) (v' := .slice A k c) P2.at_ hr hf3 ((hb.set_ 0 _).set_ 1 _) ?_ fun j hj => .inl (hown ▸ hj))).post
  show World.ownsRow _ 0 5 1 _ (r.bytes.take k).length ((r.bytes.take k).map byteV)
  rw [hl, List.map_take]
  rw [hv] at ho
  refine own_of (own_take ho k hk) (fun j hj => ?_)
  have := hne j (hown ▸ hj)
  exact (Below.heap_setCell _ _ _ _ this).trans (Below.heap_setCell _ _ _ _ this)

theorem min_int (a k : Nat) : min (a : Int) (k : Int) = ((min a k : Nat) : Int) := by omega

set_option maxHeartbeats 1000000 in
theorem cut_ok (d : Nat) (R : Rp) (S : AS) (l : List UInt8) (k : Nat) (n : Int) (r : FR) (w : World) (h : At w d R S) (hW : WF S) (hl : l.length ≤ maxLen) (hE : checkOf S.on [l] = 0) (hn : look S.names l = some n) (hr : S.file n = some r) (hs1 : (k : Int) ≤ (r.bytes.length : Int)) (he : S.stepE = 0) :
    Calls Tryz.prog 251 #[.pointer (some ⟨d, 0, none⟩), .string ⟨l.toArray⟩, .int .i64 k] w fun e w' => e = .returned (.int .i64 0) ∧ Post d R S w (S.step.cutF n r k) w' := by
  have hcon := find_some d R S l n r w h hl hE hn hr (hW.wf hr)
  have hbl := (hW.file n r hr).2.2.2
  have hst := fun w1 (h1 : At w1 d R S) => step_ok d R S w1 h1 hW.left.2 0 he
  have HST := Lib.hid hst
  have HR := Lib.hid hr
  have hr2 : S.step.file n = some r := by rw [(step_same S).2.2.2.1]; exact hr
  have HR2 := Lib.hid hr2
  clear hE hn hl hW he hst hr hr2
  go_enter Tryz.func251, Tryz.ntmps251
  go_wp2_with fail
  refine hcon.mono ?_
  rintro e w1 ⟨rfl, hf⟩
  have P1 := PR.same h hf
  have hfd := P1.at_.fd n
  rw [HR.out] at hfd
  obtain ⟨_, hb, ho⟩ := hfd
  have hform : ∃ A c, (R.rc n).2 = .slice A r.bytes.length c ∧ r.bytes.length ≤ c ∧ c ≤ 9223372036854775807 ∧ (A = none → r.bytes.length = 0 ∧ c = 0) ∧ ∀ p, A = some p → ∃ g, p = ⟨g, 0, none⟩ := by
    rcases ho.2 with ⟨e, h0⟩ | ⟨gr, cap, cur, e, _, _, h1, h2, _⟩
    · exact ⟨none, 0, by rw [e, h0], by omega, by omega, (fun _ => ⟨h0, rfl⟩), fun p hp => by cases hp⟩
    · exact ⟨_, _, e, h1, by unfold maxLen at h2; omega, (fun hn => by cases hn), fun p hp => ⟨gr, by cases hp; rfl⟩⟩
  obtain ⟨A, c, hv, hc1, hc2, hA0, hA1⟩ := hform
  have c0 : w1.cell? ⟨(R.rc n).1, 0, none⟩ = some (R.rc n).2 := hb.cell 0
  rw [hv] at c0
  have HP := Lib.hid P1
  have HV := Lib.hid hv
  have HA0 := Lib.hid hA0
  have HA1 := Lib.hid hA1
  have b1 : (k : Int) ≤ (c : Int) := by omega
  have hkn : k ≤ r.bytes.length := by omega
  have HKN := Lib.hid hkn
  clear hcon h hf hv hb ho P1 hA0 hA1 hkn
  go_wp2_with fail
  refine (HST.out w1 HP.out.at_).mono ?_
  rintro e w2 ⟨rfl, h2, hf2⟩
  have P2 := HP.out.trans (PR.own h2 hf2 (step_same S).2.2.2.1)
  have hfd := h2.fd n
  rw [HR2.out] at hfd
  obtain ⟨_, hb, ho⟩ := hfd
  have d0 : w2.cell? ⟨(R.rc n).1, 0, none⟩ = some (R.rc n).2 := hb.cell 0
  rw [HV.out] at d0
  have d1 : w2.cell? ⟨(R.rc n).1, 1, none⟩ = some (.int .i64 r.firm) := hb.cell 1
  have f0 := hb.frozen 0
  have f1 := hb.frozen 1
  have HE := Lib.hid (cut_end P2 HR2.out HV.out HKN.out)
  have hmn := min_int r.firm k
  clear HST h2 hf2 HP P2 hb ho
  cases A with
  | none =>
    obtain ⟨e1, e2⟩ := HA0.out rfl
    have hk0 : k = 0 := by have := HKN.out; omega
    subst hk0 e2
    rw [e1] at d0
    have HZ := Lib.hid (show min (r.firm : Int) 0 = ((min r.firm 0 : Nat) : Int) by omega)
    clear e1 b1 hmn
    go_wp2
    go_ret
    rw [HZ.out]
    exact ⟨rfl, HE.out⟩
  | some p =>
    obtain ⟨g, rfl⟩ := HA1.out p rfl
    go_wp2
    go_ret
    exact ⟨rfl, HE.out⟩

theorem cut_any (d : Nat) (R : Rp) (S : AS) (l : List UInt8) (size : Int) (w : World) (h : At w d R S) (hW : WF S) (hl : l.length ≤ maxLen) :
    Calls Tryz.prog 251 #[.pointer (some ⟨d, 0, none⟩), .string ⟨l.toArray⟩, .int .i64 size] w fun e w' => e = .returned (.int .i64 (S.cut l size).2) ∧ Post d R S w (S.cut l size).1 w' := by
  unfold AS.cut
  by_cases hE : checkOf S.on [l] = 0
  · rw [if_pos hE]
    cases hn : look S.names l with
    | none =>
      refine (cut_err d l size _ 11 w (by decide) (find_none d R S l w h hl hE hn)).mono ?_
      rintro e w' ⟨he, hf⟩
      exact ⟨he, (PR.same h hf).post⟩
    | some n =>
      obtain ⟨r, hr⟩ := hW.ref l n hn
      simp only [hr]
      by_cases hs : size < 0 ∨ (r.bytes.length : Int) < size
      · rw [if_pos hs]
        exact (cut_arg d R S l size n r w h hW hl hE hn hr hs).mono fun e w' ⟨h1, h2⟩ => ⟨h1, h2.post⟩
      · rw [if_neg hs]
        obtain ⟨k, rfl⟩ : ∃ k : Nat, size = k := ⟨size.toNat, by omega⟩
        rcases stepE_01 S with he | he
        · rw [if_pos he]
          exact cut_ok d R S l k n r w h hW hl hE hn hr (by omega) he
        · rw [if_neg (by rw [he]; decide), he]
          exact (cut_out d R S l k n r w h hW hl hE hn hr (by omega) (by omega) he).mono fun e w' ⟨h1, h2⟩ => ⟨h1, h2.post⟩
  · rw [if_neg hE]
    refine (cut_err d l size _ _ w hE (find_bad d R S l _ w h hl rfl hE)).mono ?_
    rintro e w' ⟨he, hf⟩
    exact ⟨he, (PR.same h hf).post⟩

theorem WF.cut {S : AS} (h : WF S) (l : List UInt8) (size : Int) : WF (S.cut l size).1 := by
  unfold AS.cut
  by_cases hE : checkOf S.on [l] = 0
  · rw [if_pos hE]
    cases hn : look S.names l with
    | none => exact h
    | some n =>
      obtain ⟨r, hr⟩ := h.ref l n hn
      simp only [hr]
      split
      · exact h
      · split
        · have h1 := h.step
          obtain ⟨e1, e2, e3, e4, e5, e6⟩ := step_same S
          have hr1 : S.step.file n = some r := by rw [e4]; exact hr
          refine ⟨h1.left, h1.room, h1.last, fun l' m hm => ?_, fun m q hq => ?_⟩
          · obtain ⟨q, hq⟩ := h1.ref l' m hm
            show ∃ r', upd S.step.file n _ m = some r'
            by_cases e : m = n
            · subst e; exact ⟨_, upd_same _ _ _⟩
            · exact ⟨q, by rw [upd_other _ _ e]; exact hq⟩
          · have hq' : upd S.step.file n (some { bytes := r.bytes.take size.toNat, firm := min r.firm size.toNat }) m = some q := hq
            by_cases e : m = n
            · subst e
              rw [upd_same] at hq'
              cases hq'
              have := h1.file m r hr1
              simp only [List.length_take]
              refine ⟨this.1, this.2.1, ?_, ?_⟩ <;> omega
            · rw [upd_other _ _ e] at hq'
              exact h1.file m q hq'
        · exact h.step
  · rw [if_neg hE]; exact h

end Go.Proofs.YtpeafckomahjgaaGreatDoor
