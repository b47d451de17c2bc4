/- Write, to a file that is there. -/
import Derived.Test.YtpeafckomahjgaaGreatDoorDB3
namespace Go.Proofs.YtpeafckomahjgaaGreatDoor
open Go.RowKit Go.Maps Go.Sort
set_option linter.unusedVariables false

theorem blk_grown {w w' : World} {g : Nat} {t : TypeId} {cs : Array Value} {row : Option Nat} (h : Blk w g t cs) (hg : w.grownBy w' row) (hne : row ≠ some g) : Blk w' g t cs := h.of (hg.block g h.lt (fun e => hne e.symm))

/-- The text has been put behind a file's end. -/
theorem app_end {w w3 : World} {d : Nat} {R : Rp} {S : AS} {n : Int} {r : FR} {data : List UInt8} {v' : Value} (h : At w d R S) (hr : S.file n = some r)
    (ho : w3.ownsRow 0 5 1 v' (r.bytes.length + data.length) (r.bytes.map byteV ++ data.map byteV)) (hg : w.grownBy w3 (R.rc n).2.ownBlock) (hv : ∀ k, v'.ownBlock = some k → (R.rc n).2.ownBlock = some k ∨ w.heap.size ≤ k) :
    PR d R S w { R with rc := upd R.rc n ((R.rc n).1, v') } (S.written n r data) (w3.setCell ⟨(R.rc n).1, 0, none⟩ v') := by
  have hfd := h.fd n
  rw [hr] at hfd
  obtain ⟨_, h2, h3⟩ := hfd
  have hrow : (R.rc n).2.ownBlock ≠ some (R.rc n).1 := fun e => own_blk_ne h3 e h2 (by decide) rfl
  have hb3 := blk_grown h2 hg hrow
  have hf : Fr (fileB R n) w (w3.setCell ⟨(R.rc n).1, 0, none⟩ v') := ((Fr.refl _ w).grown hg (fun k hk _ => .inr hk)).setCell (p := ⟨(R.rc n).1, 0, none⟩) (fun _ => .inl rfl) _
  refine PR.file (r' := { bytes := r.bytes ++ data, firm := r.firm }) h hr hf (hb3.set_ 0 _) ?_ hv
  have := own_of ho (w' := w3.setCell ⟨(R.rc n).1, 0, none⟩ v') (fun k hk => Below.heap_setCell _ _ _ _ (own_blk_ne ho hk hb3 (by decide)))
  simpa [List.length_append, List.map_append] using this

theorem written_step (S : AS) (n : Int) (r : FR) (data : List UInt8) : (S.written n r data).stepE = S.stepE ∧ (S.written n r data).left = S.left := ⟨rfl, rfl⟩

set_option maxRecDepth 100000 in
set_option maxHeartbeats 2000000 in
theorem write_old (d : Nat) (R : Rp) (S : AS) (l : List UInt8) (n : Int) (r : FR) (data : List UInt8) (w : World) (h : At w d R S) (hW : WF S) (hl : l.length ≤ maxLen) (hE : checkOf S.on [l] = 0) (hn : look S.names l = some n) (hr : S.file n = some r)
    (hsz : Maps.size S.names ≤ 1000000) (hfit : usedOf S.file S.names + data.length ≤ S.room) :
    Calls Tryz.prog 27 #[.pointer (some ⟨d, 0, none⟩), .string ⟨l.toArray⟩, .string ⟨data.toArray⟩] w fun e w' => e = .returned (.int .i64 S.stepE) ∧ Post d R S w (S.written n r data).step w' := by
  have hcon := check_new d R S l 0 w h hE hl
  have hon := on_of hE
  obtain ⟨nb, fb, e1, e2⟩ := h.onn hon
  obtain ⟨w1, hw1⟩ : ∃ w1, w.alloc (.cells #[.string ⟨l.toArray⟩] 9) = w1 := ⟨_, rfl⟩
  have f1 : Fr No w w1 := by rw [← hw1]; exact (Fr.refl _ w).alloc _
  rw [hw1] at hcon
  have h1 := h.keep f1
  have P1 := PR.same h f1
  have hnm := h1.names
  rw [e1] at hnm
  have hrun := run_look_some (b := nb) hnm hl hn
  have c5 := (cells_all h1).2.2.2.2.2.1
  rw [e1] at c5
  have hused := used_regrown h1 hW e1 hsz
  have HU := Lib.hid hused
  have c0 : ∀ dd os, (grow (redrawn w1 dd) os).cell? ⟨d, 0, none⟩ = some (.int .i64 S.room) := fun dd os => (cells_all (h1.regrown dd os)).1
  obtain ⟨hU1, hU2⟩ := used_bounds h hW hsz
  have hroom := hW.room
  generalize hu : usedOf S.file S.names = U at *
  have hsd : (⟨data.toArray⟩ : ByteArray).size = data.length := by simp [ByteArray.size]
  have t1 : IntKind.i64.wrap (S.room - U) = S.room - U := IntWalk.i64_in _ (by omega)
  have t2 : decide (S.room - U < (data.length : Int)) = false := by simp; omega
  have HC := Lib.hid hcon
  have hwf := hW.wf hr
  have hblen : r.bytes.length + data.length ≤ 140737488355328 := by have := (hW.file n r hr).2.2.2; omega
  have hst := fun R' w' (h' : At w' d R' (S.written n r data)) => step_any d R' (S.written n r data) w' h' hW.left.2
  have HST := Lib.hid hst
  have HP1 := Lib.hid P1
  clear hused hu hn hE h hW hon e1 h1 hnm f1 hl hcon P1 hst hsd
  go_enter Tryz.func27, Tryz.ntmps27
  go_wp2_with fail
  refine HC.out.mono ?_
  rintro e w' ⟨rfl, rfl⟩
  go_wp2_with fail
  refine wp_region_quiet_below mixed (by kernel_rfl) ?_
  repeat (first | go_big_quiet_step (exact HU.out _ _) | quiet_step (exact HU.out _ _))
  refine wpQuiet_nil ?_
  intro w2 hp
  have hb2 : Below w1.heap.size w1 w2 := by obtain ⟨p, rfl⟩ := hp; exact below_regrown _ _ _
  have P2 := HP1.out.trans (PR.same HP1.out.at_ (Fr.of_below hb2))
  have h2 := P2.at_
  have hfl := h2.files
  rw [e2] at hfl
  have hfd := h2.fd n
  rw [hr] at hfd
  obtain ⟨hfa, hfb, hfo⟩ := hfd
  have hrun2 := run_file (b := fb) hfl hwf hfa
  have c8 := (cells_all h2).2.2.2.2.2.2.2.2.1
  rw [e2] at c8
  have k0 : w2.cell? ⟨(R.rc n).1, 0, none⟩ = some (R.rc n).2 := hfb.cell 0
  have hq : ∀ w3, w2.grownBy w3 (R.rc n).2.ownBlock → w3.cell? ⟨(R.rc n).1, 0, none⟩ = some (R.rc n).2 ∧ w3.frozen? ⟨(R.rc n).1, 0, none⟩ = false := fun w3 hg => by
    have := blk_grown hfb hg (fun e => own_blk_ne hfo e hfb (by decide) rfl)
    exact ⟨this.cell 0, this.frozen 0⟩
  have HQ := Lib.hid hq
  have HO := Lib.hid hfo
  have HP2 := Lib.hid P2
  clear hp hb2 P2 h2 hfl hfa hfb hfo hq HP1 HU HC c0 c5 hrun hwf e2 t1 t2
  go_wp2_with (at_builtin; refine wpList_app rfl _ _ rfl _ _ _ data rfl rfl HO.out hblen ?_; intro vA vc w3 ho3 hg3 hv3; have q0 := (HQ.out w3 hg3).1; have qf := (HQ.out w3 hg3).2; have P3 := HP2.out.trans (app_end HP2.out.at_ hr ho3 hg3 hv3); have HP3 := Lib.hid P3; clear ho3 hg3 hv3 P3 HQ HO HP2)
  refine (HST.out _ _ HP3.out.at_).mono ?_
  rintro e w4 ⟨rfl, h4, f4⟩
  have P4 := HP3.out.trans (PR.own h4 f4 (step_same _).2.2.2.1)
  clear h4 f4 HP3 HST
  go_wp2
  go_ret
  exact ⟨rfl, P4.post⟩

end Go.Proofs.YtpeafckomahjgaaGreatDoor
