/- Write, that makes a file. -/
import Derived.Test.YtpeafckomahjgaaGreatDoorDB5
namespace Go.Proofs.YtpeafckomahjgaaGreatDoor
open Go.RowKit Go.Maps Go.Sort
set_option linter.unusedVariables false

theorem rising_len : ∀ (l : List Int) (lo hi : Int), l.Pairwise (· < ·) → (∀ x ∈ l, lo ≤ x ∧ x ≤ hi) → (l.length : Int) ≤ max 0 (hi - lo + 1)
  | [], lo, hi, _, _ => by simp; omega
  | x :: l, lo, hi, hp, hb => by
    obtain ⟨h1, h2⟩ := List.pairwise_cons.1 hp
    have hx := hb x (by simp)
    have ih := rising_len l (x + 1) hi h2 (fun y hy => by have := h1 y hy; have := hb y (by simp [hy]); omega)
    simp only [List.length_cons]
    push_cast
    omega

theorem fd_size {w : World} {d : Nat} {R : Rp} {S : AS} (h : At w d R S) (hW : WF S) : (Maps.size R.FD : Int) ≤ S.last := by
  have hl := hW.last
  cases hb : R.fb with
  | none =>
    have := h.files
    rw [hb] at this
    rw [show R.FD = .map [] from this]
    simp [Maps.size]; omega
  | some fb =>
    have hm := h.files
    rw [hb] at hm
    have ho : w.ownsMap Tryz.prog 3 ptrElem fb (Maps.size R.FD) R.FD := hm
    obtain ⟨es, he, hp, hk⟩ := ho.canon law3
    obtain ⟨es', he', hk'⟩ := ho.keysOf
    rw [he] at he'
    cases he'
    have hint : ∀ p ∈ es, ∃ n, p.1 = .int .i64 n := fun p hp => by
      obtain ⟨v, hv⟩ := hk' p hp
      obtain ⟨x, _, hx, _⟩ := Maps.keyOf_int_inv Tryz.underlying3 hv
      exact ⟨x, hx⟩
    let f : Lit × DU → Int := fun p => match p.1 with | .int _ n => n | _ => 0
    have hr := rising_len (es.map f) 1 S.last (by
      rw [List.pairwise_map]
      refine hp.imp_of_mem ?_
      intro p q hpm hqm hb
      obtain ⟨n, hn⟩ := hint p hpm
      obtain ⟨m, hm⟩ := hint q hqm
      show (match p.1 with | .int _ n => n | _ => 0) < (match q.1 with | .int _ n => n | _ => 0)
      rw [hn, hm] at hb ⊢
      simpa [Lit.before] using hb) (fun x hx => by
      obtain ⟨p, hpm, rfl⟩ := List.mem_map.1 hx
      obtain ⟨n, hn⟩ := hint p hpm
      have hh : has R.FD (.int .i64 n) = true := by
        rw [he, has_eq, List.any_eq_true]
        exact ⟨p, hpm, by rw [← hn]; exact WideAt.sameKey_self (hk p hpm)⟩
      have hfd := h.fd n
      show 1 ≤ (match p.1 with | .int _ n => n | _ => 0) ∧ (match p.1 with | .int _ n => n | _ => 0) ≤ S.last
      rw [hn]
      cases hf : S.file n with
      | none => rw [hf] at hfd; rw [show has R.FD (.int .i64 n) = false from hfd] at hh; cases hh
      | some r => have := hW.file n r hf; exact ⟨this.1, this.2.1⟩)
    rw [he, Maps.size_eq]
    rw [List.length_map] at hr
    omega

theorem opened_mem {w2 w3 : World} {d fb : Nat} {R : Rp} {S : AS} (h : At w2 d R S) (hfb : R.fb = some fb) (hn : S.file (S.last + 1) = none)
    (ho : w3.ownsMap Tryz.prog 3 ptrElem fb (Maps.size R.FD + 1) (R.FD.put (.int .i64 (S.last + 1)) (.lit (.int .i64 w2.heap.size))))
    (ht : ((w2.setCell ⟨d, 9, none⟩ (.int .i64 (S.last + 1))).alloc (.cells #[.slice none 0 0, .int .i64 0] 122)).mapTurned w3 fb) :
    PR d R S w2 (R.opened (S.last + 1) w2.heap.size) S.opened w3 := by
  have hfbd : fb ≠ d := fun e => h.apart.2.2.1 (e ▸ hfb)
  have hfl : fb < w2.heap.size := h.files.lt fb hfb
  have hs : (w2.setCell ⟨d, 9, none⟩ (.int .i64 (S.last + 1))).heap.size = w2.heap.size := by simp [World.setCell]
  have hg := ht.grown
  have hf : Fr (fun k => k = d ∨ k = fb) w2 w3 := (((Fr.refl _ w2).setCell (p := ⟨d, 9, none⟩) (fun _ => .inl rfl) _).alloc _).grown hg (fun k hk _ => .inr (by cases hk; rfl))
  have hd := h.blk.lt
  refine PR.opened h hfb hn hf ?_ (owns_tight ho) ?_ (Nat.le_refl _)
  · refine Blk.of (w := (w2.setCell ⟨d, 9, none⟩ (.int .i64 (S.last + 1))).alloc (.cells #[.slice none 0 0, .int .i64 0] 122)) ?_ (hg.block d (by simp [hs]; omega) (fun e => hfbd (by cases e; rfl)))
    exact Blk.of (h.blk.set_ 9 (.int .i64 (S.last + 1))) (Below.heap_alloc _ _ d (by rw [hs]; exact hd))
  · have hnew := Blk.new (w2.setCell ⟨d, 9, none⟩ (.int .i64 (S.last + 1))) 122 #[.slice none 0 0, .int .i64 0]
    rw [hs] at hnew
    exact hnew.of (hg.block _ (by simp [hs]) (fun e => by cases e; omega))

set_option maxRecDepth 100000 in
set_option maxHeartbeats 4000000 in
theorem write_new (d : Nat) (R : Rp) (S : AS) (l : List UInt8) (data : List UInt8) (w : World) (h : At w d R S) (hW : WF S) (hl : l.length ≤ maxLen) (hE : checkOf S.on [l] = 0) (hn : look S.names l = none)
    (hsz : Maps.size S.names ≤ 1000000) (hfit : usedOf S.file S.names + data.length ≤ S.room) (hfew : Maps.size S.names < 64) (hlast : S.last < 4611686018427387904) (hll : S.loose.length < 3000000000000) :
    Calls Tryz.prog 27 #[.pointer (some ⟨d, 0, none⟩), .string ⟨l.toArray⟩, .string ⟨data.toArray⟩] w fun e w' => e = .returned (.int .i64 S.stepE) ∧ Post d R S w ((S.made l).written (S.last + 1) { bytes := [], firm := 0 } data).step w' := by
  have hcon := check_new d R S l 0 w h hE hl
  have hon := on_of hE
  obtain ⟨nb, fb, e1, e2⟩ := h.onn hon
  obtain ⟨w1, hw1⟩ : ∃ w1, w.alloc (.cells #[.string ⟨l.toArray⟩] 9) = w1 := ⟨_, rfl⟩
  have f1 : Fr No w w1 := by rw [← hw1]; exact (Fr.refl _ w).alloc _
  rw [hw1] at hcon
  have h1 := h.keep f1
  have P1 := PR.same h f1
  have hnm := h1.names
  rw [e1] at hnm
  have hrun := run_look_none (b := nb) hnm hl hn
  have c5 := (cells_all h1).2.2.2.2.2.1
  rw [e1] at c5
  have hused := used_regrown h1 hW e1 hsz
  have HU := Lib.hid hused
  have c0 : ∀ dd os, (grow (redrawn w1 dd) os).cell? ⟨d, 0, none⟩ = some (.int .i64 S.room) := fun dd os => (cells_all (h1.regrown dd os)).1
  have c5' : ∀ dd os, (grow (redrawn w1 dd) os).cell? ⟨d, 5, none⟩ = some (.map (some nb)) := fun dd os => by
    have := (cells_all (h1.regrown dd os)).2.2.2.2.2.1
    rw [e1] at this; exact this
  have hlen := len_regrown h1 e1
  obtain ⟨hU1, hU2⟩ := used_bounds h hW hsz
  have hroom := hW.room
  generalize hu : usedOf S.file S.names = U at *
  have t1 : IntKind.i64.wrap (S.room - U) = S.room - U := IntWalk.i64_in _ (by omega)
  have t2 : decide (S.room - U < (data.length : Int)) = false := by simp; omega
  have t3 : decide ((64 : Int) ≤ (Maps.size S.names : Int)) = false := by simp; omega
  have hnone : S.file (S.last + 1) = none := by
    cases hf : S.file (S.last + 1) with
    | none => rfl
    | some r => have := (hW.file _ r hf).2.1; omega
  have hwl := hW.last
  have hwf : (Lit.int .i64 (S.last + 1)).wf = true := wf64 (by omega) (by omega)
  have hfds : Maps.size R.FD < maxLen := by have := fd_size h hW; unfold maxLen; omega
  have HC := Lib.hid hcon
  have HP1 := Lib.hid P1
  have HWF := Lib.hid hwf
  have HNN := Lib.hid hnone
  have HON := Lib.hid hon
  have hdlen : data.length ≤ 16777216 := by omega
  have HE1 := Lib.hid e1
  have HE2 := Lib.hid e2
  have hst := fun R' w' (h' : At w' d R' ((S.made l).written (S.last + 1) { bytes := [], firm := 0 } data)) => step_any d R' ((S.made l).written (S.last + 1) { bytes := [], firm := 0 } data) w' h' hW.left.2
  have HST := Lib.hid hst
  have halt := fun g w' (h' : At w' d (R.opened (S.last + 1) g) S.opened) => alter_any d (R.opened (S.last + 1) g) S.opened { frm := [], to := l, file := S.last + 1 } nb w' h' e1 (by simp [maxLen]) hl (by show Maps.size S.names < maxLen; unfold maxLen; omega) hwf hll
  have HAL := Lib.hid halt
  clear halt hst hused hu hn hE h hW hon h1 hnm f1 hl hcon P1 hwf hnone e1 e2
  go_enter Tryz.func27, Tryz.ntmps27
  go_wp2_with fail
  refine HC.out.mono ?_
  rintro e w' ⟨rfl, rfl⟩
  go_wp2_with fail
  refine wp_region_quiet_below mixed (by kernel_rfl) ?_
  repeat (first | go_big_quiet_step (exact HU.out _ _) | quiet_step (exact HU.out _ _))
  refine wpQuiet_nil ?_
  intro w2 hp
  have hb2 : Below w1.heap.size w1 w2 := by obtain ⟨p, rfl⟩ := hp; exact below_regrown _ _ _
  have P2 := HP1.out.trans (PR.same HP1.out.at_ (Fr.of_below hb2))
  have h2 := P2.at_
  have HP2 := Lib.hid P2
  have c9 := (cells_all h2).2.2.2.2.2.2.2.2.2
  have c8 := (cells_all h2).2.2.2.2.2.2.2.2.1
  rw [HE2.out] at c8
  have z9 := h2.blk.frozen 9
  have hfm := h2.files
  rw [HE2.out] at hfm
  have hfd : fb ≠ d := fun e => h2.apart.2.2.1 (e ▸ HE2.out)
  have hfm' : ((w2.setCell ⟨d, 9, none⟩ (.int .i64 (S.last + 1))).alloc (.cells #[.slice none 0 0, .int .i64 0] 122)).ownsMap Tryz.prog 3 ptrElem fb (Maps.size R.FD) R.FD :=
    (World.ownsMap.setCell (b := fb) hfm (a := ⟨d, 9, none⟩) hfd _).alloc _
  have HFM := Lib.hid hfm'
  clear hp hb2 P2 h2 HP1 HU HC c0 c5 c5' hlen hrun t1 t2 t3 hfm hfm' hfd
  go_wp2_with (at_mapUpdate; refine wpList_mapUpdate_in _ rfl _ _ _ 76 rfl 3 111 law3 Tryz.underlying76 ptrElem fb _ R.FD rfl HFM.out hfds _ _ (.int .i64 (S.last + 1)) rfl rfl (key3 _ HWF.out) (.lit (.int .i64 w2.heap.size)) [] (ptrElem_mk w2.heap.size) ?_; intro w3 hown3 hturn3; have P3 := HP2.out.trans (opened_mem HP2.out.at_ HE2.out HNN.out hown3 hturn3); have HP3 := Lib.hid P3; clear hown3 hturn3 P3 HP2 HFM)
  refine (HAL.out _ _ HP3.out.at_).mono ?_
  rintro e w4 ⟨rfl, hpost⟩
  obtain ⟨R2, P4'⟩ := hpost
  have P4 := HP3.out.trans P4'
  have h4 : At w4 d R2 (S.made l) := P4.at_
  have hr4 : (S.made l).file (S.last + 1) = some { bytes := [], firm := 0 } := upd_same _ _ _
  obtain ⟨nb2, fb2, e1', e2'⟩ := h4.onn HON.out
  have hfl := h4.files
  rw [e2'] at hfl
  have hfd := h4.fd (S.last + 1)
  rw [hr4] at hfd
  obtain ⟨hfa, hfb, hfo⟩ := hfd
  have hrun2 := run_file (b := fb2) hfl HWF.out hfa
  have c8' := (cells_all h4).2.2.2.2.2.2.2.2.1
  rw [e2'] at c8'
  have k0 : w4.cell? ⟨(R2.rc (S.last + 1)).1, 0, none⟩ = some (R2.rc (S.last + 1)).2 := hfb.cell 0
  have hq : ∀ w5, w4.grownBy w5 (R2.rc (S.last + 1)).2.ownBlock → w5.cell? ⟨(R2.rc (S.last + 1)).1, 0, none⟩ = some (R2.rc (S.last + 1)).2 ∧ w5.frozen? ⟨(R2.rc (S.last + 1)).1, 0, none⟩ = false := fun w5 hg => by
    have := blk_grown hfb hg (fun e => own_blk_ne hfo e hfb (by decide) rfl)
    exact ⟨this.cell 0, this.frozen 0⟩
  have HQ := Lib.hid hq
  have HO := Lib.hid hfo
  have HP4 := Lib.hid P4
  have HR4 := Lib.hid hr4
  have hblen : ([] : List UInt8).length + data.length ≤ 140737488355328 := by simp; omega
  have HBL := Lib.hid hblen
  clear P4' P4 h4 hr4 e1' e2' hfl hfa hfb hfo hq hblen c8 c9 z9 HP3 HAL
  go_wp2_with (at_builtin; refine wpList_app rfl _ _ rfl _ _ _ data rfl rfl HO.out HBL.out ?_; intro vA vc w5 ho5 hg5 hv5; have q0 := (HQ.out w5 hg5).1; have qf := (HQ.out w5 hg5).2; have P5 := HP4.out.trans (app_end (S := S.made l) HP4.out.at_ HR4.out ho5 hg5 hv5); have HP5 := Lib.hid P5; clear ho5 hg5 hv5 P5 HQ HO HP4)
  have P5 := HP5.out
  rw [show ([] : List UInt8).length + data.length = data.length from by simp] at P5
  refine (HST.out _ _ P5.at_).mono ?_
  rintro e w6 ⟨rfl, h6, f6⟩
  have P6 := P5.trans (PR.own h6 f6 (step_same _).2.2.2.1)
  clear h6 f6 HP5 P5 HST
  go_wp2
  go_ret
  exact ⟨rfl, P6.post⟩

end Go.Proofs.YtpeafckomahjgaaGreatDoor
