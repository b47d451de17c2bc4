/- The document's own net: ask, Send, Move. -/
import Derived.Test.YthcpdeffgdaieaaD3
import Derived.StillTailTactics
namespace Go.Proofs.Ythcpdeffgdaieaa
open Go.RowKit Go.Maps
set_option linter.unusedVariables false

theorem RAt.conn {w : World} {r : Nat} {Q : Rq} {S : NS} (h : RAt w r Q S) (hr : S.Right) {n : Int} {K : LK} (hK : S.link n = some K) : n ∈ S.keys ∧ ∃ sh, Blk w (Q.rg n) 38 (refCells n K sh) ∧ ShOk K sh := by
  have hn : n ∈ S.keys := (hr.2 n).2 (by rw [hK]; rfl)
  obtain ⟨K', sh, h1, h2, h3⟩ := h.con n hn
  rw [hK] at h1
  cases h1
  exact ⟨hn, sh, h2, h3⟩

/-- What the document's net needs of its state. -/
structure RW (S : NS) : Prop where
  wf : WF S
  live : S.Live
  few : S.keys.length ≤ 8

theorem rfind_none (r : Nat) (Q : Rq) (S : NS) (conn side : Int) (w : World) (h : RAt w r Q S) (hW : RW S) (hn : ∀ s, side = sd s → S.link conn = none) :
    Calls Try.prog 41 #[.pointer (some ⟨r, 0, none⟩), .int .i64 conn, .int .i64 side] w fun e w' => e = .returned (.pointer none) ∧ w = w' := by
  refine rfind_no r Q S conn side w h hW.few fun n hnk e hs => ?_
  subst e
  have hl := (hW.wf.right.2 n).1 hnk
  have : side = 0 ∨ side = 1 := by omega
  rcases this with e | e
  · rw [hn false e] at hl; cases hl
  · rw [hn true e] at hl; cases hl
theorem rfind_some (r : Nat) (Q : Rq) (S : NS) (conn : Int) (s : Bool) (K : LK) (w : World) (h : RAt w r Q S) (hW : RW S) (hK : S.link conn = some K) :
    Calls Try.prog 41 #[.pointer (some ⟨r, 0, none⟩), .int .i64 conn, .int .i64 (sd s)] w fun e w' => e = .returned (.pointer (some ⟨Q.rg conn, 0, none⟩)) ∧ w = w' :=
  rfind_yes r Q S conn (sd s) w h hW.few (h.conn hW.wf.right hK).1 (sd_bd s).1 (sd_bd s).2

set_option maxHeartbeats 400000 in
theorem ask_none (r : Nat) (Q : Rq) (S : NS) (conn side : Int) (w : World) (h : RAt w r Q S) (hW : RW S) (hn : ∀ s, side = sd s → S.link conn = none) :
    Calls Try.prog 38 #[.pointer (some ⟨r, 0, none⟩), .int .i64 conn, .int .i64 side] w fun e w' => e = .returned (.tuple #[.pointer none, .int .i64 14]) ∧ Postr r Q S w S w' := by
  have hf := rfind_none r Q S conn side w h hW hn
  have HP := Lib.hid (Postr.refl h)
  clear h hW hn
  go_enter Try.func38, Try.ntmps38
  go_wp2_with (go_at_call 41; refine hf.mono ?_; rintro e w' ⟨rfl, rfl⟩)
  go_ret2
  exact ⟨rfl, HP.out⟩

set_option maxHeartbeats 400000 in
theorem ask_ok (r : Nat) (Q : Rq) (S : NS) (conn : Int) (s : Bool) (K : LK) (w : World) (h : RAt w r Q S) (hW : RW S) (hK : S.link conn = some K) (hc : K.cut = false) :
    Calls Try.prog 38 #[.pointer (some ⟨r, 0, none⟩), .int .i64 conn, .int .i64 (sd s)] w fun e w' => e = .returned (.tuple #[.pointer (some ⟨Q.rg conn, 0, none⟩), .int .i64 0]) ∧ w = w' := by
  have hf := rfind_some r Q S conn s K w h hW hK
  obtain ⟨_, sh, hb, _⟩ := h.conn hW.wf.right hK
  have x9 : w.cell? ⟨Q.rg conn, 9, none⟩ = some (.bool false) := by rw [hb.cell 9, ← hc]; rfl
  clear h hW hK hc hb
  go_enter Try.func38, Try.ntmps38
  go_wp2_with (go_at_call 41; refine hf.mono ?_; rintro e w' ⟨rfl, rfl⟩)
  go_ret2
  exact ⟨rfl, rfl⟩

theorem refCells_tell (n : Int) (K : LK) (sh : Bool → Bool) (hc : K.cut = true) (s : Bool) : (refCells n K sh).setIfInBounds (if s then 8 else 7) (.bool true) = refCells n (K.tell s) sh := by
  cases s <;> simp [refCells, LK.tell, updB, hc, LK.wayL, LK.thereL]

theorem RW.setL {S : NS} (h : RW S) {n : Int} {K K' : LK} (hK : S.link n = some K) (hf : K'.Fit) : WF (S.setL n K') ∧ (S.setL n K').keys.length ≤ 8 := ⟨h.wf.setL hK hf, h.few⟩

set_option maxHeartbeats 1000000 in
theorem ask_cut (r : Nat) (Q : Rq) (S : NS) (conn : Int) (s : Bool) (K : LK) (w : World) (h : RAt w r Q S) (hW : RW S) (hK : S.link conn = some K) (hc : K.cut = true) :
    Calls Try.prog 38 #[.pointer (some ⟨r, 0, none⟩), .int .i64 conn, .int .i64 (sd s)] w fun e w' => e = .returned (.tuple #[.pointer none, .int .i64 17]) ∧ Postr r Q S w (S.tell conn K s) w' := by
  have hf := rfind_some r Q S conn s K w h hW hK
  obtain ⟨hn, sh, hb, hs⟩ := h.conn hW.wf.right hK
  have x9 : w.cell? ⟨Q.rg conn, 9, none⟩ = some (.bool true) := by rw [hb.cell 9, ← hc]; rfl
  have x7 : w.cell? ⟨Q.rg conn, 7, none⟩ = some (.bool (K.cut && K.told false)) := hb.cell 7
  have x8 : w.cell? ⟨Q.rg conn, 8, none⟩ = some (.bool (K.cut && K.told true)) := hb.cell 8
  have f7 := hb.frozen 7
  have f8 := hb.frozen 8
  have hP : PRr r Q S w Q (S.setL conn (K.tell s)) (w.setCell ⟨Q.rg conn, (if s then 8 else 7), none⟩ (.bool true)) :=
    PRrcon h hn ((Fr.refl (One (Q.rg conn)) w).setCell (p := ⟨Q.rg conn, _, none⟩) (fun _ => rfl) _) (by rw [← refCells_tell conn K sh hc s]; exact hb.set_ _ _) (fun hx => by have : (K.tell s).cut = K.cut := rfl; rw [this, hc] at hx; cases hx)
  have hsl := hW.setL hK (fit_tell (hW.wf.fit hK) s)
  have hg := goes_any r Q _ _ hP.at_ hsl.1 hsl.2
  rw [goes_tell hW.wf.right hW.live hK hc s] at hg
  have hg2 : Calls Try.prog 40 #[.pointer (some ⟨r, 0, none⟩)] (w.setCell ⟨Q.rg conn, (if s then 8 else 7), none⟩ (.bool true)) fun e w' => e = .returned (.tuple #[]) ∧ Postr r Q S w (S.tell conn K s) w' :=
    hg.mono fun e w' ⟨h1, Q', h2⟩ => ⟨h1, Q', hP.trans h2⟩
  have HG := Lib.hid hg2
  clear h hW hK hc hb hn hs hP hsl hg hg2
  cases s
  · have hf' : Calls Try.prog 41 #[.pointer (some ⟨r, 0, none⟩), .int .i64 conn, .int .i64 0] w fun e w' => e = .returned (.pointer (some ⟨Q.rg conn, 0, none⟩)) ∧ w = w' := hf
    have HG' : Hid (Calls Try.prog 40 #[.pointer (some ⟨r, 0, none⟩)] (w.setCell ⟨Q.rg conn, 7, none⟩ (.bool true)) fun e w' => e = .returned (.tuple #[]) ∧ Postr r Q S w (S.tell conn K false) w') := Lib.hid HG.out
    show Calls Try.prog 38 #[.pointer (some ⟨r, 0, none⟩), .int .i64 conn, .int .i64 0] w _
    clear hf HG
    go_enter Try.func38, Try.ntmps38
    go_wp2_with (first | (go_at_call 41; refine hf'.mono ?_; rintro e w' ⟨rfl, rfl⟩) | (go_at_call 40; refine HG'.out.mono ?_; rintro e w' ⟨rfl, hP⟩; have HP := Lib.hid hP; clear hP))
    go_ret2
    exact ⟨rfl, HP.out⟩
  · have hf' : Calls Try.prog 41 #[.pointer (some ⟨r, 0, none⟩), .int .i64 conn, .int .i64 1] w fun e w' => e = .returned (.pointer (some ⟨Q.rg conn, 0, none⟩)) ∧ w = w' := hf
    have HG' : Hid (Calls Try.prog 40 #[.pointer (some ⟨r, 0, none⟩)] (w.setCell ⟨Q.rg conn, 8, none⟩ (.bool true)) fun e w' => e = .returned (.tuple #[]) ∧ Postr r Q S w (S.tell conn K true) w') := Lib.hid HG.out
    show Calls Try.prog 38 #[.pointer (some ⟨r, 0, none⟩), .int .i64 conn, .int .i64 1] w _
    clear hf HG
    go_enter Try.func38, Try.ntmps38
    go_wp2_with (first | (go_at_call 41; refine hf'.mono ?_; rintro e w' ⟨rfl, rfl⟩) | (go_at_call 40; refine HG'.out.mono ?_; rintro e w' ⟨rfl, hP⟩; have HP := Lib.hid hP; clear hP))
    go_ret2
    exact ⟨rfl, HP.out⟩

/-! ### lesser -/
def lsr (a b : Int) : Int := if a < 0 then 0 else if a < b then a else b
set_option maxHeartbeats 400000 in
theorem lesser_any (a b : Int) (w : World) : Calls Try.prog 39 #[.int .i64 a, .int .i64 b] w fun e w' => e = .returned (.int .i64 (lsr a b)) ∧ w = w' := by
  by_cases h0 : a < 0
  · have e : lsr a b = 0 := by unfold lsr; rw [if_pos h0]
    rw [e]; clear e
    go_enter Try.func39, Try.ntmps39
    go_wp2
    go_ret
    exact ⟨rfl, rfl⟩
  · by_cases h1 : a < b
    · have e : lsr a b = a := by unfold lsr; rw [if_neg h0, if_pos h1]
      rw [e]; clear e
      go_enter Try.func39, Try.ntmps39
      go_wp2
      go_ret
      exact ⟨rfl, rfl⟩
    · have e : lsr a b = b := by unfold lsr; rw [if_neg h0, if_neg h1]
      rw [e]; clear e
      go_enter Try.func39, Try.ntmps39
      go_wp2
      go_ret
      exact ⟨rfl, rfl⟩
theorem lsr_amt (a b : Int) (h : 0 ≤ b) : lsr a b = amt a b := by unfold lsr amt; split <;> (try split) <;> omega

/-! ### Send -/
set_option maxHeartbeats 400000 in
theorem rsend_err (r : Nat) (conn side : Int) (data : List UInt8) (E : Int) (P : World → Prop) (w : World) (hE : E ≠ 0)
    (hr : Calls Try.prog 38 #[.pointer (some ⟨r, 0, none⟩), .int .i64 conn, .int .i64 side] w fun e w' => e = .returned (.tuple #[.pointer none, .int .i64 E]) ∧ P w') :
    Calls Try.prog 19 #[.pointer (some ⟨r, 0, none⟩), .int .i64 conn, .int .i64 side, .string ⟨data.toArray⟩] w fun e w' => e = .returned (.tuple #[.int .i64 0, .int .i64 E]) ∧ P w' := by
  have hb : (E != 0) = true := by simpa using hE
  clear hE
  go_enter Try.func19, Try.ntmps19
  go_wp2_with fail
  refine hr.mono ?_
  rintro e w' ⟨rfl, hP⟩
  have HP := Lib.hid hP; clear hP hr
  go_wp2
  go_ret2
  exact ⟨rfl, HP.out⟩

theorem refCells_send (n : Int) (K : LK) (sh : Bool → Bool) (s : Bool) (data : List UInt8) (hc : K.cut = false) (ha : (K.way (!s)).arr ≤ (K.way (!s)).bytes.length) :
    (refCells n K sh).setIfInBounds (if s then 1 else 2) (strV (K.wayL (!s) ++ data.take (K.sent s data))) = refCells n (K.send s data) sh := by
  have e1 : ∀ l : List UInt8, List.drop (K.way (!s)).arr ((K.way (!s)).bytes ++ l) = List.drop (K.way (!s)).arr (K.way (!s)).bytes ++ l := fun l => List.drop_append_of_le_length ha
  have e2 : ∀ l : List UInt8, List.take (K.way (!s)).arr ((K.way (!s)).bytes ++ l) = List.take (K.way (!s)).arr (K.way (!s)).bytes := fun l => List.take_append_of_le_length ha
  cases s
  · simp only [Bool.not_false] at e1 e2 ⊢
    simp [refCells, LK.send, LK.setW, updB, LK.wayL, LK.thereL, e1, e2, hc]
  · simp only [Bool.not_true] at e1 e2 ⊢
    simp [refCells, LK.send, LK.setW, updB, LK.wayL, LK.thereL, e1, e2, hc]

set_option maxRecDepth 100000 in
set_option maxHeartbeats 4000000 in
theorem rsend_ok (r : Nat) (Q : Rq) (S : NS) (conn : Int) (s : Bool) (K : LK) (data : List UInt8) (w : World) (h : RAt w r Q S) (hW : RW S) (hK : S.link conn = some K) (hc : K.cut = false) (hs : (K.way (!s)).shut = false) (hd : data.length ≤ 140737488355328) :
    Calls Try.prog 19 #[.pointer (some ⟨r, 0, none⟩), .int .i64 conn, .int .i64 (sd s), .string ⟨data.toArray⟩] w fun e w' => e = .returned (.tuple #[.int .i64 (K.sent s data), .int .i64 0]) ∧ Postr r Q S w (S.setL conn (K.send s data)) w' := by
  have hre := ask_ok r Q S conn s K w h hW hK hc
  obtain ⟨hn, sh, hb, hsh⟩ := h.conn hW.wf.right hK
  have hwy := hW.wf.way conn K (!s) hK
  have hx5 : ∀ t, w.cell? ⟨Q.rg conn, 5 + (sd t).toNat, none⟩ = some (.bool (sh t)) := fun t => by cases t; exact hb.cell 5; exact hb.cell 6
  have hsx : sh s = false := by rw [hsh hc s]; exact hs
  have hl : ((K.wayL (!s)).length : Int) + (K.thereL (!s)).length = (K.way (!s)).bytes.length := by unfold LK.wayL LK.thereL; rw [List.length_drop, List.length_take]; omega
  have hk1 : K.sent s data ≤ data.length := Nat.min_le_left _ _
  have hk2 : K.sent s data ≤ 65536 - (K.way (!s)).bytes.length := Nat.min_le_right _ _
  have hlsr : lsr data.length (65536 - ((K.wayL (!s)).length : Int) - ((K.thereL (!s)).length : Int)) = (K.sent s data : Int) := by
    have : K.sent s data = min data.length (65536 - (K.way (!s)).bytes.length) := rfl
    unfold lsr; split <;> (try split) <;> omega
  have hls : ∀ n, Calls Try.prog 39 #[.int .i64 data.length, .int .i64 (65536 - ((K.wayL (!s)).length : Int) - ((K.thereL (!s)).length : Int))] (w.drewN n) fun e w' => e = .returned (.int .i64 (K.sent s data)) ∧ w' = w.drewN n := fun n =>
    (lesser_any _ _ _).mono fun e w' ⟨h1, h2⟩ => ⟨h1.trans (ret_int hlsr), h2.symm⟩
  have HLS := fun n => Lib.hid (Calls.quiet_of_same (hls n))
  have hlw : (K.wayL (!s)).length ≤ 65536 := by omega
  have hlt : (K.thereL (!s)).length ≤ 65536 := by omega
  have hcat : ∀ w0, (Op.stringOp .add ⟨(K.wayL (!s)).toArray⟩ ((⟨data.toArray⟩ : ByteArray).extract 0 (K.sent s data))).run Try.prog w0 = .ok (.string ⟨(K.wayL (!s) ++ data.take (K.sent s data)).toArray⟩) w0 := fun w0 => by
    rw [extract_take, run_string_add_sum w0 _ _ (by simp [ByteArray.size]; omega), ByteArray.mk_append_mk]
  have hP : ∀ m, Postr r Q S w (S.setL conn (K.send s data)) ((w.drewN m).setCell ⟨Q.rg conn, (if s then 1 else 2), none⟩ (.string ⟨(K.wayL (!s) ++ data.take (K.sent s data)).toArray⟩)) := fun m =>
    ⟨Q, PRrcon h hn (((Fr.refl (One (Q.rg conn)) w).drewN m).setCell (p := ⟨Q.rg conn, _, none⟩) (fun _ => rfl) _) (by rw [← refCells_send conn K sh s data hc hwy.1]; exact Blk.set_ (w := w.drewN m) (hb.of rfl) _ _) (fun _ t => by
      rw [hsh hc t]; unfold LK.send LK.setW updB; simp only; split
      · rename_i e; rw [e]
      · rfl)⟩
  have HP := fun m => Lib.hid (hP m)
  have b1 : (0 : Int) ≤ (K.sent s data : Int) := by omega
  have b2 : (K.sent s data : Int) ≤ (data.length : Int) := by omega
  have x5 : w.cell? ⟨Q.rg conn, 5, none⟩ = some (.bool (sh false)) := hb.cell 5
  have x6 : w.cell? ⟨Q.rg conn, 6, none⟩ = some (.bool (sh true)) := hb.cell 6
  have x1 : w.cell? ⟨Q.rg conn, 1, none⟩ = some (.string ⟨(K.wayL false).toArray⟩) := hb.cell 1
  have x2 : w.cell? ⟨Q.rg conn, 2, none⟩ = some (.string ⟨(K.wayL true).toArray⟩) := hb.cell 2
  have x3 : w.cell? ⟨Q.rg conn, 3, none⟩ = some (.string ⟨(K.thereL false).toArray⟩) := hb.cell 3
  have x4 : w.cell? ⟨Q.rg conn, 4, none⟩ = some (.string ⟨(K.thereL true).toArray⟩) := hb.cell 4
  have f1 := hb.frozen 1
  have f2 := hb.frozen 2
  clear h hW hK hc hs hn hb hsh hwy hx5 hl hk1 hk2 hlsr hls hP
  cases s
  · rw [hsx] at x5
    clear hsx
    simp only [Bool.not_false] at HLS hcat hlw hlt
    have HP' : ∀ m, Hid (Postr r Q S w (S.setL conn (K.send false data)) ((w.drewN m).setCell ⟨Q.rg conn, 2, none⟩ (.string ⟨(K.wayL true ++ data.take (K.sent false data)).toArray⟩))) := HP
    show Calls Try.prog 19 #[.pointer (some ⟨r, 0, none⟩), .int .i64 conn, .int .i64 0, .string ⟨data.toArray⟩] w _
    have hre' : Calls Try.prog 38 #[.pointer (some ⟨r, 0, none⟩), .int .i64 conn, .int .i64 0] w fun e w' => e = .returned (.tuple #[.pointer (some ⟨Q.rg conn, 0, none⟩), .int .i64 0]) ∧ w = w' := hre
    clear hre HP
    go_enter Try.func19, Try.ntmps19
    go_wp2_with (go_at_call 38; refine hre'.mono ?_; rintro e w' ⟨rfl, rfl⟩)
    go_quiet ((go_at_call 39; exact (HLS _).out))
    go_wp2_with fail
    obtain ⟨wq, hwq⟩ : ∃ wq, w.drewN nq = wq := ⟨_, rfl⟩
    have y1 : wq.cell? ⟨Q.rg conn, 2, none⟩ = some (.string ⟨(K.wayL true).toArray⟩) := by rw [← hwq]; exact x2
    have fy : wq.frozen? ⟨Q.rg conn, 2, none⟩ = false := by rw [← hwq]; exact f2
    have HQ : Hid (Postr r Q S w (S.setL conn (K.send false data)) (wq.drew.setCell ⟨Q.rg conn, 2, none⟩ (.string ⟨(K.wayL true ++ data.take (K.sent false data)).toArray⟩))) := by rw [← hwq]; exact HP' (nq + 1)
    rw [hwq]
    clear hwq HP' HLS x1 x2 x3 x4 x5 x6 f1 f2
    go_still_tail 15, (by kernel_rfl)
    change wpList _ _ _ _ _ (World.drew _)
    go_wp2
    go_ret2
    exact ⟨rfl, HQ.out⟩
  · rw [hsx] at x6
    clear hsx
    simp only [Bool.not_true] at HLS hcat hlw hlt
    have HP' : ∀ m, Hid (Postr r Q S w (S.setL conn (K.send true data)) ((w.drewN m).setCell ⟨Q.rg conn, 1, none⟩ (.string ⟨(K.wayL false ++ data.take (K.sent true data)).toArray⟩))) := HP
    show Calls Try.prog 19 #[.pointer (some ⟨r, 0, none⟩), .int .i64 conn, .int .i64 1, .string ⟨data.toArray⟩] w _
    have hre' : Calls Try.prog 38 #[.pointer (some ⟨r, 0, none⟩), .int .i64 conn, .int .i64 1] w fun e w' => e = .returned (.tuple #[.pointer (some ⟨Q.rg conn, 0, none⟩), .int .i64 0]) ∧ w = w' := hre
    clear hre HP
    go_enter Try.func19, Try.ntmps19
    go_wp2_with (go_at_call 38; refine hre'.mono ?_; rintro e w' ⟨rfl, rfl⟩)
    go_quiet ((go_at_call 39; exact (HLS _).out))
    go_wp2_with fail
    obtain ⟨wq, hwq⟩ : ∃ wq, w.drewN nq = wq := ⟨_, rfl⟩
    have y1 : wq.cell? ⟨Q.rg conn, 1, none⟩ = some (.string ⟨(K.wayL false).toArray⟩) := by rw [← hwq]; exact x1
    have fy : wq.frozen? ⟨Q.rg conn, 1, none⟩ = false := by rw [← hwq]; exact f1
    have HQ : Hid (Postr r Q S w (S.setL conn (K.send true data)) (wq.drew.setCell ⟨Q.rg conn, 1, none⟩ (.string ⟨(K.wayL false ++ data.take (K.sent true data)).toArray⟩))) := by rw [← hwq]; exact HP' (nq + 1)
    rw [hwq]
    clear hwq HP' HLS x1 x2 x3 x4 x5 x6 f1 f2
    go_still_tail 15, (by kernel_rfl)
    change wpList _ _ _ _ _ (World.drew _)
    go_wp2
    go_ret2
    exact ⟨rfl, HQ.out⟩

end Go.Proofs.Ythcpdeffgdaieaa
