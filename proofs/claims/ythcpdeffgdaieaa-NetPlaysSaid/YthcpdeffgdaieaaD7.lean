/- The document's own net: the calls, together; Stop, Waits. -/
import Derived.Test.YthcpdeffgdaieaaD6
namespace Go.Proofs.Ythcpdeffgdaieaa
open Go.RowKit Go.Maps
set_option linter.unusedVariables false


set_option maxHeartbeats 1000000 in
theorem rsend_shut (r g : Nat) (s : Bool) (conn : Int) (data : List UInt8) (n : Int) (K : LK) (sh : Bool → Bool) (w : World) (hb : Blk w g 38 (refCells n K sh)) (hs : sh s = true)
    (hr : Calls Try.prog 38 #[.pointer (some ⟨r, 0, none⟩), .int .i64 conn, .int .i64 (sd s)] w fun e w' => e = .returned (.tuple #[.pointer (some ⟨g, 0, none⟩), .int .i64 0]) ∧ w = w') :
    Calls Try.prog 19 #[.pointer (some ⟨r, 0, none⟩), .int .i64 conn, .int .i64 (sd s), .string ⟨data.toArray⟩] w fun e w' => e = .returned (.tuple #[.int .i64 0, .int .i64 16]) ∧ w = w' := by
  have x5 : w.cell? ⟨g, 5, none⟩ = some (.bool (sh false)) := hb.cell 5
  have x6 : w.cell? ⟨g, 6, none⟩ = some (.bool (sh true)) := hb.cell 6
  clear hb
  cases s
  · rw [hs] at x5
    clear hs x6
    show Calls Try.prog 19 #[.pointer (some ⟨r, 0, none⟩), .int .i64 conn, .int .i64 0, .string ⟨data.toArray⟩] w _
    have hr' : Calls Try.prog 38 #[.pointer (some ⟨r, 0, none⟩), .int .i64 conn, .int .i64 0] w fun e w' => e = .returned (.tuple #[.pointer (some ⟨g, 0, none⟩), .int .i64 0]) ∧ w = w' := hr
    clear hr
    go_enter Try.func19, Try.ntmps19
    go_wp2_with (go_at_call 38; refine hr'.mono ?_; rintro e w' ⟨rfl, rfl⟩)
    go_ret2
    exact ⟨rfl, rfl⟩
  · rw [hs] at x6
    clear hs x5
    show Calls Try.prog 19 #[.pointer (some ⟨r, 0, none⟩), .int .i64 conn, .int .i64 1, .string ⟨data.toArray⟩] w _
    have hr' : Calls Try.prog 38 #[.pointer (some ⟨r, 0, none⟩), .int .i64 conn, .int .i64 1] w fun e w' => e = .returned (.tuple #[.pointer (some ⟨g, 0, none⟩), .int .i64 0]) ∧ w = w' := hr
    clear hr
    go_enter Try.func19, Try.ntmps19
    go_wp2_with (go_at_call 38; refine hr'.mono ?_; rintro e w' ⟨rfl, rfl⟩)
    go_ret2
    exact ⟨rfl, rfl⟩

set_option maxHeartbeats 1000000 in
theorem rstop_twice (r g : Nat) (s : Bool) (conn : Int)  (n : Int) (K : LK) (sh : Bool → Bool) (w : World) (hb : Blk w g 38 (refCells n K sh)) (hs : sh s = true)
    (hr : Calls Try.prog 38 #[.pointer (some ⟨r, 0, none⟩), .int .i64 conn, .int .i64 (sd s)] w fun e w' => e = .returned (.tuple #[.pointer (some ⟨g, 0, none⟩), .int .i64 0]) ∧ w = w') :
    Calls Try.prog 22 #[.pointer (some ⟨r, 0, none⟩), .int .i64 conn, .int .i64 (sd s)] w fun e w' => e = .returned (.int .i64 16) ∧ w = w' := by
  have x5 : w.cell? ⟨g, 5, none⟩ = some (.bool (sh false)) := hb.cell 5
  have x6 : w.cell? ⟨g, 6, none⟩ = some (.bool (sh true)) := hb.cell 6
  clear hb
  cases s
  · rw [hs] at x5
    clear hs x6
    show Calls Try.prog 22 #[.pointer (some ⟨r, 0, none⟩), .int .i64 conn, .int .i64 0] w _
    have hr' : Calls Try.prog 38 #[.pointer (some ⟨r, 0, none⟩), .int .i64 conn, .int .i64 0] w fun e w' => e = .returned (.tuple #[.pointer (some ⟨g, 0, none⟩), .int .i64 0]) ∧ w = w' := hr
    clear hr
    go_enter Try.func22, Try.ntmps22
    go_wp2_with (go_at_call 38; refine hr'.mono ?_; rintro e w' ⟨rfl, rfl⟩)
    go_ret
    exact ⟨rfl, rfl⟩
  · rw [hs] at x6
    clear hs x5
    show Calls Try.prog 22 #[.pointer (some ⟨r, 0, none⟩), .int .i64 conn, .int .i64 1] w _
    have hr' : Calls Try.prog 38 #[.pointer (some ⟨r, 0, none⟩), .int .i64 conn, .int .i64 1] w fun e w' => e = .returned (.tuple #[.pointer (some ⟨g, 0, none⟩), .int .i64 0]) ∧ w = w' := hr
    clear hr
    go_enter Try.func22, Try.ntmps22
    go_wp2_with (go_at_call 38; refine hr'.mono ?_; rintro e w' ⟨rfl, rfl⟩)
    go_ret
    exact ⟨rfl, rfl⟩

set_option maxHeartbeats 400000 in
theorem rstop_err (r : Nat) (conn side : Int) (E : Int) (P : World → Prop) (w : World) (hE : E ≠ 0)
    (hr : Calls Try.prog 38 #[.pointer (some ⟨r, 0, none⟩), .int .i64 conn, .int .i64 side] w fun e w' => e = .returned (.tuple #[.pointer none, .int .i64 E]) ∧ P w') :
    Calls Try.prog 22 #[.pointer (some ⟨r, 0, none⟩), .int .i64 conn, .int .i64 side] w fun e w' => e = .returned (.int .i64 E) ∧ P w' := by
  have hb : (E != 0) = true := by simpa using hE
  clear hE
  go_enter Try.func22, Try.ntmps22
  go_wp2_with fail
  refine hr.mono ?_
  rintro e w' ⟨rfl, hP⟩
  have HP := Lib.hid hP; clear hP hr
  go_wp2
  go_ret
  exact ⟨rfl, HP.out⟩

theorem refCells_shut (n : Int) (K : LK) (sh : Bool → Bool) (s : Bool) :
    (refCells n K sh).setIfInBounds (if s then 6 else 5) (.bool true) = refCells n (K.shutS s) (updB sh s true) := by
  cases s <;> simp [refCells, LK.shutS, LK.setW, updB, LK.wayL, LK.thereL]
theorem shOk_shut {K : LK} {sh : Bool → Bool} (h : ShOk K sh) (hc : K.cut = false) (s : Bool) : ShOk (K.shutS s) (updB sh s true) := by
  intro _ t
  have := h hc t
  cases s <;> cases t <;> simp [updB, LK.shutS, LK.setW] at this ⊢ <;> exact this

set_option maxHeartbeats 1000000 in
theorem rstop_ok (r : Nat) (Q : Rq) (S : NS) (conn : Int) (s : Bool) (K : LK) (w : World) (h : RAt w r Q S) (hW : RW S) (hK : S.link conn = some K) (hc : K.cut = false) (hs : (K.way (!s)).shut = false) :
    Calls Try.prog 22 #[.pointer (some ⟨r, 0, none⟩), .int .i64 conn, .int .i64 (sd s)] w fun e w' => e = .returned (.int .i64 0) ∧ Postr r Q S w ((S.setL conn (K.shutS s)).release conn (K.shutS s)) w' := by
  have hre := ask_ok r Q S conn s K w h hW hK hc
  obtain ⟨hn, sh, hb, hsh⟩ := h.conn hW.wf.right hK
  have hsx : sh s = false := by rw [hsh hc s]; exact hs
  have hP : PRr r Q S w Q (S.setL conn (K.shutS s)) (w.setCell ⟨Q.rg conn, (if s then 6 else 5), none⟩ (.bool true)) :=
    PRrcon h hn ((Fr.refl (One (Q.rg conn)) w).setCell (p := ⟨Q.rg conn, _, none⟩) (fun _ => rfl) _) (by
      rw [← refCells_shut conn K sh s]
      exact Blk.set_ hb _ _) (shOk_shut hsh hc s)
  have hsl := hW.setL hK (fit_shut (hW.wf.fit hK) s)
  have hg := goes_any r Q _ _ hP.at_ hsl.1 hsl.2
  rw [goes_release hW.wf.right hW.live hK (K' := K.shutS s) hc] at hg
  have hg2 : Calls Try.prog 40 #[.pointer (some ⟨r, 0, none⟩)] (w.setCell ⟨Q.rg conn, (if s then 6 else 5), none⟩ (.bool true)) fun e w' => e = .returned (.tuple #[]) ∧ Postr r Q S w ((S.setL conn (K.shutS s)).release conn (K.shutS s)) w' :=
    hg.mono fun e w' ⟨h1, Q', h2⟩ => ⟨h1, Q', hP.trans h2⟩
  have HG := Lib.hid hg2
  have x5 : w.cell? ⟨Q.rg conn, 5, none⟩ = some (.bool (sh false)) := hb.cell 5
  have x6 : w.cell? ⟨Q.rg conn, 6, none⟩ = some (.bool (sh true)) := hb.cell 6
  have f5 := hb.frozen 5
  have f6 := hb.frozen 6
  clear h hW hK hc hn hb hsh hP hsl hg hg2 hs
  cases s
  · rw [hsx] at x5
    clear hsx x6 f6
    show Calls Try.prog 22 #[.pointer (some ⟨r, 0, none⟩), .int .i64 conn, .int .i64 0] w _
    have hre' : Calls Try.prog 38 #[.pointer (some ⟨r, 0, none⟩), .int .i64 conn, .int .i64 0] w fun e w' => e = .returned (.tuple #[.pointer (some ⟨Q.rg conn, 0, none⟩), .int .i64 0]) ∧ w = w' := hre
    have HG' : Hid (Calls Try.prog 40 #[.pointer (some ⟨r, 0, none⟩)] (w.setCell ⟨Q.rg conn, 5, none⟩ (.bool true)) fun e w' => e = .returned (.tuple #[]) ∧ Postr r Q S w ((S.setL conn (K.shutS false)).release conn (K.shutS false)) w') := HG
    clear hre HG
    go_enter Try.func22, Try.ntmps22
    go_wp2_with (first | (go_at_call 38; refine hre'.mono ?_; rintro e w' ⟨rfl, rfl⟩) | (go_at_call 40; refine HG'.out.mono ?_; rintro e w' ⟨rfl, hP⟩; have HP := Lib.hid hP; clear hP))
    go_ret
    exact ⟨rfl, HP.out⟩
  · rw [hsx] at x6
    clear hsx x5 f5
    show Calls Try.prog 22 #[.pointer (some ⟨r, 0, none⟩), .int .i64 conn, .int .i64 1] w _
    have hre' : Calls Try.prog 38 #[.pointer (some ⟨r, 0, none⟩), .int .i64 conn, .int .i64 1] w fun e w' => e = .returned (.tuple #[.pointer (some ⟨Q.rg conn, 0, none⟩), .int .i64 0]) ∧ w = w' := hre
    have HG' : Hid (Calls Try.prog 40 #[.pointer (some ⟨r, 0, none⟩)] (w.setCell ⟨Q.rg conn, 6, none⟩ (.bool true)) fun e w' => e = .returned (.tuple #[]) ∧ Postr r Q S w ((S.setL conn (K.shutS true)).release conn (K.shutS true)) w') := HG
    clear hre HG
    go_enter Try.func22, Try.ntmps22
    go_wp2_with (first | (go_at_call 38; refine hre'.mono ?_; rintro e w' ⟨rfl, rfl⟩) | (go_at_call 40; refine HG'.out.mono ?_; rintro e w' ⟨rfl, hP⟩; have HP := Lib.hid hP; clear hP))
    go_ret
    exact ⟨rfl, HP.out⟩

/-! ### together -/
theorem send_r (r : Nat) (Q : Rq) (S : NS) (conn side : Int) (data : List UInt8) (w : World) (h : RAt w r Q S) (hW : RW S) (hd : data.length ≤ 140737488355328) :
    Calls Try.prog 19 #[.pointer (some ⟨r, 0, none⟩), .int .i64 conn, .int .i64 side, .string ⟨data.toArray⟩] w fun e w' => e = .returned (.tuple #[.int .i64 (S.send conn side data).1.1, .int .i64 (S.send conn side data).1.2]) ∧ Postr r Q S w (S.send conn side data).2 w' := by
  rcases case_of S conn side with hn | ⟨s, K, rfl, hK, hc⟩ | ⟨s, K, rfl, hK, hc⟩
  · have e : S.send conn side data = ((0, 14), S) := by unfold NS.send; rw [find_eq_none hn]
    rw [e]
    exact rsend_err r conn side data 14 _ w (by omega) (ask_none r Q S conn side w h hW hn)
  · have e : S.send conn (sd s) data = ((0, 17), S.tell conn K s) := by unfold NS.send; rw [find_eq_some rfl hK]; simp only [hc, if_true]
    rw [e]
    exact rsend_err r conn (sd s) data 17 _ w (by omega) (ask_cut r Q S conn s K w h hW hK hc)
  · cases hs : (K.way (!s)).shut
    · have e : S.send conn (sd s) data = (((K.sent s data : Int), 0), S.setL conn (K.send s data)) := by unfold NS.send; rw [find_eq_some rfl hK]; simp [hc, hs]
      rw [e]
      exact rsend_ok r Q S conn s K data w h hW hK hc hs hd
    · have e : S.send conn (sd s) data = ((0, 16), S) := by unfold NS.send; rw [find_eq_some rfl hK]; simp [hc, hs]
      rw [e]
      obtain ⟨hn, sh, hb, hsh⟩ := h.conn hW.wf.right hK
      exact (rsend_shut r _ s conn data _ K sh w hb (by rw [hsh hc s, hs]) (ask_ok r Q S conn s K w h hW hK hc)).mono fun e w' ⟨h1, h2⟩ => ⟨h1, h2 ▸ Postr.refl h⟩

theorem move_r (r : Nat) (Q : Rq) (S : NS) (conn side many : Int) (w : World) (h : RAt w r Q S) (hW : RW S) :
    Calls Try.prog 20 #[.pointer (some ⟨r, 0, none⟩), .int .i64 conn, .int .i64 side, .int .i64 many] w fun e w' => e = .returned (.tuple #[.int .i64 (S.move conn side many).1.1, .int .i64 (S.move conn side many).1.2]) ∧ Postr r Q S w (S.move conn side many).2 w' := by
  rcases case_of S conn side with hn | ⟨s, K, rfl, hK, hc⟩ | ⟨s, K, rfl, hK, hc⟩
  · have e : S.move conn side many = ((0, 14), S) := by unfold NS.move; rw [find_eq_none hn]
    rw [e]
    exact rmove_err r conn side many 14 _ w (by omega) (ask_none r Q S conn side w h hW hn)
  · have e : S.move conn (sd s) many = ((0, 17), S.tell conn K s) := by unfold NS.move; rw [find_eq_some rfl hK]; simp only [hc, if_true]
    rw [e]
    exact rmove_err r conn (sd s) many 17 _ w (by omega) (ask_cut r Q S conn s K w h hW hK hc)
  · have e : S.move conn (sd s) many = ((K.moved s many, 0), S.setL conn (K.move s many)) := by unfold NS.move; rw [find_eq_some rfl hK]; simp [hc]
    rw [e]
    exact rmove_ok r Q S conn many s K w h hW hK hc

theorem take_r (r : Nat) (Q : Rq) (S : NS) (conn side many : Int) (w : World) (h : RAt w r Q S) (hW : RW S) :
    Calls Try.prog 21 #[.pointer (some ⟨r, 0, none⟩), .int .i64 conn, .int .i64 side, .int .i64 many] w fun e w' => e = .returned (.tuple #[.string ⟨(S.take conn side many).1.1.toArray⟩, .int .i64 (S.take conn side many).1.2]) ∧ Postr r Q S w (S.take conn side many).2 w' := by
  rcases case_of S conn side with hn | ⟨s, K, rfl, hK, hc⟩ | ⟨s, K, rfl, hK, hc⟩
  · have e : S.take conn side many = (([], 14), S) := by unfold NS.take; rw [find_eq_none hn]
    rw [e]
    exact rtake_err r conn side many 14 _ w (by omega) (ask_none r Q S conn side w h hW hn)
  · have e : S.take conn (sd s) many = (([], 17), S.tell conn K s) := by unfold NS.take; rw [find_eq_some rfl hK]; simp only [hc, if_true]
    rw [e]
    exact rtake_err r conn (sd s) many 17 _ w (by omega) (ask_cut r Q S conn s K w h hW hK hc)
  · have hre := ask_ok r Q S conn s K w h hW hK hc
    obtain ⟨hn, sh, hb, hsh⟩ := h.conn hW.wf.right hK
    have hwy := hW.wf.way conn K s hK
    by_cases h0 : (K.way s).arr = 0
    · have hT : K.thereL s = [] := (arr0 hwy.1).2 h0
      have hwl : K.wayL s = (K.way s).bytes := by unfold LK.wayL; rw [h0]; rfl
      have e : S.take conn (sd s) many = (([], if (K.way s).shut && (K.way s).bytes.isEmpty then 16 else 15), S) := by
        unfold NS.take; rw [find_eq_some rfl hK]; unfold WS.ended
        cases h1 : (K.way s).shut && (K.way s).bytes.isEmpty <;> simp [hc, h0, h1]
      rw [e]
      have hsx : sh (!s) = (K.way s).shut := by rw [hsh hc (!s), Bool.not_not]
      exact (rtake_none r _ s conn many _ _ _ _ K sh w hb hT hsx hwl rfl hre).mono fun e w' ⟨h1, h2⟩ => ⟨h1, h2 ▸ Postr.refl h⟩
    · have he : (K.way s).ended = false := by
        unfold WS.ended
        cases hbb : (K.way s).bytes with
        | nil => rw [hbb] at hwy; exact absurd (by have := hwy.1; simp at this; exact this) h0
        | cons a l => simp
      have e : S.take conn (sd s) many = (((K.way s).bytes.take (K.took s many), 0), (S.setL conn (K.take s many)).release conn (K.take s many)) := by unfold NS.take; rw [find_eq_some rfl hK]; simp [hc, he, h0]
      rw [e]
      exact rtake_ok r Q S conn many s K w h hW hK hc h0

theorem stop_r (r : Nat) (Q : Rq) (S : NS) (conn side : Int) (w : World) (h : RAt w r Q S) (hW : RW S) :
    Calls Try.prog 22 #[.pointer (some ⟨r, 0, none⟩), .int .i64 conn, .int .i64 side] w fun e w' => e = .returned (.int .i64 (S.shut conn side).1) ∧ Postr r Q S w (S.shut conn side).2 w' := by
  rcases case_of S conn side with hn | ⟨s, K, rfl, hK, hc⟩ | ⟨s, K, rfl, hK, hc⟩
  · have e : S.shut conn side = (14, S) := by unfold NS.shut; rw [find_eq_none hn]
    rw [e]
    exact rstop_err r conn side 14 _ w (by omega) (ask_none r Q S conn side w h hW hn)
  · have e : S.shut conn (sd s) = (17, S.tell conn K s) := by unfold NS.shut; rw [find_eq_some rfl hK]; simp only [hc, if_true]
    rw [e]
    exact rstop_err r conn (sd s) 17 _ w (by omega) (ask_cut r Q S conn s K w h hW hK hc)
  · cases hs : (K.way (!s)).shut
    · have e : S.shut conn (sd s) = (0, (S.setL conn (K.shutS s)).release conn (K.shutS s)) := by unfold NS.shut; rw [find_eq_some rfl hK]; simp [hc, hs]
      rw [e]
      exact rstop_ok r Q S conn s K w h hW hK hc hs
    · have e : S.shut conn (sd s) = (16, S) := by unfold NS.shut; rw [find_eq_some rfl hK]; simp [hc, hs]
      rw [e]
      obtain ⟨hn, sh, hb, hsh⟩ := h.conn hW.wf.right hK
      exact (rstop_twice r _ s conn _ K sh w hb (by rw [hsh hc s, hs]) (ask_ok r Q S conn s K w h hW hK hc)).mono fun e w' ⟨h1, h2⟩ => ⟨h1, h2 ▸ Postr.refl h⟩

/-! ### Waits -/
set_option maxHeartbeats 400000 in
theorem rwaits_none (r : Nat) (conn side : Int) (w : World)
    (hf : Calls Try.prog 41 #[.pointer (some ⟨r, 0, none⟩), .int .i64 conn, .int .i64 side] w fun e w' => e = .returned (.pointer none) ∧ w = w') :
    Calls Try.prog 24 #[.pointer (some ⟨r, 0, none⟩), .int .i64 conn, .int .i64 side] w fun e w' => e = .returned (.tuple #[.int .i64 0, .int .i64 0]) ∧ Fr No w w' := by
  go_enter Try.func24, Try.ntmps24
  go_wp2_with (go_at_call 41; refine hf.mono ?_; rintro e w' ⟨rfl, rfl⟩)
  go_ret2
  exact ⟨rfl, Fr.refl _ _⟩

set_option maxHeartbeats 1000000 in
theorem rwaits_some (r g : Nat) (X Y : List UInt8) (conn : Int) (s : Bool) (w : World) (hX : X.length ≤ 65536) (hY : Y.length ≤ 65536)
    (x1 : w.cell? ⟨g, (if s then 2 else 1), none⟩ = some (.string ⟨X.toArray⟩)) (x2 : w.cell? ⟨g, (if s then 4 else 3), none⟩ = some (.string ⟨Y.toArray⟩))
    (hf : Calls Try.prog 41 #[.pointer (some ⟨r, 0, none⟩), .int .i64 conn, .int .i64 (sd s)] w fun e w' => e = .returned (.pointer (some ⟨g, 0, none⟩)) ∧ w = w') :
    Calls Try.prog 24 #[.pointer (some ⟨r, 0, none⟩), .int .i64 conn, .int .i64 (sd s)] w fun e w' => e = .returned (.tuple #[.int .i64 X.length, .int .i64 Y.length]) ∧ Fr No w w' := by
  have b1 : ((X.length : Nat) : Int) ≤ 65536 := by omega
  have b2 : ((Y.length : Nat) : Int) ≤ 65536 := by omega
  clear hX hY
  cases s
  · have y1 : w.cell? ⟨g, 1, none⟩ = some (.string ⟨X.toArray⟩) := x1
    have y2 : w.cell? ⟨g, 3, none⟩ = some (.string ⟨Y.toArray⟩) := x2
    show Calls Try.prog 24 #[.pointer (some ⟨r, 0, none⟩), .int .i64 conn, .int .i64 0] w _
    have hf' : Calls Try.prog 41 #[.pointer (some ⟨r, 0, none⟩), .int .i64 conn, .int .i64 0] w fun e w' => e = .returned (.pointer (some ⟨g, 0, none⟩)) ∧ w = w' := hf
    clear hf x1 x2
    go_enter Try.func24, Try.ntmps24
    go_wp2_with (go_at_call 41; refine hf'.mono ?_; rintro e w' ⟨rfl, rfl⟩)
    go_quiet (fail)
    go_wp2
    go_ret2
    exact ⟨rfl, (Fr.refl _ _).drewN _⟩
  · have y1 : w.cell? ⟨g, 2, none⟩ = some (.string ⟨X.toArray⟩) := x1
    have y2 : w.cell? ⟨g, 4, none⟩ = some (.string ⟨Y.toArray⟩) := x2
    show Calls Try.prog 24 #[.pointer (some ⟨r, 0, none⟩), .int .i64 conn, .int .i64 1] w _
    have hf' : Calls Try.prog 41 #[.pointer (some ⟨r, 0, none⟩), .int .i64 conn, .int .i64 1] w fun e w' => e = .returned (.pointer (some ⟨g, 0, none⟩)) ∧ w = w' := hf
    clear hf x1 x2
    go_enter Try.func24, Try.ntmps24
    go_wp2_with (go_at_call 41; refine hf'.mono ?_; rintro e w' ⟨rfl, rfl⟩)
    go_quiet (fail)
    go_wp2
    go_ret2
    exact ⟨rfl, (Fr.refl _ _).drewN _⟩

theorem waits_r (r : Nat) (Q : Rq) (S : NS) (conn side : Int) (w : World) (h : RAt w r Q S) (hW : RW S) :
    Calls Try.prog 24 #[.pointer (some ⟨r, 0, none⟩), .int .i64 conn, .int .i64 side] w fun e w' => e = .returned (.tuple #[.int .i64 (S.waits conn side).1, .int .i64 (S.waits conn side).2]) ∧ Fr No w w' := by
  by_cases hn : ∀ s, side = sd s → S.link conn = none
  · have e : S.waits conn side = (0, 0) := by unfold NS.waits; rw [find_eq_none hn]
    rw [e]
    exact rwaits_none r conn side w (rfind_none r Q S conn side w h hW hn)
  · obtain ⟨s, rfl, K, hK⟩ : ∃ s, side = sd s ∧ ∃ K, S.link conn = some K := by
      simp only [Classical.not_forall] at hn
      obtain ⟨s, hs, hl⟩ := hn
      refine ⟨s, hs, ?_⟩
      cases hK : S.link conn with
      | none => exact absurd hK hl
      | some K => exact ⟨K, rfl⟩
    have hwy := hW.wf.way conn K s hK
    have e : S.waits conn (sd s) = (((K.wayL s).length : Int), ((K.thereL s).length : Int)) := by
      unfold NS.waits; rw [find_eq_some rfl hK]; unfold LK.wayL LK.thereL WS.mov; simp only [List.length_drop, List.length_take]
      have := hwy.1
      congr 1 <;> omega
    rw [e]
    obtain ⟨hn, sh, hb, hsh⟩ := h.conn hW.wf.right hK
    refine rwaits_some r (Q.rg conn) _ _ conn s w ?_ ?_ ?_ ?_ (rfind_some r Q S conn s K w h hW hK)
    · unfold LK.wayL; rw [List.length_drop]; omega
    · unfold LK.thereL; rw [List.length_take]; omega
    · cases s; exact hb.cell 1; exact hb.cell 2
    · cases s; exact hb.cell 3; exact hb.cell 4

end Go.Proofs.Ythcpdeffgdaieaa
