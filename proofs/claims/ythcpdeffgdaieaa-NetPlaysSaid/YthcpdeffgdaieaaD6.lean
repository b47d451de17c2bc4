/- The document's own net: Take. -/
import Derived.Test.YthcpdeffgdaieaaD5
import Derived.Deep.CutBlock
namespace Go.Proofs.Ythcpdeffgdaieaa
open Go.RowKit Go.Maps
set_option linter.unusedVariables false

set_option maxHeartbeats 400000 in
theorem rtake_err (r : Nat) (conn side many : Int) (E : Int) (P : World → Prop) (w : World) (hE : E ≠ 0)
    (hr : Calls Try.prog 38 #[.pointer (some ⟨r, 0, none⟩), .int .i64 conn, .int .i64 side] w fun e w' => e = .returned (.tuple #[.pointer none, .int .i64 E]) ∧ P w') :
    Calls Try.prog 21 #[.pointer (some ⟨r, 0, none⟩), .int .i64 conn, .int .i64 side, .int .i64 many] w fun e w' => e = .returned (.tuple #[.string ⟨([] : List UInt8).toArray⟩, .int .i64 E]) ∧ P w' := by
  have hb : (E != 0) = true := by simpa using hE
  clear hE
  go_enter Try.func21, Try.ntmps21
  go_wp2_with fail
  refine hr.mono ?_
  rintro e w' ⟨rfl, hP⟩
  have HP := Lib.hid hP; clear hP hr
  go_wp2
  go_ret2
  exact ⟨rfl, HP.out⟩

/-- Nothing has arrived. -/
theorem arr0 {K : LK} {s : Bool} (ha : (K.way s).arr ≤ (K.way s).bytes.length) : K.thereL s = [] ↔ (K.way s).arr = 0 := by
  unfold LK.thereL
  constructor
  · intro h
    have : (List.take (K.way s).arr (K.way s).bytes).length = 0 := by rw [h]; rfl
    rw [List.length_take] at this
    omega
  · intro h; rw [h]; rfl

set_option maxRecDepth 100000 in
set_option maxHeartbeats 4000000 in
theorem rtake_none (r g : Nat) (s : Bool) (conn many : Int) (x y : Bool) (W : List UInt8) (n : Int) (K : LK) (sh : Bool → Bool) (w : World) (hb : Blk w g 38 (refCells n K sh)) (hT : K.thereL s = []) (hx : sh (!s) = x) (hW : K.wayL s = W) (hy : W.isEmpty = y)
    (hr : Calls Try.prog 38 #[.pointer (some ⟨r, 0, none⟩), .int .i64 conn, .int .i64 (sd s)] w fun e w' => e = .returned (.tuple #[.pointer (some ⟨g, 0, none⟩), .int .i64 0]) ∧ w = w') :
    Calls Try.prog 21 #[.pointer (some ⟨r, 0, none⟩), .int .i64 conn, .int .i64 (sd s), .int .i64 many] w fun e w' => e = .returned (.tuple #[.string ⟨([] : List UInt8).toArray⟩, .int .i64 (if x && y then 16 else 15)]) ∧ w = w' := by
  have x1 : w.cell? ⟨g, 1, none⟩ = some (.string ⟨(K.wayL false).toArray⟩) := hb.cell 1
  have x2 : w.cell? ⟨g, 2, none⟩ = some (.string ⟨(K.wayL true).toArray⟩) := hb.cell 2
  have x3 : w.cell? ⟨g, 3, none⟩ = some (.string ⟨(K.thereL false).toArray⟩) := hb.cell 3
  have x4 : w.cell? ⟨g, 4, none⟩ = some (.string ⟨(K.thereL true).toArray⟩) := hb.cell 4
  have x5 : w.cell? ⟨g, 5, none⟩ = some (.bool (sh false)) := hb.cell 5
  have x6 : w.cell? ⟨g, 6, none⟩ = some (.bool (sh true)) := hb.cell 6
  clear hb
  cases s
  · simp only [Bool.not_false] at hx
    rw [hT] at x3
    rw [hW] at x1
    rw [hx] at x6
    clear hT hx hW x2 x4 x5
    show Calls Try.prog 21 #[.pointer (some ⟨r, 0, none⟩), .int .i64 conn, .int .i64 0, .int .i64 many] w _
    have hr' : Calls Try.prog 38 #[.pointer (some ⟨r, 0, none⟩), .int .i64 conn, .int .i64 0] w fun e w' => e = .returned (.tuple #[.pointer (some ⟨g, 0, none⟩), .int .i64 0]) ∧ w = w' := hr
    clear hr
    cases x
    · clear hy
      go_enter Try.func21, Try.ntmps21
      go_wp2_with (go_at_call 38; refine hr'.mono ?_; rintro e w' ⟨rfl, rfl⟩)
      go_ret2
      exact ⟨rfl, rfl⟩
    · cases W with
      | nil =>
        obtain rfl : y = true := by rw [← hy]; rfl
        clear hy
        go_enter Try.func21, Try.ntmps21
        go_wp2_with (go_at_call 38; refine hr'.mono ?_; rintro e w' ⟨rfl, rfl⟩)
        go_ret2
        exact ⟨rfl, rfl⟩
      | cons u us =>
        obtain rfl : y = false := by rw [← hy]; rfl
        clear hy
        go_enter Try.func21, Try.ntmps21
        go_wp2_with (go_at_call 38; refine hr'.mono ?_; rintro e w' ⟨rfl, rfl⟩)
        go_ret2
        exact ⟨rfl, rfl⟩
  · simp only [Bool.not_true] at hx
    rw [hT] at x4
    rw [hW] at x2
    rw [hx] at x5
    clear hT hx hW x1 x3 x6
    show Calls Try.prog 21 #[.pointer (some ⟨r, 0, none⟩), .int .i64 conn, .int .i64 1, .int .i64 many] w _
    have hr' : Calls Try.prog 38 #[.pointer (some ⟨r, 0, none⟩), .int .i64 conn, .int .i64 1] w fun e w' => e = .returned (.tuple #[.pointer (some ⟨g, 0, none⟩), .int .i64 0]) ∧ w = w' := hr
    clear hr
    cases x
    · clear hy
      go_enter Try.func21, Try.ntmps21
      go_wp2_with (go_at_call 38; refine hr'.mono ?_; rintro e w' ⟨rfl, rfl⟩)
      go_ret2
      exact ⟨rfl, rfl⟩
    · cases W with
      | nil =>
        obtain rfl : y = true := by rw [← hy]; rfl
        clear hy
        go_enter Try.func21, Try.ntmps21
        go_wp2_with (go_at_call 38; refine hr'.mono ?_; rintro e w' ⟨rfl, rfl⟩)
        go_ret2
        exact ⟨rfl, rfl⟩
      | cons u us =>
        obtain rfl : y = false := by rw [← hy]; rfl
        clear hy
        go_enter Try.func21, Try.ntmps21
        go_wp2_with (go_at_call 38; refine hr'.mono ?_; rintro e w' ⟨rfl, rfl⟩)
        go_ret2
        exact ⟨rfl, rfl⟩

theorem refCells_take (n : Int) (K : LK) (sh : Bool → Bool) (s : Bool) (many : Int) (ha : (K.way s).arr ≤ (K.way s).bytes.length) :
    (refCells n K sh).setIfInBounds (if s then 4 else 3) (strV ((K.thereL s).drop (K.took s many))) = refCells n (K.take s many) sh := by
  have hk := took_le K s many
  have t1 : (K.take s many).thereL s = (K.thereL s).drop (K.took s many) := by
    unfold LK.thereL LK.take LK.setW; simp only [updB_same]; rw [List.drop_take]
  have t2 : (K.take s many).wayL s = K.wayL s := by
    unfold LK.wayL LK.take LK.setW; simp only [updB_same]; rw [List.drop_drop]; congr 1; omega
  have t3 : (K.take s many).thereL (!s) = K.thereL (!s) := by unfold LK.thereL LK.take LK.setW; simp only [updB_not]
  have t4 : (K.take s many).wayL (!s) = K.wayL (!s) := by unfold LK.wayL LK.take LK.setW; simp only [updB_not]
  have t5 : (K.take s many).cut = K.cut := rfl
  have t6 : (K.take s many).told = K.told := rfl
  cases s
  · simp only [Bool.not_false] at t3 t4
    simp [refCells, t1, t2, t3, t4, t5, t6]
  · simp only [Bool.not_true] at t3 t4
    simp [refCells, t1, t2, t3, t4, t5, t6]

set_option maxRecDepth 100000 in
set_option maxHeartbeats 4000000 in
theorem rtake_ok (r : Nat) (Q : Rq) (S : NS) (conn many : Int) (s : Bool) (K : LK) (w : World) (h : RAt w r Q S) (hW : RW S) (hK : S.link conn = some K) (hc : K.cut = false) (h0 : (K.way s).arr ≠ 0) :
    Calls Try.prog 21 #[.pointer (some ⟨r, 0, none⟩), .int .i64 conn, .int .i64 (sd s), .int .i64 many] w fun e w' => e = .returned (.tuple #[.string ⟨((K.way s).bytes.take (K.took s many)).toArray⟩, .int .i64 0]) ∧ Postr r Q S w ((S.setL conn (K.take s many)).release conn (K.take s many)) w' := by
  have hre := ask_ok r Q S conn s K w h hW hK hc
  obtain ⟨hn, sh, hb, hsh⟩ := h.conn hW.wf.right hK
  have hwy := hW.wf.way conn K s hK
  have hk := took_le K s many
  have hT0 : K.thereL s ≠ [] := fun e => h0 ((arr0 hwy.1).1 e)
  have lT : (K.thereL s).length = (K.way s).arr := by unfold LK.thereL; rw [List.length_take]; omega
  have hls : ∀ w', Calls Try.prog 39 #[.int .i64 many, .int .i64 ((K.thereL s).length : Int)] w' fun e w'' => e = .returned (.int .i64 (K.took s many)) ∧ w' = w'' := fun w' =>
    (lesser_any _ _ _).mono fun e w'' ⟨h1, h2⟩ => ⟨h1.trans (ret_int (by rw [lsr_amt _ _ (by omega), lT]; have := amt_bd many (K.way s).arr (by omega); unfold LK.took; omega)), h2⟩
  have htk : (K.thereL s).take (K.took s many) = (K.way s).bytes.take (K.took s many) := by unfold LK.thereL; rw [List.take_take]; congr 1; omega
  have hP : PRr r Q S w Q (S.setL conn (K.take s many)) (w.setCell ⟨Q.rg conn, (if s then 4 else 3), none⟩ (.string ⟨((K.thereL s).drop (K.took s many)).toArray⟩)).drew :=
    PRrcon h hn (((Fr.refl (One (Q.rg conn)) w).setCell (p := ⟨Q.rg conn, _, none⟩) (fun _ => rfl) _).drew) (by
      rw [← refCells_take conn K sh s many hwy.1]
      exact Blk.set_ hb _ _) (fun _ t => by
      rw [hsh hc t]; unfold LK.take LK.setW updB; simp only; split
      · rename_i e; rw [e]
      · rfl)
  have hsl := hW.setL hK (fit_take (hW.wf.fit hK) s many)
  have hg := goes_any r Q _ _ hP.at_ hsl.1 hsl.2
  rw [goes_release hW.wf.right hW.live hK (K' := K.take s many) hc] at hg
  have hg2 : Calls Try.prog 40 #[.pointer (some ⟨r, 0, none⟩)] (w.setCell ⟨Q.rg conn, (if s then 4 else 3), none⟩ (.string ⟨((K.thereL s).drop (K.took s many)).toArray⟩)).drew fun e w' => e = .returned (.tuple #[]) ∧ Postr r Q S w ((S.setL conn (K.take s many)).release conn (K.take s many)) w' :=
    hg.mono fun e w' ⟨h1, Q', h2⟩ => ⟨h1, Q', hP.trans h2⟩
  have HG := Lib.hid hg2
  rw [← htk]
  have b1 : (0 : Int) ≤ (K.took s many : Int) := by omega
  have b2 : (K.took s many : Int) ≤ ((K.thereL s).length : Int) := by omega
  have b3 : ((K.thereL s).length : Int) ≤ 65536 := by omega
  have x3 : w.cell? ⟨Q.rg conn, 3, none⟩ = some (.string ⟨(K.thereL false).toArray⟩) := hb.cell 3
  have x4 : w.cell? ⟨Q.rg conn, 4, none⟩ = some (.string ⟨(K.thereL true).toArray⟩) := hb.cell 4
  have f3 := hb.frozen 3
  have f4 := hb.frozen 4
  clear h hW hK hc hn hb hsh hwy hk lT hP hsl hg hg2 h0 htk
  cases s
  · show Calls Try.prog 21 #[.pointer (some ⟨r, 0, none⟩), .int .i64 conn, .int .i64 0, .int .i64 many] w _
    have hre' : Calls Try.prog 38 #[.pointer (some ⟨r, 0, none⟩), .int .i64 conn, .int .i64 0] w fun e w' => e = .returned (.tuple #[.pointer (some ⟨Q.rg conn, 0, none⟩), .int .i64 0]) ∧ w = w' := hre
    obtain ⟨N, hN⟩ : ∃ N, K.took false many = N := ⟨_, rfl⟩
    obtain ⟨Y, hY⟩ : ∃ Y, K.thereL false = Y := ⟨_, rfl⟩
    rw [hN, hY] at HG
    rw [hN, hY]
    rw [hN] at hls b1 b2
    rw [hY] at hls b2 b3 hT0 x3
    clear hre hN hY
    obtain ⟨u, us, hYe⟩ : ∃ u us, Y = u :: us := by
      cases Y with
      | nil => exact absurd rfl hT0
      | cons u us => exact ⟨u, us, rfl⟩
    have HG' : Hid (Calls Try.prog 40 #[.pointer (some ⟨r, 0, none⟩)] (w.setCell ⟨Q.rg conn, 3, none⟩ (.string ⟨(Y.drop N).toArray⟩)).drew fun e w' => e = .returned (.tuple #[]) ∧ Postr r Q S w ((S.setL conn (K.take false many)).release conn (K.take false many)) w') := HG
    have hx := extract_take Y N
    have hxd := extract_drop Y N
    clear HG hT0
    have HYe := Lib.hid hYe
    clear hYe
    go_enter Try.func21, Try.ntmps21
    go_upto_region 4 with (go_at_call 38; refine hre'.mono ?_; rintro e w' ⟨rfl, rfl⟩)
    go_cut [30] (fun v wy => v = .bool false ∧ wy = w)
    case first =>
      rw [HYe.out] at x3
      clear hx hxd b1 b2 b3 hls HYe
      go_wp2_with fail
      go_meet
      exact ⟨rfl, rfl⟩
    case rest =>
    obtain ⟨rfl, rfl⟩ := hcut
    clear HYe
    go_upto_region 10 with (go_at_call 39; refine (hls _).mono ?_; rintro e w' ⟨rfl, rfl⟩)
    go_still_tail 13, (by kernel_rfl)
    change wpList _ _ _ _ _ (World.drew _)
    go_wp2_with fail
    refine HG'.out.mono ?_
    rintro e w3 ⟨rfl, hP⟩
    have HP := Lib.hid hP; clear hP HG'
    go_wp2
    go_ret2
    exact ⟨rfl, HP.out⟩
  · show Calls Try.prog 21 #[.pointer (some ⟨r, 0, none⟩), .int .i64 conn, .int .i64 1, .int .i64 many] w _
    have hre' : Calls Try.prog 38 #[.pointer (some ⟨r, 0, none⟩), .int .i64 conn, .int .i64 1] w fun e w' => e = .returned (.tuple #[.pointer (some ⟨Q.rg conn, 0, none⟩), .int .i64 0]) ∧ w = w' := hre
    obtain ⟨N, hN⟩ : ∃ N, K.took true many = N := ⟨_, rfl⟩
    obtain ⟨Y, hY⟩ : ∃ Y, K.thereL true = Y := ⟨_, rfl⟩
    rw [hN, hY] at HG
    rw [hN, hY]
    rw [hN] at hls b1 b2
    rw [hY] at hls b2 b3 hT0 x4
    clear hre hN hY
    obtain ⟨u, us, hYe⟩ : ∃ u us, Y = u :: us := by
      cases Y with
      | nil => exact absurd rfl hT0
      | cons u us => exact ⟨u, us, rfl⟩
    have HG' : Hid (Calls Try.prog 40 #[.pointer (some ⟨r, 0, none⟩)] (w.setCell ⟨Q.rg conn, 4, none⟩ (.string ⟨(Y.drop N).toArray⟩)).drew fun e w' => e = .returned (.tuple #[]) ∧ Postr r Q S w ((S.setL conn (K.take true many)).release conn (K.take true many)) w') := HG
    have hx := extract_take Y N
    have hxd := extract_drop Y N
    clear HG hT0
    have HYe := Lib.hid hYe
    clear hYe
    go_enter Try.func21, Try.ntmps21
    go_upto_region 4 with (go_at_call 38; refine hre'.mono ?_; rintro e w' ⟨rfl, rfl⟩)
    go_cut [30] (fun v wy => v = .bool false ∧ wy = w)
    case first =>
      rw [HYe.out] at x4
      clear hx hxd b1 b2 b3 hls HYe
      go_wp2_with fail
      go_meet
      exact ⟨rfl, rfl⟩
    case rest =>
    obtain ⟨rfl, rfl⟩ := hcut
    clear HYe
    go_upto_region 10 with (go_at_call 39; refine (hls _).mono ?_; rintro e w' ⟨rfl, rfl⟩)
    go_still_tail 13, (by kernel_rfl)
    change wpList _ _ _ _ _ (World.drew _)
    go_wp2_with fail
    refine HG'.out.mono ?_
    rintro e w3 ⟨rfl, hP⟩
    have HP := Lib.hid hP; clear hP HG'
    go_wp2
    go_ret2
    exact ⟨rfl, HP.out⟩

end Go.Proofs.Ythcpdeffgdaieaa
