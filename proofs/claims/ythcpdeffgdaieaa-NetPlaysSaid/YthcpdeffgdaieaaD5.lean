/- The document's own net: Move, Take. -/
import Derived.Test.YthcpdeffgdaieaaD4
namespace Go.Proofs.Ythcpdeffgdaieaa
open Go.RowKit Go.Maps
set_option linter.unusedVariables false

/-! ### Move -/
set_option maxHeartbeats 400000 in
theorem rmove_err (r : Nat) (conn side many : Int) (E : Int) (P : World → Prop) (w : World) (hE : E ≠ 0)
    (hr : Calls Try.prog 38 #[.pointer (some ⟨r, 0, none⟩), .int .i64 conn, .int .i64 side] w fun e w' => e = .returned (.tuple #[.pointer none, .int .i64 E]) ∧ P w') :
    Calls Try.prog 20 #[.pointer (some ⟨r, 0, none⟩), .int .i64 conn, .int .i64 side, .int .i64 many] w fun e w' => e = .returned (.tuple #[.int .i64 0, .int .i64 E]) ∧ P w' := by
  have hb : (E != 0) = true := by simpa using hE
  clear hE
  go_enter Try.func20, Try.ntmps20
  go_wp2_with fail
  refine hr.mono ?_
  rintro e w' ⟨rfl, hP⟩
  have HP := Lib.hid hP; clear hP hr
  go_wp2
  go_ret2
  exact ⟨rfl, HP.out⟩

theorem extract_drop (l : List UInt8) (k : Nat) : (⟨l.toArray⟩ : ByteArray).extract k l.length = ⟨(l.drop k).toArray⟩ := by
  apply ByteArray.ext
  apply Array.ext'
  simp [ByteArray.data_extract]
  rw [List.take_of_length_le (by simp)]

def LK.movedN (K : LK) (s : Bool) (many : Int) : Nat := (K.moved s many).toNat
theorem movedN_le {K : LK} (s : Bool) (many : Int) (ha : (K.way s).arr ≤ (K.way s).bytes.length) : (K.moved s many = (K.movedN s many : Int)) ∧ K.movedN s many ≤ (K.wayL s).length := by
  have hb := amt_bd many (K.way s).mov (by unfold WS.mov; omega)
  have hm : (K.way s).mov = ((K.way s).bytes.length : Int) - (K.way s).arr := rfl
  have hm2 : K.moved s many = amt many (K.way s).mov := rfl
  have hm3 : K.movedN s many = (K.moved s many).toNat := rfl
  have hl : (K.wayL s).length = (K.way s).bytes.length - (K.way s).arr := by unfold LK.wayL; rw [List.length_drop]
  omega

theorem refCells_move (n : Int) (K : LK) (sh : Bool → Bool) (s : Bool) (many : Int) (ha : (K.way s).arr ≤ (K.way s).bytes.length) :
    ((refCells n K sh).setIfInBounds (if s then 4 else 3) (strV (K.thereL s ++ (K.wayL s).take (K.movedN s many)))).setIfInBounds (if s then 2 else 1) (strV ((K.wayL s).drop (K.movedN s many))) = refCells n (K.move s many) sh := by
  have e1 : List.take ((K.way s).arr + (K.moved s many).toNat) (K.way s).bytes = K.thereL s ++ (K.wayL s).take (K.movedN s many) := by
    unfold LK.thereL LK.wayL LK.movedN; rw [List.take_add]
  have e2 : List.drop ((K.way s).arr + (K.moved s many).toNat) (K.way s).bytes = (K.wayL s).drop (K.movedN s many) := by
    unfold LK.wayL LK.movedN; rw [List.drop_drop]
  have t1 : (K.move s many).thereL s = K.thereL s ++ (K.wayL s).take (K.movedN s many) := by
    rw [← e1]; unfold LK.thereL LK.move LK.setW; simp only [updB_same]
  have t2 : (K.move s many).wayL s = (K.wayL s).drop (K.movedN s many) := by
    rw [← e2]; unfold LK.wayL LK.move LK.setW; simp only [updB_same]
  have t3 : (K.move s many).thereL (!s) = K.thereL (!s) := by unfold LK.thereL LK.move LK.setW; simp only [updB_not]
  have t4 : (K.move s many).wayL (!s) = K.wayL (!s) := by unfold LK.wayL LK.move LK.setW; simp only [updB_not]
  have t5 : (K.move s many).cut = K.cut := rfl
  have t6 : (K.move s many).told = K.told := rfl
  cases s
  · simp only [Bool.not_false] at t3 t4
    simp [refCells, t1, t2, t3, t4, t5, t6]
  · simp only [Bool.not_true] at t3 t4
    simp [refCells, t1, t2, t3, t4, t5, t6]

set_option maxRecDepth 100000 in
set_option maxHeartbeats 4000000 in
theorem rmove_ok (r : Nat) (Q : Rq) (S : NS) (conn many : Int) (s : Bool) (K : LK) (w : World) (h : RAt w r Q S) (hW : RW S) (hK : S.link conn = some K) (hc : K.cut = false) :
    Calls Try.prog 20 #[.pointer (some ⟨r, 0, none⟩), .int .i64 conn, .int .i64 (sd s), .int .i64 many] w fun e w' => e = .returned (.tuple #[.int .i64 (K.moved s many), .int .i64 0]) ∧ Postr r Q S w (S.setL conn (K.move s many)) w' := by
  have hre := ask_ok r Q S conn s K w h hW hK hc
  obtain ⟨hn, sh, hb, hsh⟩ := h.conn hW.wf.right hK
  have hwy := hW.wf.way conn K s hK
  obtain ⟨hm1, hm2⟩ := movedN_le (K := K) s many hwy.1
  have hmov : ((K.wayL s).length : Int) = (K.way s).mov := by unfold LK.wayL WS.mov; rw [List.length_drop]; omega
  have hls : ∀ w', Calls Try.prog 39 #[.int .i64 many, .int .i64 ((K.wayL s).length : Int)] w' fun e w'' => e = .returned (.int .i64 (K.movedN s many)) ∧ w' = w'' := fun w' =>
    (lesser_any _ _ _).mono fun e w'' ⟨h1, h2⟩ => ⟨h1.trans (ret_int (by rw [lsr_amt _ _ (by omega), hmov]; exact hm1)), h2⟩
  have lW : (K.wayL s).length ≤ 65536 := by unfold LK.wayL; rw [List.length_drop]; omega
  have lT : (K.thereL s).length ≤ 65536 := by unfold LK.thereL; rw [List.length_take]; omega
  have hcat : ∀ w0, (Op.stringOp .add ⟨(K.thereL s).toArray⟩ ((⟨(K.wayL s).toArray⟩ : ByteArray).extract 0 (K.movedN s many))).run Try.prog w0 = .ok (.string ⟨(K.thereL s ++ (K.wayL s).take (K.movedN s many)).toArray⟩) w0 := fun w0 => by
    rw [extract_take, run_string_add_sum w0 _ _ (by simp [ByteArray.size]; omega), ByteArray.mk_append_mk]
  have hxd := extract_drop (K.wayL s) (K.movedN s many)
  have hP : Postr r Q S w (S.setL conn (K.move s many)) ((w.drew.setCell ⟨Q.rg conn, (if s then 4 else 3), none⟩ (.string ⟨(K.thereL s ++ (K.wayL s).take (K.movedN s many)).toArray⟩)).drew.setCell ⟨Q.rg conn, (if s then 2 else 1), none⟩ (.string ⟨((K.wayL s).drop (K.movedN s many)).toArray⟩)) :=
    ⟨Q, PRrcon h hn (((((Fr.refl (One (Q.rg conn)) w).drew).setCell (p := ⟨Q.rg conn, _, none⟩) (fun _ => rfl) _).drew).setCell (p := ⟨Q.rg conn, _, none⟩) (fun _ => rfl) _) (by
      rw [← refCells_move conn K sh s many hwy.1]
      exact Blk.set_ (Blk.of (w := w.drew.setCell ⟨Q.rg conn, _, none⟩ _) (Blk.set_ (w := w.drew) (hb.of rfl) _ _) rfl) _ _) (fun _ t => by
      rw [hsh hc t]; unfold LK.move LK.setW updB; simp only; split
      · rename_i e; rw [e]
      · rfl)⟩
  rw [hm1]
  have b1 : (0 : Int) ≤ (K.movedN s many : Int) := by omega
  have b2 : (K.movedN s many : Int) ≤ ((K.wayL s).length : Int) := by omega
  have x1 : w.cell? ⟨Q.rg conn, 1, none⟩ = some (.string ⟨(K.wayL false).toArray⟩) := hb.cell 1
  have x2 : w.cell? ⟨Q.rg conn, 2, none⟩ = some (.string ⟨(K.wayL true).toArray⟩) := hb.cell 2
  have x3 : w.cell? ⟨Q.rg conn, 3, none⟩ = some (.string ⟨(K.thereL false).toArray⟩) := hb.cell 3
  have x4 : w.cell? ⟨Q.rg conn, 4, none⟩ = some (.string ⟨(K.thereL true).toArray⟩) := hb.cell 4
  have f1 := hb.frozen 1
  have f2 := hb.frozen 2
  have f3 := hb.frozen 3
  have f4 := hb.frozen 4
  have HP := Lib.hid hP
  have HX := Lib.hid hxd
  have HBk := Lib.hid hb
  clear h hW hK hc hn hb hsh hwy hm1 hmov hP hxd
  cases s
  · have HP' : Hid (Postr r Q S w (S.setL conn (K.move false many)) ((w.drew.setCell ⟨Q.rg conn, 3, none⟩ (.string ⟨(K.thereL false ++ (K.wayL false).take (K.movedN false many)).toArray⟩)).drew.setCell ⟨Q.rg conn, 1, none⟩ (.string ⟨((K.wayL false).drop (K.movedN false many)).toArray⟩))) := HP
    show Calls Try.prog 20 #[.pointer (some ⟨r, 0, none⟩), .int .i64 conn, .int .i64 0, .int .i64 many] w _
    have hre' : Calls Try.prog 38 #[.pointer (some ⟨r, 0, none⟩), .int .i64 conn, .int .i64 0] w fun e w' => e = .returned (.tuple #[.pointer (some ⟨Q.rg conn, 0, none⟩), .int .i64 0]) ∧ w = w' := hre
    clear hre HP
    go_enter Try.func20, Try.ntmps20
    go_wp2_with (first | (go_at_call 38; refine hre'.mono ?_; rintro e w' ⟨rfl, rfl⟩) | (go_at_call 39; refine (hls _).mono ?_; rintro e w' ⟨rfl, rfl⟩))
    go_still_tail 20, (by kernel_rfl)
    change wpList _ _ _ _ _ (World.drew _)
    go_wp2_with fail
    obtain ⟨wq, hwq⟩ : ∃ wq, (w.setCell ⟨Q.rg conn, 3, none⟩ (.string ⟨(K.thereL false ++ (K.wayL false).take (K.movedN false many)).toArray⟩)).drew = wq := ⟨_, rfl⟩
    have hbq : Blk wq (Q.rg conn) 38 ((refCells conn K sh).setIfInBounds 3 (.string ⟨(K.thereL false ++ (K.wayL false).take (K.movedN false many)).toArray⟩)) := by rw [← hwq]; exact HBk.out.set_ _ _
    have y1 : wq.cell? ⟨Q.rg conn, 1, none⟩ = some (.string ⟨(K.wayL false).toArray⟩) := hbq.cell 1
    have fy : wq.frozen? ⟨Q.rg conn, 1, none⟩ = false := hbq.frozen 1
    have HPq : Hid (Postr r Q S w (S.setL conn (K.move false many)) ((wq.setCell ⟨Q.rg conn, 1, none⟩ (.string ⟨((K.wayL false).drop (K.movedN false many)).toArray⟩)).drew)) := by rw [← hwq]; exact HP'
    rw [hwq]
    clear hbq HP' HBk
    have hx := HX.out
    clear hwq hls x1 x2 x3 x4 f1 f2 f3 f4 hcat
    go_still_tail 13, (by kernel_rfl)
    change wpList _ _ _ _ _ (World.drew _)
    go_wp2
    go_ret2
    exact ⟨rfl, HPq.out⟩
  · have HP' : Hid (Postr r Q S w (S.setL conn (K.move true many)) ((w.drew.setCell ⟨Q.rg conn, 4, none⟩ (.string ⟨(K.thereL true ++ (K.wayL true).take (K.movedN true many)).toArray⟩)).drew.setCell ⟨Q.rg conn, 2, none⟩ (.string ⟨((K.wayL true).drop (K.movedN true many)).toArray⟩))) := HP
    show Calls Try.prog 20 #[.pointer (some ⟨r, 0, none⟩), .int .i64 conn, .int .i64 1, .int .i64 many] w _
    have hre' : Calls Try.prog 38 #[.pointer (some ⟨r, 0, none⟩), .int .i64 conn, .int .i64 1] w fun e w' => e = .returned (.tuple #[.pointer (some ⟨Q.rg conn, 0, none⟩), .int .i64 0]) ∧ w = w' := hre
    clear hre HP
    go_enter Try.func20, Try.ntmps20
    go_wp2_with (first | (go_at_call 38; refine hre'.mono ?_; rintro e w' ⟨rfl, rfl⟩) | (go_at_call 39; refine (hls _).mono ?_; rintro e w' ⟨rfl, rfl⟩))
    go_still_tail 20, (by kernel_rfl)
    change wpList _ _ _ _ _ (World.drew _)
    go_wp2_with fail
    obtain ⟨wq, hwq⟩ : ∃ wq, (w.setCell ⟨Q.rg conn, 4, none⟩ (.string ⟨(K.thereL true ++ (K.wayL true).take (K.movedN true many)).toArray⟩)).drew = wq := ⟨_, rfl⟩
    have hbq : Blk wq (Q.rg conn) 38 ((refCells conn K sh).setIfInBounds 4 (.string ⟨(K.thereL true ++ (K.wayL true).take (K.movedN true many)).toArray⟩)) := by rw [← hwq]; exact HBk.out.set_ _ _
    have y1 : wq.cell? ⟨Q.rg conn, 2, none⟩ = some (.string ⟨(K.wayL true).toArray⟩) := hbq.cell 2
    have fy : wq.frozen? ⟨Q.rg conn, 2, none⟩ = false := hbq.frozen 2
    have HPq : Hid (Postr r Q S w (S.setL conn (K.move true many)) ((wq.setCell ⟨Q.rg conn, 2, none⟩ (.string ⟨((K.wayL true).drop (K.movedN true many)).toArray⟩)).drew)) := by rw [← hwq]; exact HP'
    rw [hwq]
    clear hbq HP' HBk
    have hx := HX.out
    clear hwq hls x1 x2 x3 x4 f1 f2 f3 f4 hcat
    go_still_tail 13, (by kernel_rfl)
    change wpList _ _ _ _ _ (World.drew _)
    go_wp2
    go_ret2
    exact ⟨rfl, HPq.out⟩

end Go.Proofs.Ythcpdeffgdaieaa
