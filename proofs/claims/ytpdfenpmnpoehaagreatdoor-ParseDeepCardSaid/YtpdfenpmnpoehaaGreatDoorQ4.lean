/- Reading a query: taking a word, needing one, giving up. -/
import Derived.Test.YtpdfenpmnpoehaaGreatDoorQ3
import Derived.Deep.DrawnRows
namespace Go.Proofs.YtpdfenpmnpoehaaGreatDoor
open Go.RowKit Go.Maps
set_option linter.unusedVariables false

theorem giveUp_any (c p : Nat) (w : World) : Calls Tryz.prog 26 #[.int .i64 (c : Nat), .int .i64 (p : Nat)] w fun e w' => e = .panicked [{ v := flt c p, recovered := false }] ∧ w = w' := by
  unfold flt
  generalize (c : Int) = ci
  generalize (p : Int) = pi
  go_enter Tryz.func26, Tryz.ntmps26
  go_wp2
  exact ⟨rfl, rfl, rfl⟩
theorem of_any (n : Nat) (w : World) : Calls Tryz.prog 68 #[.int .i64 (n : Nat)] w fun e w' => (∃ mv, e = .returned mv ∧ Mt w' mv (ofW n)) ∧ Fr No w w' := by
  obtain ⟨w1, hw1⟩ : ∃ w1, w.alloc (.cells #[.int .i64 (n : Nat)] 3) = w1 := ⟨_, rfl⟩
  have f1 : Fr No w w1 := by rw [← hw1]; exact (Fr.refl No w).alloc _
  have hb : Blk w1 w.heap.size 3 #[.int .i64 (n : Nat)] := by rw [← hw1]; exact Blk.new w 3 _
  have HE : Hid (Mt w1 (.func (.func 123) #[] #[.pointer (some ⟨w.heap.size, 0, none⟩)]) (ofW n) ∧ Fr No w w1) := Lib.hid ⟨.inl ⟨_, n, rfl, hb.cell 0, rfl⟩, f1⟩
  have HW1 := Lib.hid hw1
  clear hb f1 hw1
  go_enter Tryz.func68, Tryz.ntmps68
  go_upto_region 1 with fail
  rw [HW1.out]
  go_wp2
  go_ret
  exact ⟨⟨_, rfl, HE.out.1⟩, HE.out.2⟩
theorem says_any (t : Tx) (w : World) : Calls Tryz.prog 63 #[sv t] w fun e w' => (∃ mv, e = .returned mv ∧ Mt w' mv (saysW t)) ∧ Fr No w w' := by
  obtain ⟨w1, hw1⟩ : ∃ w1, w.alloc (.cells #[sv t] 9) = w1 := ⟨_, rfl⟩
  have f1 : Fr No w w1 := by rw [← hw1]; exact (Fr.refl No w).alloc _
  have hb : Blk w1 w.heap.size 9 #[sv t] := by rw [← hw1]; exact Blk.new w 9 _
  have HE : Hid (Mt w1 (.func (.func 116) #[] #[.pointer (some ⟨w.heap.size, 0, none⟩)]) (saysW t) ∧ Fr No w w1) := Lib.hid ⟨.inr (.inl ⟨_, t, rfl, hb.cell 0, rfl⟩), f1⟩
  have HW1 := Lib.hid hw1
  clear hb f1 hw1
  go_enter Tryz.func63, Tryz.ntmps63
  go_upto_region 1 with fail
  rw [HW1.out]
  go_wp2
  go_ret
  exact ⟨⟨_, rfl, HE.out.1⟩, HE.out.2⟩
theorem among_any (T : T7) (w : World) : Calls Tryz.prog 115 #[.agg T.cs] w fun e w' => (∃ mv, e = .returned mv ∧ Mt w' mv (amongW T.l)) ∧ Fr No w w' := by
  obtain ⟨w1, hw1⟩ : ∃ w1, w.alloc (.cells T.cs 138) = w1 := ⟨_, rfl⟩
  have f1 : Fr No w w1 := by rw [← hw1]; exact (Fr.refl No w).alloc _
  have hb : Blk w1 w.heap.size 138 T.cs := by rw [← hw1]; exact Blk.new w 138 _
  have HE : Hid (Mt w1 (.func (.func 149) #[] #[.pointer (some ⟨w.heap.size, 0, none⟩)]) (amongW T.l) ∧ Fr No w w1) := Lib.hid ⟨.inr (.inr ⟨_, T, rfl, fun k hk => by rw [hb.cell k]; exact T.at hk, rfl⟩), f1⟩
  have HW1 := Lib.hid hw1
  have HSZ : Hid (T.cs.size = 7) := Lib.hid rfl
  clear hb f1 hw1
  generalize T.cs = K at *
  go_enter Tryz.func115, Tryz.ntmps115
  go_upto_region 1 with fail
  rw [HW1.out]
  go_wp2
  go_ret
  exact ⟨⟨_, rfl, HE.out.1⟩, HE.out.2⟩
/-- Taking a word, if it is meant. -/
def TakesP (C : Cx) (w : World) (x : Wd) (r : List Wd) (b t : Bool) (e : Ending) (w' : World) : Prop :=
  e = .returned (.bool t) ∧ Rd C w' (if t = true then r else x :: r) b ∧ Fr (Only C.d) w w'
set_option maxRecDepth 100000 in
set_option maxHeartbeats 2000000 in
theorem takes_any {C : Cx} {w : World} {x : Wd} {r : List Wd} {b : Bool} {mv : Value} {m : Wd → Bool} (h : Rd C w (x :: r) b) (hm : Mt w mv m) : Calls Tryz.prog 62 #[rp C, mv] w (TakesP C w x r b (m x)) := by
  have HS := Lib.hid (sees_any h hm)
  have hat := h.at
  have HR := Lib.hid h
  obtain ⟨d, g, c, ws⟩ := C
  unfold rp at *
  simp only at *
  clear h hm
  cases hmx : m x with
  | false =>
    rw [hmx] at HS
    go_enter Tryz.func62, Tryz.ntmps62
    go_wp2_with fail
    refine HS.out.mono ?_
    rintro e w1 ⟨rfl, f1⟩
    have F := Lib.hid f1
    clear f1
    go_wp2
    go_ret
    exact ⟨rfl, HR.out.keep F.out, F.out.any⟩
  | true =>
    rw [hmx] at HS
    obtain ⟨h1, h2, h3, h4, h5, h6, h7⟩ := hat
    have hll := HR.out.len
    simp only at hll h4 h2
    have HEND : Hid (∀ w1, Fr No w w1 → TakesP ⟨d, g, c, ws⟩ w x r b true (.returned (.bool true)) (w1.setCell ⟨d, 1, none⟩ (.int .i64 ((ws.length - r.length : Nat) : Int)))) := Lib.hid fun w1 f1 => by
      have hr1 := HR.out.keep f1
      have f2 : Fr (Only d) w1 (w1.setCell ⟨d, 1, none⟩ (.int .i64 ((ws.length - r.length : Nat) : Int))) := (Fr.refl (Only d) w1).setCell (p := ⟨d, 1, none⟩) (fun _ => rfl) _
      exact ⟨rfl, hr1.turn (r' := r) f2 (hr1.blk.set_ 1 _) h3, f1.any.trans f2 fun _ _ h => h⟩
    have HCELL : Hid (∀ w1, Fr No w w1 → w1.cell? ⟨d, 1, none⟩ = some (.int .i64 ((ws.length - (x :: r).length : Nat) : Int)) ∧ w1.frozen? ⟨d, 1, none⟩ = false) := Lib.hid fun w1 f1 => by
      have hr1 := HR.out.keep f1
      exact ⟨hr1.blk.cell 1, hr1.blk.frozen 1⟩
    rw [h4] at HEND
    generalize ws.length - (x :: r).length = a at *
    have ha : a ≤ 100000 := by omega
    have e1 : IntKind.i64.wrap ((a : Int) + 1) = ((a + 1 : Nat) : Int) := by rw [IntWalk.i64_in _ (by omega)]; omega
    have E1 := Lib.hid e1
    clear h1 h2 h3 h4 h5 h6 h7 hll e1
    go_enter Tryz.func62, Tryz.ntmps62
    go_wp2_with fail
    refine HS.out.mono ?_
    rintro e w1 ⟨rfl, f1⟩
    obtain ⟨c1, z1⟩ := HCELL.out w1 f1
    have HX := Lib.hid (HEND.out w1 f1)
    obtain ⟨q, hq⟩ : ∃ q, a + 1 = q := ⟨_, rfl⟩
    rw [hq] at HX E1
    have e1 := E1.out
    clear f1 hq
    go_wp2
    go_ret
    exact HX.out
end Go.Proofs.YtpdfenpmnpoehaaGreatDoor
