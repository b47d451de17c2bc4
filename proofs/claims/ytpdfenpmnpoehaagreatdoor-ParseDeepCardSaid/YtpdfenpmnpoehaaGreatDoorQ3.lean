/- Reading a query: whether the next word is meant, taking it. -/
import Derived.Test.YtpdfenpmnpoehaaGreatDoorQ2
namespace Go.Proofs.YtpdfenpmnpoehaaGreatDoor
open Go.RowKit Go.Maps
set_option linter.unusedVariables false

theorem mixedQ : Tryz.prog.follows .mixedOrders = true := by kernel_rfl
attribute [local go_sem ↓] to7 to7'
/-- among's word. -/
theorem among1_any (x : Wd) (y : Nat) (T : T7) (w : World) (hc : ∀ k, k < 7 → w.cell? ⟨y, k, none⟩ = some (sv (T.l.getD k []))) : Calls Tryz.prog 149 #[wdV x, .pointer (some ⟨y, 0, none⟩)] w fun e w' => e = .returned (.bool (amongW T.l x)) ∧ Fr No w w' := by
  have HF : Hid (∀ w', Calls Tryz.prog 117 #[wdV x] w' fun e w'' => e = .returned (.bool (fixW x)) ∧ Fr No w' w'') := Lib.hid fun w' => isFixed_any x w'
  have HP : Hid (∀ w', Calls Tryz.prog 114 #[.agg T.cs, sv x.text] w' fun e w'' => e = .returned (.int .i64 (placeW T.l x.text : Nat)) ∧ Fr No w' w'') := Lib.hid fun w' => place_any T x.text w'
  have HV : Hid (amongW T.l x = (fixW x && decide (0 < placeW T.l x.text))) := Lib.hid rfl
  obtain ⟨k, s, p⟩ := x
  unfold wdV at *
  simp only at HF HP HV ⊢
  have hyl := World.block_lt_of_cell? (a := ⟨y, 0, none⟩) _ (hc 0 (by omega))
  obtain ⟨w1, hw1⟩ : ∃ w1, w.alloc (.cells #[.int .i64 (k : Nat), sv s, .int .i64 (p : Nat)] 42) = w1 := ⟨_, rfl⟩
  have f1 : Fr No w w1 := by rw [← hw1]; exact (Fr.refl No w).alloc _
  have hb : Blk w1 w.heap.size 42 #[.int .i64 (k : Nat), sv s, .int .i64 (p : Nat)] := by rw [← hw1]; exact Blk.new w 42 _
  have c0 : w1.cell? ⟨w.heap.size, 0, none⟩ = some (.int .i64 (k : Nat)) := hb.cell 0
  have c1 : w1.cell? ⟨w.heap.size, 1, none⟩ = some (sv s) := hb.cell 1
  have c2 : w1.cell? ⟨w.heap.size, 2, none⟩ = some (.int .i64 (p : Nat)) := hb.cell 2
  have F1 := Lib.hid f1
  have HW1 := Lib.hid hw1
  obtain ⟨z, hz⟩ : ∃ z, w.heap.size = z := ⟨_, rfl⟩
  have HC : Hid (∀ w2, Fr No w1 w2 → w2.cell? ⟨z, 1, none⟩ = some (sv s) ∧ (cells7 ⟨y, 0, none⟩).run Tryz.prog w2 = .ok T.cs w2) := Lib.hid fun w2 f2 => by
    refine ⟨?_, ?_⟩
    · rw [← hz, cell_of_heap (f2.block _ hb.lt id)]; exact c1
    · have h1 := f1.block y hyl id
      have hl1 : y < w1.heap.size := Nat.lt_of_lt_of_le hyl f1.size
      exact load7 w2 T y fun k hk => by rw [cell_of_heap (f2.block y hl1 id), cell_of_heap h1]; exact hc k hk
  rw [hz] at c0 c1 c2
  have HZ := Lib.hid hz
  have HSZ : Hid (T.cs.size = 7) := Lib.hid rfl
  clear f1 hb hw1 hz hc hyl
  generalize fixW ⟨k, s, p⟩ = fx at *
  obtain ⟨N, hN⟩ : ∃ N, placeW T.l s = N := ⟨_, rfl⟩
  rw [hN] at HP HV
  clear hN
  generalize T.cs = K at *
  generalize (k : Int) = KK at *
  generalize (p : Int) = P at *
  go_enter Tryz.func149, Tryz.ntmps149
  go_upto_region 1 with fail
  rw [HW1.out, HZ.out]
  go_wp2_with fail
  refine (HF.out w1).mono ?_
  rintro e w2 ⟨rfl, f2⟩
  obtain ⟨d1, d2⟩ := HC.out w2 f2
  have F2 := Lib.hid (F1.out.trans f2 fun _ _ h => h)
  clear f2 c0 c1 c2
  cases fx with
  | true =>
    go_wp2_with fail
    refine (HP.out w2).mono ?_
    rintro e w3 ⟨rfl, f3⟩
    have F3 := Lib.hid (F2.out.trans f3 fun _ _ h => h)
    clear f3
    have HVV : Hid (amongW T.l ⟨k, s, p⟩ = decide ((0 : Int) < (N : Int))) := Lib.hid (by rw [HV.out, Bool.true_and]; simp)
    generalize (N : Int) = NN at *
    go_wp2
    go_ret
    exact ⟨ret_bool (by rw [HVV.out]), F3.out⟩
  | false =>
    go_wp2
    go_ret
    exact ⟨ret_bool (by rw [HV.out]; rfl), F2.out⟩
/-- A word that is meant, as a function value. -/
def Mt (w : World) (mv : Value) (m : Wd → Bool) : Prop :=
  (∃ y n, mv = .func (.func 123) #[] #[.pointer (some ⟨y, 0, none⟩)] ∧ w.cell? ⟨y, 0, none⟩ = some (.int .i64 (n : Nat)) ∧ m = ofW n) ∨
  (∃ y t, mv = .func (.func 116) #[] #[.pointer (some ⟨y, 0, none⟩)] ∧ w.cell? ⟨y, 0, none⟩ = some (sv t) ∧ m = saysW t) ∨
  (∃ y, ∃ T : T7, mv = .func (.func 149) #[] #[.pointer (some ⟨y, 0, none⟩)] ∧ (∀ k, k < 7 → w.cell? ⟨y, k, none⟩ = some (sv (T.l.getD k []))) ∧ m = amongW T.l)
theorem cell_lt {w : World} {g o : Nat} {v : Value} (h : w.cell? ⟨g, o, none⟩ = some v) : g < w.heap.size := World.block_lt_of_cell? (a := ⟨g, o, none⟩) _ h
theorem Mt.keep {w w' : World} {mv : Value} {m : Wd → Bool} (h : Mt w mv m) (hf : Fr No w w') : Mt w' mv m := by
  rcases h with ⟨y, n, h1, h2, h3⟩ | ⟨y, t, h1, h2, h3⟩ | ⟨y, T, h1, h2, h3⟩
  · exact .inl ⟨y, n, h1, by rw [cell_of_heap (hf.block y (cell_lt h2) id)]; exact h2, h3⟩
  · exact .inr (.inl ⟨y, t, h1, by rw [cell_of_heap (hf.block y (cell_lt h2) id)]; exact h2, h3⟩)
  · exact .inr (.inr ⟨y, T, h1, fun k hk => by rw [cell_of_heap (hf.block y (cell_lt (h2 k hk)) id)]; exact h2 k hk, h3⟩)
theorem fr_grow (w : World) (dd : Nat) (os : Array Obj) : Fr No w (Go.Sort.grow (redrawn w dd) os) := Fr.of_below (below_regrown _ _ _)
theorem fr_hp {w wx : World} (hp : ∃ p : Regrown, wx = Go.Sort.grow (redrawn w p.d) p.os) : Fr No w wx := by obtain ⟨p, rfl⟩ := hp; exact fr_grow _ _ _
/-- A contract that makes memory alone, in a drawn region. -/
theorem re_of {f : FuncId} {args : Array Value} {w : World} {v : Value} (h : ∀ w', Fr No w w' → Calls Tryz.prog f args w' fun e w'' => e = .returned v ∧ Fr No w' w'') : ∀ dd os, Calls Tryz.prog f args (Go.Sort.grow (redrawn w dd) os) fun e w'' => e = .returned v ∧ ∃ p : Regrown, w'' = Go.Sort.grow (redrawn w p.d) p.os := fun dd os =>
  Calls.regrown_of ((h _ (fr_grow w dd os)).mono fun e w'' ⟨h1, h2⟩ => ⟨h1, h2.below⟩)
set_option maxRecDepth 100000 in
set_option maxHeartbeats 4000000 in
theorem sees_any {C : Cx} {w : World} {x : Wd} {r : List Wd} {b : Bool} {mv : Value} {m : Wd → Bool} (h : Rd C w (x :: r) b) (hm : Mt w mv m) : Calls Tryz.prog 113 #[rp C, mv] w fun e w' => e = .returned (.bool (m x)) ∧ Fr No w w' := by
  obtain ⟨h1, h2, h3, h4, h5, h6, h7⟩ := h.at
  obtain ⟨k0, k1, k2⟩ := h.cells _ _ h1
  have hl := h.len
  have hb := h.blk
  generalize C.ws.length - (x :: r).length = a at *
  unfold rp
  unfold Cx.val at hb
  obtain ⟨d, g, c, ws⟩ := C
  simp only at *
  have z0 : ∀ dd os, (Go.Sort.grow (redrawn w dd) os).cell? ⟨d, 0, none⟩ = some (.slice (some ⟨g, 0, none⟩) ws.length c) := fun dd os => cell_regrown (hb.cell 0) dd os
  have z1 : ∀ dd os, (Go.Sort.grow (redrawn w dd) os).cell? ⟨d, 1, none⟩ = some (.int .i64 (a : Nat)) := fun dd os => cell_regrown (hb.cell 1) dd os
  have y0 : ∀ dd os, (Go.Sort.grow (redrawn w dd) os).cell? ⟨g, a * 3, none⟩ = some (.int .i64 (x.kind : Nat)) := fun dd os => cell_regrown k0 dd os
  have y1 : ∀ dd os, (Go.Sort.grow (redrawn w dd) os).cell? ⟨g, a * 3 + 1, none⟩ = some (sv x.text) := fun dd os => cell_regrown k1 dd os
  have y2 : ∀ dd os, (Go.Sort.grow (redrawn w dd) os).cell? ⟨g, a * 3 + 2, none⟩ = some (.int .i64 (x.pos : Nat)) := fun dd os => cell_regrown k2 dd os
  obtain ⟨n, hn⟩ : ∃ n, ws.length = n := ⟨_, rfl⟩
  rw [hn] at z0 h2 hl
  rcases hm with ⟨y, N, rfl, hc, rfl⟩ | ⟨y, t, rfl, hc, rfl⟩ | ⟨y, T, rfl, hc, rfl⟩
  · have HK := Lib.hid (re_of (w := w) (f := 123) (args := #[wdV x, .pointer (some ⟨y, 0, none⟩)]) fun w' f => of1_any x y N w' (by rw [cell_of_heap (f.block y (cell_lt hc) id)]; exact hc))
    unfold wdV at HK
    generalize ofW N x = res at *
    clear hc k0 k1 k2 hb h h1 h3 h4 h5
    generalize (x.kind : Int) = xk at *
    generalize x.text = xt at *
    generalize (x.pos : Int) = xp at *
    go_enter Tryz.func113, Tryz.ntmps113
    go_upto_region 1 with fail
    refine wp_region_quiet_below mixedQ (by kernel_rfl) ?_
    repeat (first | go_big_quiet_step (first | (with_reducible exact HK.out _ _)) | quiet_step (first | (with_reducible exact HK.out _ _)))
    refine wpQuiet_nil ?_
    intro wx hp
    have F := Lib.hid (fr_hp hp)
    clear hp
    go_wp2
    go_ret
    exact ⟨rfl, F.out⟩
  · have HK := Lib.hid (re_of (w := w) (f := 116) (args := #[wdV x, .pointer (some ⟨y, 0, none⟩)]) fun w' f => says1_any x y t w' (by rw [cell_of_heap (f.block y (cell_lt hc) id)]; exact hc))
    unfold wdV at HK
    generalize saysW t x = res at *
    clear hc k0 k1 k2 hb h h1 h3 h4 h5
    generalize (x.kind : Int) = xk at *
    generalize x.text = xt at *
    generalize (x.pos : Int) = xp at *
    go_enter Tryz.func113, Tryz.ntmps113
    go_upto_region 1 with fail
    refine wp_region_quiet_below mixedQ (by kernel_rfl) ?_
    repeat (first | go_big_quiet_step (first | (with_reducible exact HK.out _ _)) | quiet_step (first | (with_reducible exact HK.out _ _)))
    refine wpQuiet_nil ?_
    intro wx hp
    have F := Lib.hid (fr_hp hp)
    clear hp
    go_wp2
    go_ret
    exact ⟨rfl, F.out⟩
  · have HK := Lib.hid (re_of (w := w) (f := 149) (args := #[wdV x, .pointer (some ⟨y, 0, none⟩)]) fun w' f => among1_any x y T w' (fun k hk => by rw [cell_of_heap (f.block y (cell_lt (hc k hk)) id)]; exact hc k hk))
    unfold wdV at HK
    generalize amongW T.l x = res at *
    clear hc k0 k1 k2 hb h h1 h3 h4 h5
    generalize (x.kind : Int) = xk at *
    generalize x.text = xt at *
    generalize (x.pos : Int) = xp at *
    go_enter Tryz.func113, Tryz.ntmps113
    go_upto_region 1 with fail
    refine wp_region_quiet_below mixedQ (by kernel_rfl) ?_
    repeat (first | go_big_quiet_step (first | (with_reducible exact HK.out _ _)) | quiet_step (first | (with_reducible exact HK.out _ _)))
    refine wpQuiet_nil ?_
    intro wx hp
    have F := Lib.hid (fr_hp hp)
    clear hp
    go_wp2
    go_ret
    exact ⟨rfl, F.out⟩
end Go.Proofs.YtpdfenpmnpoehaaGreatDoor
