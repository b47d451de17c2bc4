/- The document's own Of, Add, Minus, Value. -/
import Derived.Test.YtlpglijikmnopaaGreatDoorA6
import Derived.Deep.RegionWith
namespace Go.Proofs.YtlpglijikmnopaaGreatDoor
open Go.RowKit Go.Maps Go.Sort
set_option linter.unusedVariables false

theorem mixedB : Tryz.prog.follows .mixedOrders = true := by kernel_rfl
theorem fr_reg (w : World) (dd : Nat) (os : Array Obj) : Fr No w (grow (redrawn w dd) os) := Fr.of_below (below_regrown w dd os)
theorem tells_grown {f : FuncId} {args : Array Value} {w : World} {v : Value} (h : ∀ w', Fr No w w' → Calls Tryz.prog f args w' (TellsV v w')) (dd : Nat) (os : Array Obj) :
    Calls Tryz.prog f args (grow (redrawn w dd) os) fun e w'' => e = .returned v ∧ ∃ p : Regrown, w'' = grow (redrawn w p.d) p.os :=
  Calls.regrown_of ((h _ (fr_reg w dd os)).mono fun _ _ ⟨h1, h2⟩ => ⟨h1, h2.below⟩)
set_option maxRecDepth 100000 in
/-- Of. -/
theorem of_any (n : Int) (hn : i64 n) (w : World) : Calls Tryz.prog 112 #[.int .i64 n] w (TellsS (ofS n) w) := by
  unfold i64 i64' at hn
  obtain ⟨q, hq⟩ : ∃ q, n % 18446744073709551616 = q := ⟨_, rfl⟩
  have e1 : IntKind.u64.wrap n = q := by rw [u64w, hq]
  by_cases hneg : n < 0
  · have e2 : (n < 0) = True := eq_true hneg
    have HE : Hid (ofS n = ⟨-1, q⟩) := Lib.hid (by unfold ofS; rw [hq]; congr 1; omega)
    rw [HE.out]
    clear hn hq hneg
    go_enter Tryz.func112, Tryz.ntmps112
    go_wp2_with fail
    refine bodyPost_ret (v := smV ⟨-1, q⟩) (by simp [results, Tryz.results112, go_sem]) rfl ⟨rfl, (Fr.refl _ _).alloc _⟩
  · have e2 : (n < 0) = False := eq_false hneg
    have HE : Hid (ofS n = ⟨0, q⟩) := Lib.hid (by unfold ofS; rw [hq]; congr 1; omega)
    rw [HE.out]
    clear hn hq hneg
    go_enter Tryz.func112, Tryz.ntmps112
    go_wp2_with fail
    refine bodyPost_ret (v := smV ⟨0, q⟩) (by simp [results, Tryz.results112, go_sem]) rfl ⟨rfl, (Fr.refl _ _).alloc _⟩
set_option maxRecDepth 100000 in
/-- Add. -/
theorem radd_any (a : Sm) (n : Int) (ha : a.ok) (hn : i64 n) (w : World) : Calls Tryz.prog 90 #[smV a, .int .i64 n] w (TellsS (addS a n) w) := by
  obtain ⟨⟨ph, pl⟩, hp⟩ : ∃ s, ofS n = s := ⟨_, rfl⟩
  obtain ⟨⟨sh, sl⟩, hs⟩ : ∃ s, addS a n = s := ⟨_, rfl⟩
  have HO : Hid (∀ w', Calls Tryz.prog 112 #[.int .i64 n] w' (TellsV (.agg #[.int .i64 ph, .int .u64 pl]) w')) := Lib.hid fun w' => by have := of_any n hn w'; rw [hp] at this; exact this
  have hpl := rplus_any a ⟨ph, pl⟩ ha (by rw [← hp]; exact ofS_ok hn)
  rw [show plusS a ⟨ph, pl⟩ = ⟨sh, sl⟩ by rw [← hs, ← hp]; rfl] at hpl
  rw [hs]
  obtain ⟨ah, al⟩ := a
  have HP : Hid (∀ w', Calls Tryz.prog 111 #[.agg #[.int .i64 ah, .int .u64 al], .agg #[.int .i64 ph, .int .u64 pl]] w' (TellsV (.agg #[.int .i64 sh, .int .u64 sl]) w')) := Lib.hid fun w' => hpl w'
  obtain ⟨b, hb⟩ : ∃ b, w.heap.size = b := ⟨_, rfl⟩
  obtain ⟨w1, hw1⟩ : ∃ w1, (w.alloc (.cells #[.int .i64 ah, .int .u64 al] 86)).alloc (.cells #[.int .i64 0, .int .u64 0] 86) = w1 := ⟨_, rfl⟩
  have f1 : Fr No w w1 := by rw [← hw1]; exact ((Fr.refl No w).alloc _).alloc _
  have hx : Blk w1 b 86 #[.int .i64 ah, .int .u64 al] := by rw [← hw1, ← hb]; exact (Blk.new w 86 _).no ((Fr.refl No _).alloc _)
  have hr : Blk w1 (b + 1) 86 #[.int .i64 0, .int .u64 0] := by rw [← hw1, ← hb]; exact blk_at1 w _ 86 _
  have HX : Hid (∀ w', Fr No w1 w' → w'.cell? ⟨b, 0, none⟩ = some (.int .i64 ah) ∧ w'.cell? ⟨b, 1, none⟩ = some (.int .u64 al)) := Lib.hid fun w' f' => ⟨(hx.no f').cell 0, (hx.no f').cell 1⟩
  have HR : Hid (∀ w', Fr No w1 w' → w'.cell? ⟨b + 1, 0, none⟩ = some (.int .i64 0) ∧ w'.cell? ⟨b + 1, 1, none⟩ = some (.int .u64 0) ∧ w'.frozen? ⟨b + 1, 0, none⟩ = false ∧ w'.frozen? ⟨b + 1, 1, none⟩ = false) := Lib.hid fun w' f' => blk2 (hr.no f')
  have HW1 := Lib.hid hw1
  have HB := Lib.hid hb
  have HF1 := Lib.hid f1
  have hbw : w.heap.size ≤ b + 1 := by omega
  obtain ⟨x0, x1⟩ := HX.out w1.drew ((Fr.refl No w1).drew)
  clear hb hw1 f1 hx hr ha hn hp hs hpl
  go_enter Tryz.func90, Tryz.ntmps90
  go_upto_region 1 with fail
  rw [HW1.out, HB.out]
  go_region_with (first
    | (go_at_call 112; refine (HO.out _).mono ?_; rintro e w2 ⟨rfl, f2⟩; have F2 := (Fr.refl No w1).drew.trans f2 fun _ _ h => h; obtain ⟨y0, y1⟩ := HX.out w2 F2; have HF2 := Lib.hid F2; clear f2 F2)
    | (go_at_call 111; refine (HP.out _).mono ?_; rintro e w3 ⟨rfl, f3⟩; have F3 := HF2.out.trans f3 fun _ _ h => h; obtain ⟨u0, u1, z0, z1⟩ := HR.out w3 F3; have HF3 := Lib.hid F3; clear f3 F3))
  all_goals
    go_wp2_with fail
    refine bodyPost_ret (v := smV ⟨sh, sl⟩) (by simp [results, Tryz.results90, go_sem, u0, u1]) rfl ⟨rfl, ?_⟩
    refine Fr.set_new (Fr.set_new ?_ hbw _) hbw _
    exact HF1.out.trans HF3.out fun _ _ h => h
end Go.Proofs.YtlpglijikmnopaaGreatDoor
