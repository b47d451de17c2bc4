/- lay: a thing, by a writer. -/
import Derived.Test.YtjhjcdfhfjeogaaF1
namespace Go.Proofs.Ytjhjcdfhfjeogaa
open Go.RowKit Go.Maps
set_option linter.unusedVariables false

def WS.thing (S : WS) (t : ThingP) : WS :=
  if t.kind = 0 then S.byte (t.n % 256).toNat else if t.kind = 1 then S.int t.n else if t.kind = 2 then S.count t.n else if t.kind = 3 then S.text t.s
  else if t.kind = 4 then S.texts t.l else if t.kind = 5 then S.cell (one t.cells) else if t.kind = 6 then S.cells t.cells else if t.kind = 7 then S.fact (any t.facts)
  else if t.kind = 8 then S.facts t.facts else S.schema t.l t.meas
theorem u8_wrap (n : Int) : IntKind.u8.wrap n = (((n % 256).toNat : Nat) : Int) := by rw [IntKind.wrap_u8']; omega
set_option maxRecDepth 100000 in
set_option maxHeartbeats 1000000 in
theorem lay_0 (p : Option Nat) (v : Value) (S : WS) (K : Nat → Prop) (n : Int) (s : List UInt8) (l : List (List UInt8)) (cl : List CellP) (fl : List FactP) (ml : List (List UInt8)) (lv cv fv mv : Value) (w : World) (h : WAt w p v S) (ht : ThingAt K w ⟨0, n, s, l, cl, fl, ml⟩ lv cv fv mv) (hk : Off p v w K) :
    Calls Try.prog 19 #[wpt p, .agg #[.int .i64 0, .int .i64 n, sv s, lv, cv, fv, mv]] w (WP p v w (S.byte (n % 256).toNat)) := by
  obtain ⟨A1, n1, k1, rfl⟩ := ht.l.slice
  obtain ⟨A2, n2, k2, rfl⟩ := ht.c.slice
  obtain ⟨A3, n3, k3, rfl⟩ := ht.f.slice
  obtain ⟨A4, n4, k4, rfl⟩ := ht.m.slice
  obtain ⟨wa, hwa⟩ : ∃ wa, w.alloc (.cells #[.int .i64 0, .int .i64 n, sv s, .slice A1 n1 k1, .slice A2 n2 k2, .slice A3 n3 k3, .slice A4 n4 k4] 58) = wa := ⟨_, rfl⟩
  obtain ⟨gb, hgb⟩ : ∃ gb, w.heap.size = gb := ⟨_, rfl⟩
  have hbx : Blk wa gb 58 #[.int .i64 0, .int .i64 n, sv s, .slice A1 n1 k1, .slice A2 n2 k2, .slice A3 n3 k3, .slice A4 n4 k4] := by rw [← hwa, ← hgb]; exact Blk.new w 58 _
  have hat : WAt wa p v S := by rw [← hwa]; exact h.alloc _
  have hwl : WL p v w v wa := by rw [← hwa]; exact WL.alloc0 p v w _
  have hta := ht.of (hk.same hwl)
  have hka := hk.wl hwl
  have c0 : wa.cell? ⟨gb, 0, none⟩ = some (.int .i64 0) := hbx.cell 0
  have c1 : wa.cell? ⟨gb, 1, none⟩ = some (.int .i64 n) := hbx.cell 1
  have c2 : wa.cell? ⟨gb, 2, none⟩ = some (sv s) := hbx.cell 2
  have c3 : wa.cell? ⟨gb, 3, none⟩ = some (.slice A1 n1 k1) := hbx.cell 3
  have c4 : wa.cell? ⟨gb, 4, none⟩ = some (.slice A2 n2 k2) := hbx.cell 4
  have c5 : wa.cell? ⟨gb, 5, none⟩ = some (.slice A3 n3 k3) := hbx.cell 5
  have c6 : wa.cell? ⟨gb, 6, none⟩ = some (.slice A4 n4 k4) := hbx.cell 6
  have HA := Lib.hid hat
  have HW := Lib.hid hwl
  have HT := Lib.hid hta
  have HK := Lib.hid hka
  obtain ⟨b, hb⟩ : ∃ b, (n % 256).toNat = b := ⟨_, rfl⟩
  have HBL : Hid (b < 256) := Lib.hid (by omega)
  have HBB := Lib.hid hb
  have hu : IntKind.u8.wrap n = (b : Int) := by rw [u8_wrap, hb]
  have hu2 : n % 256 = (b : Int) := by omega
  clear hb
  clear h ht hk hat hwl hta hka hbx
  generalize hP : wpt p = P at *
  have HP := Lib.hid hP
  clear hP
  go_enter Try.func19, Try.ntmps19
  go_wp2_with fail
  rw [← HP.out]
  refine (wbyte_any p v S b wa HA.out HBL.out).mono ?_
  rintro e w2 ⟨rfl, v2, h2, l2⟩
  go_wp2
  go_end0
  exact ⟨rfl, v2, by rw [HBB.out]; exact h2, HW.out.trans l2⟩
set_option maxRecDepth 100000 in
set_option maxHeartbeats 1000000 in
theorem lay_1 (p : Option Nat) (v : Value) (S : WS) (K : Nat → Prop) (n : Int) (s : List UInt8) (l : List (List UInt8)) (cl : List CellP) (fl : List FactP) (ml : List (List UInt8)) (lv cv fv mv : Value) (w : World) (h : WAt w p v S) (ht : ThingAt K w ⟨1, n, s, l, cl, fl, ml⟩ lv cv fv mv) (hk : Off p v w K) :
    Calls Try.prog 19 #[wpt p, .agg #[.int .i64 1, .int .i64 n, sv s, lv, cv, fv, mv]] w (WP p v w (S.int n)) := by
  obtain ⟨A1, n1, k1, rfl⟩ := ht.l.slice
  obtain ⟨A2, n2, k2, rfl⟩ := ht.c.slice
  obtain ⟨A3, n3, k3, rfl⟩ := ht.f.slice
  obtain ⟨A4, n4, k4, rfl⟩ := ht.m.slice
  obtain ⟨wa, hwa⟩ : ∃ wa, w.alloc (.cells #[.int .i64 1, .int .i64 n, sv s, .slice A1 n1 k1, .slice A2 n2 k2, .slice A3 n3 k3, .slice A4 n4 k4] 58) = wa := ⟨_, rfl⟩
  obtain ⟨gb, hgb⟩ : ∃ gb, w.heap.size = gb := ⟨_, rfl⟩
  have hbx : Blk wa gb 58 #[.int .i64 1, .int .i64 n, sv s, .slice A1 n1 k1, .slice A2 n2 k2, .slice A3 n3 k3, .slice A4 n4 k4] := by rw [← hwa, ← hgb]; exact Blk.new w 58 _
  have hat : WAt wa p v S := by rw [← hwa]; exact h.alloc _
  have hwl : WL p v w v wa := by rw [← hwa]; exact WL.alloc0 p v w _
  have hta := ht.of (hk.same hwl)
  have hka := hk.wl hwl
  have c0 : wa.cell? ⟨gb, 0, none⟩ = some (.int .i64 1) := hbx.cell 0
  have c1 : wa.cell? ⟨gb, 1, none⟩ = some (.int .i64 n) := hbx.cell 1
  have c2 : wa.cell? ⟨gb, 2, none⟩ = some (sv s) := hbx.cell 2
  have c3 : wa.cell? ⟨gb, 3, none⟩ = some (.slice A1 n1 k1) := hbx.cell 3
  have c4 : wa.cell? ⟨gb, 4, none⟩ = some (.slice A2 n2 k2) := hbx.cell 4
  have c5 : wa.cell? ⟨gb, 5, none⟩ = some (.slice A3 n3 k3) := hbx.cell 5
  have c6 : wa.cell? ⟨gb, 6, none⟩ = some (.slice A4 n4 k4) := hbx.cell 6
  have HA := Lib.hid hat
  have HW := Lib.hid hwl
  have HT := Lib.hid hta
  have HK := Lib.hid hka
  clear h ht hk hat hwl hta hka hbx
  generalize hP : wpt p = P at *
  have HP := Lib.hid hP
  clear hP
  go_enter Try.func19, Try.ntmps19
  go_wp2_with fail
  rw [← HP.out]
  refine (wint_any p v S n wa HA.out).mono ?_
  rintro e w2 ⟨rfl, v2, h2, l2⟩
  go_wp2
  go_end0
  exact ⟨rfl, v2, h2, HW.out.trans l2⟩
set_option maxRecDepth 100000 in
set_option maxHeartbeats 1000000 in
theorem lay_2 (p : Option Nat) (v : Value) (S : WS) (K : Nat → Prop) (n : Int) (s : List UInt8) (l : List (List UInt8)) (cl : List CellP) (fl : List FactP) (ml : List (List UInt8)) (lv cv fv mv : Value) (w : World) (h : WAt w p v S) (ht : ThingAt K w ⟨2, n, s, l, cl, fl, ml⟩ lv cv fv mv) (hk : Off p v w K) :
    Calls Try.prog 19 #[wpt p, .agg #[.int .i64 2, .int .i64 n, sv s, lv, cv, fv, mv]] w (WP p v w (S.count n)) := by
  obtain ⟨A1, n1, k1, rfl⟩ := ht.l.slice
  obtain ⟨A2, n2, k2, rfl⟩ := ht.c.slice
  obtain ⟨A3, n3, k3, rfl⟩ := ht.f.slice
  obtain ⟨A4, n4, k4, rfl⟩ := ht.m.slice
  obtain ⟨wa, hwa⟩ : ∃ wa, w.alloc (.cells #[.int .i64 2, .int .i64 n, sv s, .slice A1 n1 k1, .slice A2 n2 k2, .slice A3 n3 k3, .slice A4 n4 k4] 58) = wa := ⟨_, rfl⟩
  obtain ⟨gb, hgb⟩ : ∃ gb, w.heap.size = gb := ⟨_, rfl⟩
  have hbx : Blk wa gb 58 #[.int .i64 2, .int .i64 n, sv s, .slice A1 n1 k1, .slice A2 n2 k2, .slice A3 n3 k3, .slice A4 n4 k4] := by rw [← hwa, ← hgb]; exact Blk.new w 58 _
  have hat : WAt wa p v S := by rw [← hwa]; exact h.alloc _
  have hwl : WL p v w v wa := by rw [← hwa]; exact WL.alloc0 p v w _
  have hta := ht.of (hk.same hwl)
  have hka := hk.wl hwl
  have c0 : wa.cell? ⟨gb, 0, none⟩ = some (.int .i64 2) := hbx.cell 0
  have c1 : wa.cell? ⟨gb, 1, none⟩ = some (.int .i64 n) := hbx.cell 1
  have c2 : wa.cell? ⟨gb, 2, none⟩ = some (sv s) := hbx.cell 2
  have c3 : wa.cell? ⟨gb, 3, none⟩ = some (.slice A1 n1 k1) := hbx.cell 3
  have c4 : wa.cell? ⟨gb, 4, none⟩ = some (.slice A2 n2 k2) := hbx.cell 4
  have c5 : wa.cell? ⟨gb, 5, none⟩ = some (.slice A3 n3 k3) := hbx.cell 5
  have c6 : wa.cell? ⟨gb, 6, none⟩ = some (.slice A4 n4 k4) := hbx.cell 6
  have HA := Lib.hid hat
  have HW := Lib.hid hwl
  have HT := Lib.hid hta
  have HK := Lib.hid hka
  clear h ht hk hat hwl hta hka hbx
  generalize hP : wpt p = P at *
  have HP := Lib.hid hP
  clear hP
  go_enter Try.func19, Try.ntmps19
  go_wp2_with fail
  rw [← HP.out]
  refine (wcount_any p v S n wa HA.out).mono ?_
  rintro e w2 ⟨rfl, v2, h2, l2⟩
  go_wp2
  go_end0
  exact ⟨rfl, v2, h2, HW.out.trans l2⟩
set_option maxRecDepth 100000 in
set_option maxHeartbeats 1000000 in
theorem lay_3 (p : Option Nat) (v : Value) (S : WS) (K : Nat → Prop) (n : Int) (s : List UInt8) (l : List (List UInt8)) (cl : List CellP) (fl : List FactP) (ml : List (List UInt8)) (lv cv fv mv : Value) (w : World) (h : WAt w p v S) (ht : ThingAt K w ⟨3, n, s, l, cl, fl, ml⟩ lv cv fv mv) (hk : Off p v w K) :
    Calls Try.prog 19 #[wpt p, .agg #[.int .i64 3, .int .i64 n, sv s, lv, cv, fv, mv]] w (WP p v w (S.text s)) := by
  obtain ⟨A1, n1, k1, rfl⟩ := ht.l.slice
  obtain ⟨A2, n2, k2, rfl⟩ := ht.c.slice
  obtain ⟨A3, n3, k3, rfl⟩ := ht.f.slice
  obtain ⟨A4, n4, k4, rfl⟩ := ht.m.slice
  obtain ⟨wa, hwa⟩ : ∃ wa, w.alloc (.cells #[.int .i64 3, .int .i64 n, sv s, .slice A1 n1 k1, .slice A2 n2 k2, .slice A3 n3 k3, .slice A4 n4 k4] 58) = wa := ⟨_, rfl⟩
  obtain ⟨gb, hgb⟩ : ∃ gb, w.heap.size = gb := ⟨_, rfl⟩
  have hbx : Blk wa gb 58 #[.int .i64 3, .int .i64 n, sv s, .slice A1 n1 k1, .slice A2 n2 k2, .slice A3 n3 k3, .slice A4 n4 k4] := by rw [← hwa, ← hgb]; exact Blk.new w 58 _
  have hat : WAt wa p v S := by rw [← hwa]; exact h.alloc _
  have hwl : WL p v w v wa := by rw [← hwa]; exact WL.alloc0 p v w _
  have hta := ht.of (hk.same hwl)
  have hka := hk.wl hwl
  have c0 : wa.cell? ⟨gb, 0, none⟩ = some (.int .i64 3) := hbx.cell 0
  have c1 : wa.cell? ⟨gb, 1, none⟩ = some (.int .i64 n) := hbx.cell 1
  have c2 : wa.cell? ⟨gb, 2, none⟩ = some (sv s) := hbx.cell 2
  have c3 : wa.cell? ⟨gb, 3, none⟩ = some (.slice A1 n1 k1) := hbx.cell 3
  have c4 : wa.cell? ⟨gb, 4, none⟩ = some (.slice A2 n2 k2) := hbx.cell 4
  have c5 : wa.cell? ⟨gb, 5, none⟩ = some (.slice A3 n3 k3) := hbx.cell 5
  have c6 : wa.cell? ⟨gb, 6, none⟩ = some (.slice A4 n4 k4) := hbx.cell 6
  have HA := Lib.hid hat
  have HW := Lib.hid hwl
  have HT := Lib.hid hta
  have HK := Lib.hid hka
  clear h ht hk hat hwl hta hka hbx
  generalize hP : wpt p = P at *
  have HP := Lib.hid hP
  clear hP
  go_enter Try.func19, Try.ntmps19
  go_wp2_with fail
  rw [← HP.out]
  refine (wtext_any p v S s wa HA.out HT.out.sb).mono ?_
  rintro e w2 ⟨rfl, v2, h2, l2⟩
  go_wp2
  go_end0
  exact ⟨rfl, v2, h2, HW.out.trans l2⟩
set_option maxRecDepth 100000 in
set_option maxHeartbeats 1000000 in
theorem lay_4 (p : Option Nat) (v : Value) (S : WS) (K : Nat → Prop) (n : Int) (s : List UInt8) (l : List (List UInt8)) (cl : List CellP) (fl : List FactP) (ml : List (List UInt8)) (lv cv fv mv : Value) (w : World) (h : WAt w p v S) (ht : ThingAt K w ⟨4, n, s, l, cl, fl, ml⟩ lv cv fv mv) (hk : Off p v w K) :
    Calls Try.prog 19 #[wpt p, .agg #[.int .i64 4, .int .i64 n, sv s, lv, cv, fv, mv]] w (WP p v w (S.texts l)) := by
  obtain ⟨A1, n1, k1, rfl⟩ := ht.l.slice
  obtain ⟨A2, n2, k2, rfl⟩ := ht.c.slice
  obtain ⟨A3, n3, k3, rfl⟩ := ht.f.slice
  obtain ⟨A4, n4, k4, rfl⟩ := ht.m.slice
  obtain ⟨wa, hwa⟩ : ∃ wa, w.alloc (.cells #[.int .i64 4, .int .i64 n, sv s, .slice A1 n1 k1, .slice A2 n2 k2, .slice A3 n3 k3, .slice A4 n4 k4] 58) = wa := ⟨_, rfl⟩
  obtain ⟨gb, hgb⟩ : ∃ gb, w.heap.size = gb := ⟨_, rfl⟩
  have hbx : Blk wa gb 58 #[.int .i64 4, .int .i64 n, sv s, .slice A1 n1 k1, .slice A2 n2 k2, .slice A3 n3 k3, .slice A4 n4 k4] := by rw [← hwa, ← hgb]; exact Blk.new w 58 _
  have hat : WAt wa p v S := by rw [← hwa]; exact h.alloc _
  have hwl : WL p v w v wa := by rw [← hwa]; exact WL.alloc0 p v w _
  have hta := ht.of (hk.same hwl)
  have hka := hk.wl hwl
  have c0 : wa.cell? ⟨gb, 0, none⟩ = some (.int .i64 4) := hbx.cell 0
  have c1 : wa.cell? ⟨gb, 1, none⟩ = some (.int .i64 n) := hbx.cell 1
  have c2 : wa.cell? ⟨gb, 2, none⟩ = some (sv s) := hbx.cell 2
  have c3 : wa.cell? ⟨gb, 3, none⟩ = some (.slice A1 n1 k1) := hbx.cell 3
  have c4 : wa.cell? ⟨gb, 4, none⟩ = some (.slice A2 n2 k2) := hbx.cell 4
  have c5 : wa.cell? ⟨gb, 5, none⟩ = some (.slice A3 n3 k3) := hbx.cell 5
  have c6 : wa.cell? ⟨gb, 6, none⟩ = some (.slice A4 n4 k4) := hbx.cell 6
  have HA := Lib.hid hat
  have HW := Lib.hid hwl
  have HT := Lib.hid hta
  have HK := Lib.hid hka
  clear h ht hk hat hwl hta hka hbx
  generalize hP : wpt p = P at *
  have HP := Lib.hid hP
  clear hP
  go_enter Try.func19, Try.ntmps19
  go_wp2_with fail
  rw [← HP.out]
  refine (wtexts_any p v S K _ l wa HA.out HT.out.l HK.out).mono ?_
  rintro e w2 ⟨rfl, v2, h2, l2⟩
  go_wp2
  go_end0
  exact ⟨rfl, v2, h2, HW.out.trans l2⟩
set_option maxRecDepth 100000 in
set_option maxHeartbeats 1000000 in
theorem lay_5 (p : Option Nat) (v : Value) (S : WS) (K : Nat → Prop) (n : Int) (s : List UInt8) (l : List (List UInt8)) (cl : List CellP) (fl : List FactP) (ml : List (List UInt8)) (lv cv fv mv : Value) (w : World) (h : WAt w p v S) (ht : ThingAt K w ⟨5, n, s, l, cl, fl, ml⟩ lv cv fv mv) (hk : Off p v w K) :
    Calls Try.prog 19 #[wpt p, .agg #[.int .i64 5, .int .i64 n, sv s, lv, cv, fv, mv]] w (WP p v w (S.cell (one cl))) := by
  obtain ⟨A1, n1, k1, rfl⟩ := ht.l.slice
  obtain ⟨A2, n2, k2, rfl⟩ := ht.c.slice
  obtain ⟨A3, n3, k3, rfl⟩ := ht.f.slice
  obtain ⟨A4, n4, k4, rfl⟩ := ht.m.slice
  obtain ⟨wa, hwa⟩ : ∃ wa, w.alloc (.cells #[.int .i64 5, .int .i64 n, sv s, .slice A1 n1 k1, .slice A2 n2 k2, .slice A3 n3 k3, .slice A4 n4 k4] 58) = wa := ⟨_, rfl⟩
  obtain ⟨gb, hgb⟩ : ∃ gb, w.heap.size = gb := ⟨_, rfl⟩
  have hbx : Blk wa gb 58 #[.int .i64 5, .int .i64 n, sv s, .slice A1 n1 k1, .slice A2 n2 k2, .slice A3 n3 k3, .slice A4 n4 k4] := by rw [← hwa, ← hgb]; exact Blk.new w 58 _
  have hat : WAt wa p v S := by rw [← hwa]; exact h.alloc _
  have hwl : WL p v w v wa := by rw [← hwa]; exact WL.alloc0 p v w _
  have hta := ht.of (hk.same hwl)
  have hka := hk.wl hwl
  have c0 : wa.cell? ⟨gb, 0, none⟩ = some (.int .i64 5) := hbx.cell 0
  have c1 : wa.cell? ⟨gb, 1, none⟩ = some (.int .i64 n) := hbx.cell 1
  have c2 : wa.cell? ⟨gb, 2, none⟩ = some (sv s) := hbx.cell 2
  have c3 : wa.cell? ⟨gb, 3, none⟩ = some (.slice A1 n1 k1) := hbx.cell 3
  have c4 : wa.cell? ⟨gb, 4, none⟩ = some (.slice A2 n2 k2) := hbx.cell 4
  have c5 : wa.cell? ⟨gb, 5, none⟩ = some (.slice A3 n3 k3) := hbx.cell 5
  have c6 : wa.cell? ⟨gb, 6, none⟩ = some (.slice A4 n4 k4) := hbx.cell 6
  have HA := Lib.hid hat
  have HW := Lib.hid hwl
  have HT := Lib.hid hta
  have HK := Lib.hid hka
  clear h ht hk hat hwl hta hka hbx
  generalize hP : wpt p = P at *
  have HP := Lib.hid hP
  clear hP
  go_enter Try.func19, Try.ntmps19
  go_wp2_with fail
  refine (one_any K _ cl wa HT.out.c).mono ?_
  unfold CellP.val
  rintro e w1 ⟨rfl, hb1⟩
  have HA1 := Lib.hid (HA.out.below hb1)
  have HW1 := Lib.hid (HW.out.trans (WL.below hb1))
  clear hb1
  go_wp2_with fail
  rw [← HP.out]
  refine (wcell_any p v S (one cl) w1 HA1.out (one_ok HT.out.c).2.2).mono ?_
  rintro e w2 ⟨rfl, v2, h2, l2⟩
  go_wp2
  go_end0
  exact ⟨rfl, v2, h2, HW1.out.trans l2⟩
set_option maxRecDepth 100000 in
set_option maxHeartbeats 1000000 in
theorem lay_6 (p : Option Nat) (v : Value) (S : WS) (K : Nat → Prop) (n : Int) (s : List UInt8) (l : List (List UInt8)) (cl : List CellP) (fl : List FactP) (ml : List (List UInt8)) (lv cv fv mv : Value) (w : World) (h : WAt w p v S) (ht : ThingAt K w ⟨6, n, s, l, cl, fl, ml⟩ lv cv fv mv) (hk : Off p v w K) :
    Calls Try.prog 19 #[wpt p, .agg #[.int .i64 6, .int .i64 n, sv s, lv, cv, fv, mv]] w (WP p v w (S.cells cl)) := by
  obtain ⟨A1, n1, k1, rfl⟩ := ht.l.slice
  obtain ⟨A2, n2, k2, rfl⟩ := ht.c.slice
  obtain ⟨A3, n3, k3, rfl⟩ := ht.f.slice
  obtain ⟨A4, n4, k4, rfl⟩ := ht.m.slice
  obtain ⟨wa, hwa⟩ : ∃ wa, w.alloc (.cells #[.int .i64 6, .int .i64 n, sv s, .slice A1 n1 k1, .slice A2 n2 k2, .slice A3 n3 k3, .slice A4 n4 k4] 58) = wa := ⟨_, rfl⟩
  obtain ⟨gb, hgb⟩ : ∃ gb, w.heap.size = gb := ⟨_, rfl⟩
  have hbx : Blk wa gb 58 #[.int .i64 6, .int .i64 n, sv s, .slice A1 n1 k1, .slice A2 n2 k2, .slice A3 n3 k3, .slice A4 n4 k4] := by rw [← hwa, ← hgb]; exact Blk.new w 58 _
  have hat : WAt wa p v S := by rw [← hwa]; exact h.alloc _
  have hwl : WL p v w v wa := by rw [← hwa]; exact WL.alloc0 p v w _
  have hta := ht.of (hk.same hwl)
  have hka := hk.wl hwl
  have c0 : wa.cell? ⟨gb, 0, none⟩ = some (.int .i64 6) := hbx.cell 0
  have c1 : wa.cell? ⟨gb, 1, none⟩ = some (.int .i64 n) := hbx.cell 1
  have c2 : wa.cell? ⟨gb, 2, none⟩ = some (sv s) := hbx.cell 2
  have c3 : wa.cell? ⟨gb, 3, none⟩ = some (.slice A1 n1 k1) := hbx.cell 3
  have c4 : wa.cell? ⟨gb, 4, none⟩ = some (.slice A2 n2 k2) := hbx.cell 4
  have c5 : wa.cell? ⟨gb, 5, none⟩ = some (.slice A3 n3 k3) := hbx.cell 5
  have c6 : wa.cell? ⟨gb, 6, none⟩ = some (.slice A4 n4 k4) := hbx.cell 6
  have HA := Lib.hid hat
  have HW := Lib.hid hwl
  have HT := Lib.hid hta
  have HK := Lib.hid hka
  clear h ht hk hat hwl hta hka hbx
  generalize hP : wpt p = P at *
  have HP := Lib.hid hP
  clear hP
  go_enter Try.func19, Try.ntmps19
  go_wp2_with fail
  rw [← HP.out]
  refine (wcells_any p v S K _ cl wa HA.out HT.out.c HK.out).mono ?_
  rintro e w2 ⟨rfl, v2, h2, l2⟩
  go_wp2
  go_end0
  exact ⟨rfl, v2, h2, HW.out.trans l2⟩
set_option maxRecDepth 100000 in
set_option maxHeartbeats 1000000 in
theorem lay_7 (p : Option Nat) (v : Value) (S : WS) (K : Nat → Prop) (n : Int) (s : List UInt8) (l : List (List UInt8)) (cl : List CellP) (fl : List FactP) (ml : List (List UInt8)) (lv cv fv mv : Value) (w : World) (h : WAt w p v S) (ht : ThingAt K w ⟨7, n, s, l, cl, fl, ml⟩ lv cv fv mv) (hk : Off p v w K) :
    Calls Try.prog 19 #[wpt p, .agg #[.int .i64 7, .int .i64 n, sv s, lv, cv, fv, mv]] w (WP p v w (S.fact (any fl))) := by
  obtain ⟨A1, n1, k1, rfl⟩ := ht.l.slice
  obtain ⟨A2, n2, k2, rfl⟩ := ht.c.slice
  obtain ⟨A3, n3, k3, rfl⟩ := ht.f.slice
  obtain ⟨A4, n4, k4, rfl⟩ := ht.m.slice
  obtain ⟨wa, hwa⟩ : ∃ wa, w.alloc (.cells #[.int .i64 7, .int .i64 n, sv s, .slice A1 n1 k1, .slice A2 n2 k2, .slice A3 n3 k3, .slice A4 n4 k4] 58) = wa := ⟨_, rfl⟩
  obtain ⟨gb, hgb⟩ : ∃ gb, w.heap.size = gb := ⟨_, rfl⟩
  have hbx : Blk wa gb 58 #[.int .i64 7, .int .i64 n, sv s, .slice A1 n1 k1, .slice A2 n2 k2, .slice A3 n3 k3, .slice A4 n4 k4] := by rw [← hwa, ← hgb]; exact Blk.new w 58 _
  have hat : WAt wa p v S := by rw [← hwa]; exact h.alloc _
  have hwl : WL p v w v wa := by rw [← hwa]; exact WL.alloc0 p v w _
  have hta := ht.of (hk.same hwl)
  have hka := hk.wl hwl
  have c0 : wa.cell? ⟨gb, 0, none⟩ = some (.int .i64 7) := hbx.cell 0
  have c1 : wa.cell? ⟨gb, 1, none⟩ = some (.int .i64 n) := hbx.cell 1
  have c2 : wa.cell? ⟨gb, 2, none⟩ = some (sv s) := hbx.cell 2
  have c3 : wa.cell? ⟨gb, 3, none⟩ = some (.slice A1 n1 k1) := hbx.cell 3
  have c4 : wa.cell? ⟨gb, 4, none⟩ = some (.slice A2 n2 k2) := hbx.cell 4
  have c5 : wa.cell? ⟨gb, 5, none⟩ = some (.slice A3 n3 k3) := hbx.cell 5
  have c6 : wa.cell? ⟨gb, 6, none⟩ = some (.slice A4 n4 k4) := hbx.cell 6
  have HA := Lib.hid hat
  have HW := Lib.hid hwl
  have HT := Lib.hid hta
  have HK := Lib.hid hka
  clear h ht hk hat hwl hta hka hbx
  generalize hP : wpt p = P at *
  have HP := Lib.hid hP
  clear hP
  go_enter Try.func19, Try.ntmps19
  go_wp2_with fail
  refine (any_any K _ fl wa HT.out.f).mono ?_
  rintro e w1 ⟨dv, mv, rfl, rd, rm, hb1⟩
  have HW0 : Hid (WL p v wa v w1) := Lib.hid (WL.below hb1)
  have HA1 := Lib.hid (HA.out.below hb1)
  have HW1 := Lib.hid (HW.out.trans HW0.out)
  have RD := Lib.hid (rd.of (HK.out.same HW0.out) fun _ _ h => h)
  have RM := Lib.hid (rm.of (HK.out.same HW0.out) fun _ _ h => h)
  have HK1 := Lib.hid (HK.out.wl HW0.out)
  clear hb1 rd rm
  go_wp2_with fail
  rw [← HP.out]
  refine (wfact_any p v S K dv mv (any fl) w1 HA1.out RD.out RM.out HK1.out).mono ?_
  rintro e w2 ⟨rfl, v2, h2, l2⟩
  go_wp2
  go_end0
  exact ⟨rfl, v2, h2, HW1.out.trans l2⟩
set_option maxRecDepth 100000 in
set_option maxHeartbeats 1000000 in
theorem lay_8 (p : Option Nat) (v : Value) (S : WS) (K : Nat → Prop) (n : Int) (s : List UInt8) (l : List (List UInt8)) (cl : List CellP) (fl : List FactP) (ml : List (List UInt8)) (lv cv fv mv : Value) (w : World) (h : WAt w p v S) (ht : ThingAt K w ⟨8, n, s, l, cl, fl, ml⟩ lv cv fv mv) (hk : Off p v w K) :
    Calls Try.prog 19 #[wpt p, .agg #[.int .i64 8, .int .i64 n, sv s, lv, cv, fv, mv]] w (WP p v w (S.facts fl)) := by
  obtain ⟨A1, n1, k1, rfl⟩ := ht.l.slice
  obtain ⟨A2, n2, k2, rfl⟩ := ht.c.slice
  obtain ⟨A3, n3, k3, rfl⟩ := ht.f.slice
  obtain ⟨A4, n4, k4, rfl⟩ := ht.m.slice
  obtain ⟨wa, hwa⟩ : ∃ wa, w.alloc (.cells #[.int .i64 8, .int .i64 n, sv s, .slice A1 n1 k1, .slice A2 n2 k2, .slice A3 n3 k3, .slice A4 n4 k4] 58) = wa := ⟨_, rfl⟩
  obtain ⟨gb, hgb⟩ : ∃ gb, w.heap.size = gb := ⟨_, rfl⟩
  have hbx : Blk wa gb 58 #[.int .i64 8, .int .i64 n, sv s, .slice A1 n1 k1, .slice A2 n2 k2, .slice A3 n3 k3, .slice A4 n4 k4] := by rw [← hwa, ← hgb]; exact Blk.new w 58 _
  have hat : WAt wa p v S := by rw [← hwa]; exact h.alloc _
  have hwl : WL p v w v wa := by rw [← hwa]; exact WL.alloc0 p v w _
  have hta := ht.of (hk.same hwl)
  have hka := hk.wl hwl
  have c0 : wa.cell? ⟨gb, 0, none⟩ = some (.int .i64 8) := hbx.cell 0
  have c1 : wa.cell? ⟨gb, 1, none⟩ = some (.int .i64 n) := hbx.cell 1
  have c2 : wa.cell? ⟨gb, 2, none⟩ = some (sv s) := hbx.cell 2
  have c3 : wa.cell? ⟨gb, 3, none⟩ = some (.slice A1 n1 k1) := hbx.cell 3
  have c4 : wa.cell? ⟨gb, 4, none⟩ = some (.slice A2 n2 k2) := hbx.cell 4
  have c5 : wa.cell? ⟨gb, 5, none⟩ = some (.slice A3 n3 k3) := hbx.cell 5
  have c6 : wa.cell? ⟨gb, 6, none⟩ = some (.slice A4 n4 k4) := hbx.cell 6
  have HA := Lib.hid hat
  have HW := Lib.hid hwl
  have HT := Lib.hid hta
  have HK := Lib.hid hka
  clear h ht hk hat hwl hta hka hbx
  generalize hP : wpt p = P at *
  have HP := Lib.hid hP
  clear hP
  go_enter Try.func19, Try.ntmps19
  go_wp2_with fail
  rw [← HP.out]
  refine (wfacts_any p v S K _ fl wa HA.out HT.out.f HK.out).mono ?_
  rintro e w2 ⟨rfl, v2, h2, l2⟩
  go_wp2
  go_end0
  exact ⟨rfl, v2, h2, HW.out.trans l2⟩
set_option maxRecDepth 100000 in
set_option maxHeartbeats 1000000 in
theorem lay_x (p : Option Nat) (v : Value) (S : WS) (K : Nat → Prop) (k n : Int) (s : List UInt8) (l : List (List UInt8)) (cl : List CellP) (fl : List FactP) (ml : List (List UInt8)) (lv cv fv mv : Value) (w : World) (h : WAt w p v S) (ht : ThingAt K w ⟨k, n, s, l, cl, fl, ml⟩ lv cv fv mv) (hk : Off p v w K) (hx : k < 0 ∨ 8 < k) :
    Calls Try.prog 19 #[wpt p, .agg #[.int .i64 k, .int .i64 n, sv s, lv, cv, fv, mv]] w (WP p v w (S.schema l ml)) := by
  obtain ⟨A1, n1, k1, rfl⟩ := ht.l.slice
  obtain ⟨A2, n2, k2, rfl⟩ := ht.c.slice
  obtain ⟨A3, n3, k3, rfl⟩ := ht.f.slice
  obtain ⟨A4, n4, k4, rfl⟩ := ht.m.slice
  obtain ⟨wa, hwa⟩ : ∃ wa, w.alloc (.cells #[.int .i64 k, .int .i64 n, sv s, .slice A1 n1 k1, .slice A2 n2 k2, .slice A3 n3 k3, .slice A4 n4 k4] 58) = wa := ⟨_, rfl⟩
  obtain ⟨gb, hgb⟩ : ∃ gb, w.heap.size = gb := ⟨_, rfl⟩
  have hbx : Blk wa gb 58 #[.int .i64 k, .int .i64 n, sv s, .slice A1 n1 k1, .slice A2 n2 k2, .slice A3 n3 k3, .slice A4 n4 k4] := by rw [← hwa, ← hgb]; exact Blk.new w 58 _
  have hat : WAt wa p v S := by rw [← hwa]; exact h.alloc _
  have hwl : WL p v w v wa := by rw [← hwa]; exact WL.alloc0 p v w _
  have hta := ht.of (hk.same hwl)
  have hka := hk.wl hwl
  have c0 : wa.cell? ⟨gb, 0, none⟩ = some (.int .i64 k) := hbx.cell 0
  have c1 : wa.cell? ⟨gb, 1, none⟩ = some (.int .i64 n) := hbx.cell 1
  have c2 : wa.cell? ⟨gb, 2, none⟩ = some (sv s) := hbx.cell 2
  have c3 : wa.cell? ⟨gb, 3, none⟩ = some (.slice A1 n1 k1) := hbx.cell 3
  have c4 : wa.cell? ⟨gb, 4, none⟩ = some (.slice A2 n2 k2) := hbx.cell 4
  have c5 : wa.cell? ⟨gb, 5, none⟩ = some (.slice A3 n3 k3) := hbx.cell 5
  have c6 : wa.cell? ⟨gb, 6, none⟩ = some (.slice A4 n4 k4) := hbx.cell 6
  have HA := Lib.hid hat
  have HW := Lib.hid hwl
  have HT := Lib.hid hta
  have HK := Lib.hid hka
  have e0 : (k == 0) = false := by rw [beq_eq_false_iff_ne]; omega
  have e1 : (k == 1) = false := by rw [beq_eq_false_iff_ne]; omega
  have e2 : (k == 2) = false := by rw [beq_eq_false_iff_ne]; omega
  have e3 : (k == 3) = false := by rw [beq_eq_false_iff_ne]; omega
  have e4 : (k == 4) = false := by rw [beq_eq_false_iff_ne]; omega
  have e5 : (k == 5) = false := by rw [beq_eq_false_iff_ne]; omega
  have e6 : (k == 6) = false := by rw [beq_eq_false_iff_ne]; omega
  have e7 : (k == 7) = false := by rw [beq_eq_false_iff_ne]; omega
  have e8 : (k == 8) = false := by rw [beq_eq_false_iff_ne]; omega
  clear hx
  clear h ht hk hat hwl hta hka hbx
  generalize hP : wpt p = P at *
  have HP := Lib.hid hP
  clear hP
  go_enter Try.func19, Try.ntmps19
  go_wp2_with fail
  rw [← HP.out]
  refine (wschema_any p v S K _ _ l ml wa HA.out HT.out.l HT.out.m HK.out).mono ?_
  rintro e w2 ⟨rfl, v2, h2, l2⟩
  go_wp2
  go_end0
  exact ⟨rfl, v2, h2, HW.out.trans l2⟩

theorem lay_any (p : Option Nat) (v : Value) (S : WS) (K : Nat → Prop) (t : ThingP) (lv cv fv mv : Value) (w : World) (h : WAt w p v S) (ht : ThingAt K w t lv cv fv mv) (hk : Off p v w K) :
    Calls Try.prog 19 #[wpt p, .agg (tcells t lv cv fv mv).toArray] w (WP p v w (S.thing t)) := by
  obtain ⟨k, n, s, l, cl, fl, ml⟩ := t
  by_cases h0 : k = 0
  · subst h0; exact lay_0 p v S K n s l cl fl ml lv cv fv mv w h ht hk
  by_cases h1 : k = 1
  · subst h1; exact lay_1 p v S K n s l cl fl ml lv cv fv mv w h ht hk
  by_cases h2 : k = 2
  · subst h2; exact lay_2 p v S K n s l cl fl ml lv cv fv mv w h ht hk
  by_cases h3 : k = 3
  · subst h3; exact lay_3 p v S K n s l cl fl ml lv cv fv mv w h ht hk
  by_cases h4 : k = 4
  · subst h4; exact lay_4 p v S K n s l cl fl ml lv cv fv mv w h ht hk
  by_cases h5 : k = 5
  · subst h5; exact lay_5 p v S K n s l cl fl ml lv cv fv mv w h ht hk
  by_cases h6 : k = 6
  · subst h6; exact lay_6 p v S K n s l cl fl ml lv cv fv mv w h ht hk
  by_cases h7 : k = 7
  · subst h7; exact lay_7 p v S K n s l cl fl ml lv cv fv mv w h ht hk
  by_cases h8 : k = 8
  · subst h8; exact lay_8 p v S K n s l cl fl ml lv cv fv mv w h ht hk
  have e : S.thing ⟨k, n, s, l, cl, fl, ml⟩ = S.schema l ml := by
    unfold WS.thing
    simp only [h0, h1, h2, h3, h4, h5, h6, h7, h8, if_false]
  rw [e]
  exact lay_x p v S K k n s l cl fl ml lv cv fv mv w h ht hk (by omega)
end Go.Proofs.Ytjhjcdfhfjeogaa
