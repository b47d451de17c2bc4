/- The document's bytes of a thing. -/
import Derived.Test.YtcncnponhhcjhaaK1
import Derived.Test.YtcncnponhhcjhaaJ1
import Derived.Test.YtcncnponhhcjhaaH3
namespace Go.Proofs.Ytcncnponhhcjhaa
open Go.RowKit Go.Maps Go.Sort
set_option linter.unusedVariables false

def okB (t : ThingP) : Bool := if t.kind = 2 then decide (0 ≤ t.n ∧ t.n ≤ 4294967295) else if t.kind = 5 then (one t.cells).may else if t.kind = 6 then t.cells.all CellP.may else true
theorem low_byte (n : Int) : low (n % 18446744073709551616).toNat 1 = low (n % 256).toNat 1 := by
  have h : (n % 18446744073709551616).toNat % 256 = (n % 256).toNat % 256 := by omega
  simp only [low, h]
set_option maxRecDepth 100000 in
set_option maxHeartbeats 4000000 in
theorem dbytes_0 (n : Int) (s : List UInt8) (l : List (List UInt8)) (cl : List CellP) (fl : List FactP) (ml : List (List UInt8)) (A1 A2 A3 A4 : Option Addr) (n1 k1 n2 k2 n3 k3 n4 k4 : Nat) (w : World) (ht : ThingAt (fun k => k < w.heap.size) w ⟨0, n, s, l, cl, fl, ml⟩ (.slice A1 n1 k1) (.slice A2 n2 k2) (.slice A3 n3 k3) (.slice A4 n4 k4)) :
    Calls Try.prog 20 #[.agg #[.int .i64 0, .int .i64 n, sv s, .slice A1 n1 k1, .slice A2 n2 k2, .slice A3 n3 k3, .slice A4 n4 k4]] w (Told2 (low (n % 256).toNat 1) (true) w) := by
  obtain ⟨wa, hwa⟩ : ∃ wa, w.alloc (.cells #[.int .i64 0, .int .i64 n, sv s, .slice A1 n1 k1, .slice A2 n2 k2, .slice A3 n3 k3, .slice A4 n4 k4] 58) = wa := ⟨_, rfl⟩
  obtain ⟨gb, hgb⟩ : ∃ gb, w.heap.size = gb := ⟨_, rfl⟩
  have hbx : Blk wa gb 58 #[.int .i64 0, .int .i64 n, sv s, .slice A1 n1 k1, .slice A2 n2 k2, .slice A3 n3 k3, .slice A4 n4 k4] := by rw [← hwa, ← hgb]; exact Blk.new w 58 _
  have hba : Below w.heap.size w wa := by rw [← hwa]; exact (Below.refl _ _).alloc (Nat.le_refl _) _
  have hta := (ht.of fun k hk => hba.block k hk).mono fun k hk => Nat.lt_of_lt_of_le hk hba.size
  have HX := Lib.hid hbx
  have HBA := Lib.hid hba
  have HT := Lib.hid hta
  have HWA := Lib.hid hwa
  have HGB := Lib.hid hgb
  unfold Told2
  have hk64 := u64_nat n
  have HL := Lib.hid (fun w => Num_any (n % 18446744073709551616).toNat 1 w (by omega) (by omega))
  unfold Low at HL
  rw [low_byte] at HL
  generalize low (n % 256).toNat 1 = T at *
  generalize (n % 18446744073709551616).toNat = tt at *
  clear hwa hgb hbx hba hta ht
  go_enter Try.func20, Try.ntmps20
  go_wp2_with fail
  refine (HL.out _).mono ?_
  rintro e w3 ⟨rfl, hb3⟩
  rw [HWA.out] at hb3
  have B3 := Lib.hid (HBA.out.trans (hb3.mono HBA.out.size))
  clear hb3
  go_wp2
  go_ret2
  exact ⟨rfl, B3.out⟩
set_option maxRecDepth 100000 in
set_option maxHeartbeats 4000000 in
theorem dbytes_1 (n : Int) (s : List UInt8) (l : List (List UInt8)) (cl : List CellP) (fl : List FactP) (ml : List (List UInt8)) (A1 A2 A3 A4 : Option Addr) (n1 k1 n2 k2 n3 k3 n4 k4 : Nat) (w : World) (ht : ThingAt (fun k => k < w.heap.size) w ⟨1, n, s, l, cl, fl, ml⟩ (.slice A1 n1 k1) (.slice A2 n2 k2) (.slice A3 n3 k3) (.slice A4 n4 k4)) :
    Calls Try.prog 20 #[.agg #[.int .i64 1, .int .i64 n, sv s, .slice A1 n1 k1, .slice A2 n2 k2, .slice A3 n3 k3, .slice A4 n4 k4]] w (Told2 (enc8 n) (true) w) := by
  obtain ⟨wa, hwa⟩ : ∃ wa, w.alloc (.cells #[.int .i64 1, .int .i64 n, sv s, .slice A1 n1 k1, .slice A2 n2 k2, .slice A3 n3 k3, .slice A4 n4 k4] 58) = wa := ⟨_, rfl⟩
  obtain ⟨gb, hgb⟩ : ∃ gb, w.heap.size = gb := ⟨_, rfl⟩
  have hbx : Blk wa gb 58 #[.int .i64 1, .int .i64 n, sv s, .slice A1 n1 k1, .slice A2 n2 k2, .slice A3 n3 k3, .slice A4 n4 k4] := by rw [← hwa, ← hgb]; exact Blk.new w 58 _
  have hba : Below w.heap.size w wa := by rw [← hwa]; exact (Below.refl _ _).alloc (Nat.le_refl _) _
  have hta := (ht.of fun k hk => hba.block k hk).mono fun k hk => Nat.lt_of_lt_of_le hk hba.size
  have HX := Lib.hid hbx
  have HBA := Lib.hid hba
  have HT := Lib.hid hta
  have HWA := Lib.hid hwa
  have HGB := Lib.hid hgb
  unfold Told2
  have hk64 := u64_nat n
  have HL := Lib.hid (fun w => Num_any (n % 18446744073709551616).toNat 8 w (by omega) (by omega))
  unfold Low at HL
  have he8 : low (n % 18446744073709551616).toNat 8 = enc8 n := rfl
  rw [he8] at HL
  clear he8
  generalize enc8 n = T at *
  generalize (n % 18446744073709551616).toNat = tt at *
  clear hwa hgb hbx hba hta ht
  go_enter Try.func20, Try.ntmps20
  go_wp2_with fail
  refine (HL.out _).mono ?_
  rintro e w3 ⟨rfl, hb3⟩
  rw [HWA.out] at hb3
  have B3 := Lib.hid (HBA.out.trans (hb3.mono HBA.out.size))
  clear hb3
  go_wp2
  go_ret2
  exact ⟨rfl, B3.out⟩
set_option maxRecDepth 100000 in
set_option maxHeartbeats 4000000 in
theorem dbytes_2 (n : Int) (s : List UInt8) (l : List (List UInt8)) (cl : List CellP) (fl : List FactP) (ml : List (List UInt8)) (A1 A2 A3 A4 : Option Addr) (n1 k1 n2 k2 n3 k3 n4 k4 : Nat) (w : World) (ht : ThingAt (fun k => k < w.heap.size) w ⟨2, n, s, l, cl, fl, ml⟩ (.slice A1 n1 k1) (.slice A2 n2 k2) (.slice A3 n3 k3) (.slice A4 n4 k4)) (h0 : 0 ≤ n) (h1 : n ≤ 4294967295) :
    Calls Try.prog 20 #[.agg #[.int .i64 2, .int .i64 n, sv s, .slice A1 n1 k1, .slice A2 n2 k2, .slice A3 n3 k3, .slice A4 n4 k4]] w (Told2 (low n.toNat 4) (true) w) := by
  obtain ⟨wa, hwa⟩ : ∃ wa, w.alloc (.cells #[.int .i64 2, .int .i64 n, sv s, .slice A1 n1 k1, .slice A2 n2 k2, .slice A3 n3 k3, .slice A4 n4 k4] 58) = wa := ⟨_, rfl⟩
  obtain ⟨gb, hgb⟩ : ∃ gb, w.heap.size = gb := ⟨_, rfl⟩
  have hbx : Blk wa gb 58 #[.int .i64 2, .int .i64 n, sv s, .slice A1 n1 k1, .slice A2 n2 k2, .slice A3 n3 k3, .slice A4 n4 k4] := by rw [← hwa, ← hgb]; exact Blk.new w 58 _
  have hba : Below w.heap.size w wa := by rw [← hwa]; exact (Below.refl _ _).alloc (Nat.le_refl _) _
  have hta := (ht.of fun k hk => hba.block k hk).mono fun k hk => Nat.lt_of_lt_of_le hk hba.size
  have HX := Lib.hid hbx
  have HBA := Lib.hid hba
  have HT := Lib.hid hta
  have HWA := Lib.hid hwa
  have HGB := Lib.hid hgb
  unfold Told2
  have hk64 := u64_nat n
  have hnn : (n % 18446744073709551616).toNat = n.toNat := by omega
  have HL := Lib.hid (fun w => Num_any n.toNat 4 w (by omega) (by omega))
  unfold Low at HL
  rw [hnn] at hk64
  clear hnn
  generalize low n.toNat 4 = T at *
  generalize n.toNat = tt at *
  clear hwa hgb hbx hba hta ht
  go_enter Try.func20, Try.ntmps20
  go_wp2_with fail
  refine (HL.out _).mono ?_
  rintro e w3 ⟨rfl, hb3⟩
  rw [HWA.out] at hb3
  have B3 := Lib.hid (HBA.out.trans (hb3.mono HBA.out.size))
  clear hb3
  go_wp2
  go_ret2
  exact ⟨rfl, B3.out⟩
set_option maxRecDepth 100000 in
set_option maxHeartbeats 4000000 in
theorem dbytes_2n (n : Int) (s : List UInt8) (l : List (List UInt8)) (cl : List CellP) (fl : List FactP) (ml : List (List UInt8)) (A1 A2 A3 A4 : Option Addr) (n1 k1 n2 k2 n3 k3 n4 k4 : Nat) (w : World) (ht : ThingAt (fun k => k < w.heap.size) w ⟨2, n, s, l, cl, fl, ml⟩ (.slice A1 n1 k1) (.slice A2 n2 k2) (.slice A3 n3 k3) (.slice A4 n4 k4)) (hx : ¬ (0 ≤ n ∧ n ≤ 4294967295)) :
    Calls Try.prog 20 #[.agg #[.int .i64 2, .int .i64 n, sv s, .slice A1 n1 k1, .slice A2 n2 k2, .slice A3 n3 k3, .slice A4 n4 k4]] w (Told2 (low n.toNat 4) (false) w) := by
  obtain ⟨wa, hwa⟩ : ∃ wa, w.alloc (.cells #[.int .i64 2, .int .i64 n, sv s, .slice A1 n1 k1, .slice A2 n2 k2, .slice A3 n3 k3, .slice A4 n4 k4] 58) = wa := ⟨_, rfl⟩
  obtain ⟨gb, hgb⟩ : ∃ gb, w.heap.size = gb := ⟨_, rfl⟩
  have hbx : Blk wa gb 58 #[.int .i64 2, .int .i64 n, sv s, .slice A1 n1 k1, .slice A2 n2 k2, .slice A3 n3 k3, .slice A4 n4 k4] := by rw [← hwa, ← hgb]; exact Blk.new w 58 _
  have hba : Below w.heap.size w wa := by rw [← hwa]; exact (Below.refl _ _).alloc (Nat.le_refl _) _
  have hta := (ht.of fun k hk => hba.block k hk).mono fun k hk => Nat.lt_of_lt_of_le hk hba.size
  have HX := Lib.hid hbx
  have HBA := Lib.hid hba
  have HT := Lib.hid hta
  have HWA := Lib.hid hwa
  have HGB := Lib.hid hgb
  unfold Told2
  clear hwa hgb hbx hba hta ht
  have hc : n < 0 ∨ (0 ≤ n ∧ 4294967295 < n) := by omega
  clear hx
  rcases hc with hc | ⟨hc, hd⟩
  all_goals
    go_enter Try.func20, Try.ntmps20
    go_wp2
    go_ret2
    exact ⟨rfl, by rw [HWA.out]; exact HBA.out⟩
set_option maxRecDepth 100000 in
set_option maxHeartbeats 4000000 in
theorem dbytes_3 (n : Int) (s : List UInt8) (l : List (List UInt8)) (cl : List CellP) (fl : List FactP) (ml : List (List UInt8)) (A1 A2 A3 A4 : Option Addr) (n1 k1 n2 k2 n3 k3 n4 k4 : Nat) (w : World) (ht : ThingAt (fun k => k < w.heap.size) w ⟨3, n, s, l, cl, fl, ml⟩ (.slice A1 n1 k1) (.slice A2 n2 k2) (.slice A3 n3 k3) (.slice A4 n4 k4)) (hb : (bText s).length ≤ 1152921504606846976) :
    Calls Try.prog 20 #[.agg #[.int .i64 3, .int .i64 n, sv s, .slice A1 n1 k1, .slice A2 n2 k2, .slice A3 n3 k3, .slice A4 n4 k4]] w (Told2 (bText s) (true) w) := by
  obtain ⟨wa, hwa⟩ : ∃ wa, w.alloc (.cells #[.int .i64 3, .int .i64 n, sv s, .slice A1 n1 k1, .slice A2 n2 k2, .slice A3 n3 k3, .slice A4 n4 k4] 58) = wa := ⟨_, rfl⟩
  obtain ⟨gb, hgb⟩ : ∃ gb, w.heap.size = gb := ⟨_, rfl⟩
  have hbx : Blk wa gb 58 #[.int .i64 3, .int .i64 n, sv s, .slice A1 n1 k1, .slice A2 n2 k2, .slice A3 n3 k3, .slice A4 n4 k4] := by rw [← hwa, ← hgb]; exact Blk.new w 58 _
  have hba : Below w.heap.size w wa := by rw [← hwa]; exact (Below.refl _ _).alloc (Nat.le_refl _) _
  have hta := (ht.of fun k hk => hba.block k hk).mono fun k hk => Nat.lt_of_lt_of_le hk hba.size
  have HX := Lib.hid hbx
  have HBA := Lib.hid hba
  have HT := Lib.hid hta
  have HWA := Lib.hid hwa
  have HGB := Lib.hid hgb
  unfold Told2
  have hsl : (bText s).length = 4 + s.length := by unfold bText; rw [List.length_append, low_len]
  have HL := Lib.hid (fun w => dtext_any s (by omega) w)
  clear hsl hb
  unfold Told at HL
  generalize bText s = T at *
  clear hwa hgb hbx hba hta ht
  go_enter Try.func20, Try.ntmps20
  go_wp2_with fail
  refine (HL.out _).mono ?_
  rintro e w3 ⟨rfl, hb3⟩
  rw [HWA.out] at hb3
  have B3 := Lib.hid (HBA.out.trans (hb3.mono HBA.out.size))
  clear hb3
  go_wp2
  go_ret2
  exact ⟨rfl, B3.out⟩
set_option maxRecDepth 100000 in
set_option maxHeartbeats 4000000 in
theorem dbytes_4 (n : Int) (s : List UInt8) (l : List (List UInt8)) (cl : List CellP) (fl : List FactP) (ml : List (List UInt8)) (A1 A2 A3 A4 : Option Addr) (n1 k1 n2 k2 n3 k3 n4 k4 : Nat) (w : World) (ht : ThingAt (fun k => k < w.heap.size) w ⟨4, n, s, l, cl, fl, ml⟩ (.slice A1 n1 k1) (.slice A2 n2 k2) (.slice A3 n3 k3) (.slice A4 n4 k4)) (hb : (bRow bText l).length ≤ 1152921504606846976) :
    Calls Try.prog 20 #[.agg #[.int .i64 4, .int .i64 n, sv s, .slice A1 n1 k1, .slice A2 n2 k2, .slice A3 n3 k3, .slice A4 n4 k4]] w (Told2 (bRow bText l) (true) w) := by
  obtain ⟨wa, hwa⟩ : ∃ wa, w.alloc (.cells #[.int .i64 4, .int .i64 n, sv s, .slice A1 n1 k1, .slice A2 n2 k2, .slice A3 n3 k3, .slice A4 n4 k4] 58) = wa := ⟨_, rfl⟩
  obtain ⟨gb, hgb⟩ : ∃ gb, w.heap.size = gb := ⟨_, rfl⟩
  have hbx : Blk wa gb 58 #[.int .i64 4, .int .i64 n, sv s, .slice A1 n1 k1, .slice A2 n2 k2, .slice A3 n3 k3, .slice A4 n4 k4] := by rw [← hwa, ← hgb]; exact Blk.new w 58 _
  have hba : Below w.heap.size w wa := by rw [← hwa]; exact (Below.refl _ _).alloc (Nat.le_refl _) _
  have hta := (ht.of fun k hk => hba.block k hk).mono fun k hk => Nat.lt_of_lt_of_le hk hba.size
  have HX := Lib.hid hbx
  have HBA := Lib.hid hba
  have HT := Lib.hid hta
  have HWA := Lib.hid hwa
  have HGB := Lib.hid hgb
  unfold Told2
  have HL := Lib.hid (dtexts_any _ l wa hta.l hb)
  unfold Told at HL
  generalize bRow bText l = T at *
  clear hwa hgb hbx hba hta ht
  go_enter Try.func20, Try.ntmps20
  go_wp2_with fail
  rw [HWA.out]
  refine HL.out.mono ?_
  rintro e w3 ⟨rfl, hb3⟩
  have B3 := Lib.hid (HBA.out.trans (hb3.mono HBA.out.size))
  clear hb3
  go_wp2
  go_ret2
  exact ⟨rfl, B3.out⟩
set_option maxRecDepth 100000 in
set_option maxHeartbeats 4000000 in
theorem dbytes_5 (n : Int) (s : List UInt8) (l : List (List UInt8)) (cl : List CellP) (fl : List FactP) (ml : List (List UInt8)) (A1 A2 A3 A4 : Option Addr) (n1 k1 n2 k2 n3 k3 n4 k4 : Nat) (w : World) (ht : ThingAt (fun k => k < w.heap.size) w ⟨5, n, s, l, cl, fl, ml⟩ (.slice A1 n1 k1) (.slice A2 n2 k2) (.slice A3 n3 k3) (.slice A4 n4 k4)) (hb : (bCell (one cl)).length ≤ 1152921504606846976) :
    Calls Try.prog 20 #[.agg #[.int .i64 5, .int .i64 n, sv s, .slice A1 n1 k1, .slice A2 n2 k2, .slice A3 n3 k3, .slice A4 n4 k4]] w (Told2 (bCell (one cl)) ((one cl).may) w) := by
  obtain ⟨wa, hwa⟩ : ∃ wa, w.alloc (.cells #[.int .i64 5, .int .i64 n, sv s, .slice A1 n1 k1, .slice A2 n2 k2, .slice A3 n3 k3, .slice A4 n4 k4] 58) = wa := ⟨_, rfl⟩
  obtain ⟨gb, hgb⟩ : ∃ gb, w.heap.size = gb := ⟨_, rfl⟩
  have hbx : Blk wa gb 58 #[.int .i64 5, .int .i64 n, sv s, .slice A1 n1 k1, .slice A2 n2 k2, .slice A3 n3 k3, .slice A4 n4 k4] := by rw [← hwa, ← hgb]; exact Blk.new w 58 _
  have hba : Below w.heap.size w wa := by rw [← hwa]; exact (Below.refl _ _).alloc (Nat.le_refl _) _
  have hta := (ht.of fun k hk => hba.block k hk).mono fun k hk => Nat.lt_of_lt_of_le hk hba.size
  have HX := Lib.hid hbx
  have HBA := Lib.hid hba
  have HT := Lib.hid hta
  have HWA := Lib.hid hwa
  have HGB := Lib.hid hgb
  unfold Told2
  have HC := Lib.hid (fun w => dcell_any (one cl) w fun h2 => by
    unfold bCell at hb
    rw [if_neg (by omega), if_pos h2, List.length_append] at hb
    unfold bText at hb
    rw [List.length_append] at hb
    omega)
  have HO := Lib.hid (one_any _ _ cl wa hta.c)
  unfold Told2 at HC
  clear hb
  unfold CellP.val at HC HO
  generalize ok2 (one cl).may (bCell (one cl)) = T at *
  generalize (one cl).may = m at *
  generalize (one cl).kind = ck at *
  generalize (one cl).int = ci at *
  generalize (one cl).text = ct at *
  clear hwa hgb hbx hba hta ht
  go_enter Try.func20, Try.ntmps20
  go_wp2_with fail
  rw [HWA.out]
  refine HO.out.mono ?_
  rintro e w3 ⟨rfl, hb3⟩
  have B3 := Lib.hid (HBA.out.trans (hb3.mono HBA.out.size))
  clear hb3
  go_wp2_with fail
  refine (HC.out _).mono ?_
  rintro e w4 ⟨rfl, hb4⟩
  have B4 := Lib.hid (B3.out.trans (hb4.mono B3.out.size))
  clear hb4
  go_wp2
  go_ret2
  exact ⟨rfl, B4.out⟩
set_option maxRecDepth 100000 in
set_option maxHeartbeats 4000000 in
theorem dbytes_7 (n : Int) (s : List UInt8) (l : List (List UInt8)) (cl : List CellP) (fl : List FactP) (ml : List (List UInt8)) (A1 A2 A3 A4 : Option Addr) (n1 k1 n2 k2 n3 k3 n4 k4 : Nat) (w : World) (ht : ThingAt (fun k => k < w.heap.size) w ⟨7, n, s, l, cl, fl, ml⟩ (.slice A1 n1 k1) (.slice A2 n2 k2) (.slice A3 n3 k3) (.slice A4 n4 k4)) (hb : (bFact (any fl)).length ≤ 1152921504606846976) :
    Calls Try.prog 20 #[.agg #[.int .i64 7, .int .i64 n, sv s, .slice A1 n1 k1, .slice A2 n2 k2, .slice A3 n3 k3, .slice A4 n4 k4]] w (Told2 (bFact (any fl)) (true) w) := by
  obtain ⟨wa, hwa⟩ : ∃ wa, w.alloc (.cells #[.int .i64 7, .int .i64 n, sv s, .slice A1 n1 k1, .slice A2 n2 k2, .slice A3 n3 k3, .slice A4 n4 k4] 58) = wa := ⟨_, rfl⟩
  obtain ⟨gb, hgb⟩ : ∃ gb, w.heap.size = gb := ⟨_, rfl⟩
  have hbx : Blk wa gb 58 #[.int .i64 7, .int .i64 n, sv s, .slice A1 n1 k1, .slice A2 n2 k2, .slice A3 n3 k3, .slice A4 n4 k4] := by rw [← hwa, ← hgb]; exact Blk.new w 58 _
  have hba : Below w.heap.size w wa := by rw [← hwa]; exact (Below.refl _ _).alloc (Nat.le_refl _) _
  have hta := (ht.of fun k hk => hba.block k hk).mono fun k hk => Nat.lt_of_lt_of_le hk hba.size
  have HX := Lib.hid hbx
  have HBA := Lib.hid hba
  have HT := Lib.hid hta
  have HWA := Lib.hid hwa
  have HGB := Lib.hid hgb
  unfold Told2
  have HO := Lib.hid (any_any _ _ fl wa hta.f)
  have HBF := Lib.hid hb
  obtain ⟨T, hT⟩ : ∃ T, bFact (any fl) = T := ⟨_, rfl⟩
  rw [hT]
  have HTT := Lib.hid hT
  clear hb hT
  clear hwa hgb hbx hba hta ht
  go_enter Try.func20, Try.ntmps20
  go_wp2_with fail
  rw [HWA.out]
  refine HO.out.mono ?_
  rintro e w3 ⟨dv, mv, rfl, rd, rm, hb3⟩
  have HL := Lib.hid (dfact_any dv mv (any fl) w3 ((rd.of (fun k hk => hb3.block k hk) fun _ _ h => h).mono fun k hk => Nat.lt_of_lt_of_le hk hb3.size) ((rm.of (fun k hk => hb3.block k hk) fun _ _ h => h).mono fun k hk => Nat.lt_of_lt_of_le hk hb3.size) HBF.out)
  have B3 := Lib.hid (HBA.out.trans (hb3.mono HBA.out.size))
  rw [HTT.out] at HL
  unfold Told at HL
  clear hb3 rd rm HO
  go_wp2_with fail
  refine HL.out.mono ?_
  rintro e w4 ⟨rfl, hb4⟩
  have B4 := Lib.hid (B3.out.trans (hb4.mono B3.out.size))
  clear hb4
  go_wp2
  go_ret2
  exact ⟨rfl, B4.out⟩
set_option maxRecDepth 100000 in
set_option maxHeartbeats 4000000 in
theorem dbytes_6 (n : Int) (s : List UInt8) (l : List (List UInt8)) (cl : List CellP) (fl : List FactP) (ml : List (List UInt8)) (A1 A2 A3 A4 : Option Addr) (n1 k1 n2 k2 n3 k3 n4 k4 : Nat) (w : World) (ht : ThingAt (fun k => k < w.heap.size) w ⟨6, n, s, l, cl, fl, ml⟩ (.slice A1 n1 k1) (.slice A2 n2 k2) (.slice A3 n3 k3) (.slice A4 n4 k4)) (hb : (bRow bCell cl).length ≤ 1152921504606846976) :
    Calls Try.prog 20 #[.agg #[.int .i64 6, .int .i64 n, sv s, .slice A1 n1 k1, .slice A2 n2 k2, .slice A3 n3 k3, .slice A4 n4 k4]] w (Told2 (bRow bCell cl) (cl.all CellP.may) w) := by
  obtain ⟨wa, hwa⟩ : ∃ wa, w.alloc (.cells #[.int .i64 6, .int .i64 n, sv s, .slice A1 n1 k1, .slice A2 n2 k2, .slice A3 n3 k3, .slice A4 n4 k4] 58) = wa := ⟨_, rfl⟩
  obtain ⟨gb, hgb⟩ : ∃ gb, w.heap.size = gb := ⟨_, rfl⟩
  have hbx : Blk wa gb 58 #[.int .i64 6, .int .i64 n, sv s, .slice A1 n1 k1, .slice A2 n2 k2, .slice A3 n3 k3, .slice A4 n4 k4] := by rw [← hwa, ← hgb]; exact Blk.new w 58 _
  have hba : Below w.heap.size w wa := by rw [← hwa]; exact (Below.refl _ _).alloc (Nat.le_refl _) _
  have hta := (ht.of fun k hk => hba.block k hk).mono fun k hk => Nat.lt_of_lt_of_le hk hba.size
  have HX := Lib.hid hbx
  have HBA := Lib.hid hba
  have HT := Lib.hid hta
  have HWA := Lib.hid hwa
  have HGB := Lib.hid hgb
  unfold Told2
  obtain ⟨bb, hbb⟩ : ∃ bb, cl.all CellP.may = bb := ⟨_, rfl⟩
  have HALL := Lib.hid hbb
  obtain ⟨n0, hn0, hm0⟩ : ∃ n0, cl.length = n0 ∧ n0 ≤ 9223372036854775807 := ⟨_, rfl, by have := hta.c.len_; obtain ⟨_, _, _, h⟩ := this; unfold maxLen at h; exact h⟩
  obtain rfl : n2 = n0 := by
    obtain ⟨A', c', e, _⟩ := hta.c.len_
    injection e with e1 e2 e3
    rw [e2]; exact hn0
  have HN := Lib.hid hn0
  have HC := Lib.hid (fun w => dcount_any n2 (by omega) w)
  unfold Told at HC
  have HFL := Lib.hid (row_bound bCell cl)
  have HBD := Lib.hid hb
  rw [hbb]
  clear hbb hn0 hb
  clear hwa hgb hbx hba hta ht
  go_enter Try.func20, Try.ntmps20
  go_wp2_with fail
  rw [HWA.out, HGB.out]
  refine (HC.out _).mono ?_
  rintro e w1 ⟨rfl, hb1⟩
  have B1 := Lib.hid (HBA.out.trans (hb1.mono HBA.out.size))
  have BA1 := Lib.hid hb1
  clear hb1
  have hx1 := HX.out.of (BA1.out.block gb HX.out.lt)
  have X1 := Lib.hid hx1
  clear hx1
  go_wp2
  go_loopw [4, 5] (fun x i wr => ∃ j : Nat, ∃ X, j ≤ n2 ∧ i = .int .i64 j ∧ x = sv X ∧ X = low n2 4 ++ (cl.take j).flatMap bCell ∧ (cl.take j).all CellP.may = true ∧ Below wa.heap.size wa wr) (fun _ i _ => n2 - (intOf i).toNat)
  case atStart => exact ⟨0, _, by omega, rfl, rfl, by simp, by simp, BA1.out⟩
  case round =>
    obtain ⟨j, X, hj, rfl, rfl, hX, hal, hbw⟩ := hrel
    have HXX := Lib.hid hX
    have HAL := Lib.hid hal
    have HBW := Lib.hid hbw
    have hblk := HX.out.of (hbw.block gb HX.out.lt)
    have d4 : wr.cell? ⟨gb, 4, none⟩ = some (.slice A2 n2 k2) := hblk.cell 4
    clear hX hal hbw hblk
    by_cases hlt : j < n2
    · have hjl : j < cl.length := by rw [HN.out]; exact hlt
      obtain ⟨g, off, cs, rfl, hg, ⟨rfl, _⟩, _, hc⟩ := RowE.at_ HN.out HT.out.c j hjl
      have hgw := HBW.out.block g hg
      have a0 : wr.cell? ⟨g, off + j * 3, none⟩ = some (.int .i64 cl[j].kind) := by simpa using hc wr hgw 0 (by omega)
      have a1 : wr.cell? ⟨g, off + j * 3 + 1, none⟩ = some (.int .i64 cl[j].int) := by simpa using hc wr hgw 1 (by omega)
      have a2 : wr.cell? ⟨g, off + j * 3 + 2, none⟩ = some (sv cl[j].text) := by simpa using hc wr hgw 2 (by omega)
      have h1 := flat_pre bCell cl j
      have h2 := flat_one bCell cl j hjl
      have h3 := HFL.out
      have h4 := HBD.out
      have hxl : X.length ≤ 1152921504606846980 := by rw [HXX.out, List.length_append, low_len]; omega
      have hcat : ∀ w0, (Op.stringOp .add ⟨X.toArray⟩ ⟨(bCell cl[j]).toArray⟩).run Try.prog w0 = .ok (.string ⟨(X ++ bCell cl[j]).toArray⟩) w0 := fun w0 => run_cat _ _ (by omega) w0
      have HD := dcell_any cl[j] wr fun e2 => by
        have h5 : (bCell cl[j]).length ≤ 1152921504606846976 := by omega
        unfold bCell at h5
        rw [if_neg (by omega), if_pos e2, List.length_append] at h5
        unfold bText at h5
        rw [List.length_append] at h5
        omega
      have HQ : Hid (X ++ bCell cl[j] = low n2 4 ++ (cl.take (j + 1)).flatMap bCell) := Lib.hid (by rw [flat_snoc bCell cl j hjl, HXX.out, List.append_assoc])
      have HA2 : Hid ((cl.take (j + 1)).all CellP.may = cl[j].may) := Lib.hid (by rw [List.take_succ_eq_append_getElem hjl, List.all_append, HAL.out]; simp)
      have HMEM : Hid (cl[j].may = false → bb = false) := Lib.hid fun hf => by
        rw [← HALL.out, List.all_eq_false]
        exact ⟨_, List.getElem_mem hjl, by rw [hf]; simp⟩
      unfold Told2 CellP.val at HD
      have hi0 : (0 : Int) ≤ (j : Int) := by omega
      have hi1 : (j : Int) < (n2 : Int) := by omega
      clear h1 h2 h3 h4 hxl hc hgw
      cases hm : cl[j].may with
      | false =>
        obtain rfl := HMEM.out hm
        rw [hm] at HD
        have HD := Lib.hid HD
        clear hm HQ HA2 HMEM hcat
        generalize ok2 false (bCell cl[j]) = Z at *
        generalize cl[j].kind = ck at *
        generalize cl[j].int = ci at *
        generalize cl[j].text = ct at *
        go_wp2_with fail
        refine HD.out.mono ?_
        rintro e w4 ⟨rfl, hb4⟩
        have B4 := Lib.hid (HBA.out.trans ((HBW.out.trans (hb4.mono HBW.out.size)).mono HBA.out.size))
        clear hb4
        go_wp2
        go_ret2
        exact ⟨rfl, B4.out⟩
      | true =>
        rw [hm] at HD HA2
        simp only [ok2, if_true] at HD
        have HD := Lib.hid HD
        clear hm HMEM
        generalize bCell cl[j] = Z at *
        generalize cl[j].kind = ck at *
        generalize cl[j].int = ci at *
        generalize cl[j].text = ct at *
        generalize X ++ Z = Y at *
        go_wp2_with fail
        refine HD.out.mono ?_
        rintro e w4 ⟨rfl, hb4⟩
        have B4 := Lib.hid (HBW.out.trans (hb4.mono HBW.out.size))
        clear hb4
        go_wp2
        go_roundw
        case rel => exact ⟨j + 1, Y, by omega, by go_num, rfl, HQ.out, HA2.out, B4.out⟩
        case measure => simp [intOf]; omega
    · obtain rfl : j = n2 := by omega
      have HBT : bb = true := by rw [← HALL.out, ← HAL.out, ← HN.out, List.take_length]
      subst HBT
      go_wp2
      go_ret2
      exact ⟨by rw [HXX.out, ← HN.out, List.take_length]; rfl, HBA.out.trans (HBW.out.mono HBA.out.size)⟩
set_option maxRecDepth 100000 in
set_option maxHeartbeats 4000000 in
theorem dbytes_8 (n : Int) (s : List UInt8) (l : List (List UInt8)) (cl : List CellP) (fl : List FactP) (ml : List (List UInt8)) (A1 A2 A3 A4 : Option Addr) (n1 k1 n2 k2 n3 k3 n4 k4 : Nat) (w : World) (ht : ThingAt (fun k => k < w.heap.size) w ⟨8, n, s, l, cl, fl, ml⟩ (.slice A1 n1 k1) (.slice A2 n2 k2) (.slice A3 n3 k3) (.slice A4 n4 k4)) (hb : (bRow bFact fl).length ≤ 1152921504606846976) :
    Calls Try.prog 20 #[.agg #[.int .i64 8, .int .i64 n, sv s, .slice A1 n1 k1, .slice A2 n2 k2, .slice A3 n3 k3, .slice A4 n4 k4]] w (Told2 (bRow bFact fl) (true) w) := by
  obtain ⟨wa, hwa⟩ : ∃ wa, w.alloc (.cells #[.int .i64 8, .int .i64 n, sv s, .slice A1 n1 k1, .slice A2 n2 k2, .slice A3 n3 k3, .slice A4 n4 k4] 58) = wa := ⟨_, rfl⟩
  obtain ⟨gb, hgb⟩ : ∃ gb, w.heap.size = gb := ⟨_, rfl⟩
  have hbx : Blk wa gb 58 #[.int .i64 8, .int .i64 n, sv s, .slice A1 n1 k1, .slice A2 n2 k2, .slice A3 n3 k3, .slice A4 n4 k4] := by rw [← hwa, ← hgb]; exact Blk.new w 58 _
  have hba : Below w.heap.size w wa := by rw [← hwa]; exact (Below.refl _ _).alloc (Nat.le_refl _) _
  have hta := (ht.of fun k hk => hba.block k hk).mono fun k hk => Nat.lt_of_lt_of_le hk hba.size
  have HX := Lib.hid hbx
  have HBA := Lib.hid hba
  have HT := Lib.hid hta
  have HWA := Lib.hid hwa
  have HGB := Lib.hid hgb
  unfold Told2
  obtain ⟨n0, hn0, hm0⟩ : ∃ n0, fl.length = n0 ∧ n0 ≤ 9223372036854775807 := ⟨_, rfl, by have := hta.f.len_; obtain ⟨_, _, _, h⟩ := this; unfold maxLen at h; exact h⟩
  obtain rfl : n3 = n0 := by
    obtain ⟨A', c', e, _⟩ := hta.f.len_
    injection e with e1 e2 e3
    rw [e2]; exact hn0
  have HN := Lib.hid hn0
  have HC := Lib.hid (fun w => dcount_any n3 (by omega) w)
  unfold Told at HC
  have HFL := Lib.hid (row_bound bFact fl)
  have HBD := Lib.hid hb
  clear hn0 hb
  clear hwa hgb hbx hba hta ht
  go_enter Try.func20, Try.ntmps20
  go_wp2_with fail
  rw [HWA.out, HGB.out]
  refine (HC.out _).mono ?_
  rintro e w1 ⟨rfl, hb1⟩
  have BA1 := Lib.hid hb1
  clear hb1
  have hx1 := HX.out.of (BA1.out.block gb HX.out.lt)
  have X1 := Lib.hid hx1
  clear hx1
  go_wp2
  go_loopw [8, 9] (fun x i wr => ∃ j : Nat, ∃ X, j ≤ n3 ∧ i = .int .i64 j ∧ x = sv X ∧ X = low n3 4 ++ (fl.take j).flatMap bFact ∧ Below wa.heap.size wa wr) (fun _ i _ => n3 - (intOf i).toNat)
  case atStart => exact ⟨0, _, by omega, rfl, rfl, by simp, BA1.out⟩
  case round =>
    obtain ⟨j, X, hj, rfl, rfl, hX, hbw⟩ := hrel
    have HXX := Lib.hid hX
    have HBW := Lib.hid hbw
    have hblk := HX.out.of (hbw.block gb HX.out.lt)
    have d4 : wr.cell? ⟨gb, 5, none⟩ = some (.slice A3 n3 k3) := hblk.cell 5
    clear hX hbw hblk
    by_cases hlt : j < n3
    · have hjl : j < fl.length := by rw [HN.out]; exact hlt
      obtain ⟨g, off, cs, rfl, hg, ⟨dv, mv, rfl, rd, rm⟩, _, hc⟩ := RowE.at_ HN.out HT.out.f j hjl
      have hgw := HBW.out.block g hg
      have rd' := (rd.of (fun k hk => HBW.out.block k hk) fun _ _ h => h).up HBW.out.size
      have rm' := (rm.of (fun k hk => HBW.out.block k hk) fun _ _ h => h).up HBW.out.size
      obtain ⟨U1, u1, v1, rfl⟩ := rd.slice
      obtain ⟨U2, u2, v2, rfl⟩ := rm.slice
      have a0 : wr.cell? ⟨g, off + j * 2, none⟩ = some (.slice U1 u1 v1) := by simpa using hc wr hgw 0 (by omega)
      have a1 : wr.cell? ⟨g, off + j * 2 + 1, none⟩ = some (.slice U2 u2 v2) := by simpa using hc wr hgw 1 (by omega)
      have h1 := flat_pre bFact fl j
      have h2 := flat_one bFact fl j hjl
      have h3 := HFL.out
      have h4 := HBD.out
      have hxl : X.length ≤ 1152921504606846980 := by rw [HXX.out, List.length_append, low_len]; omega
      have hcat : ∀ w0, (Op.stringOp .add ⟨X.toArray⟩ ⟨(bFact fl[j]).toArray⟩).run Try.prog w0 = .ok (.string ⟨(X ++ bFact fl[j]).toArray⟩) w0 := fun w0 => run_cat _ _ (by omega) w0
      have HD := Lib.hid (dfact_any _ _ fl[j] wr rd' rm' (by omega))
      have HQ : Hid (X ++ bFact fl[j] = low n3 4 ++ (fl.take (j + 1)).flatMap bFact) := Lib.hid (by rw [flat_snoc bFact fl j hjl, HXX.out, List.append_assoc])
      unfold Told at HD
      have hi0 : (0 : Int) ≤ (j : Int) := by omega
      have hi1 : (j : Int) < (n3 : Int) := by omega
      generalize bFact fl[j] = Z at *
      generalize X ++ Z = Y at *
      clear h1 h2 h3 h4 hxl hc hgw rd rm rd' rm'
      go_wp2_with fail
      refine HD.out.mono ?_
      rintro e w4 ⟨rfl, hb4⟩
      have B4 := Lib.hid (HBW.out.trans (hb4.mono HBW.out.size))
      clear hb4
      go_wp2
      go_roundw
      case rel => exact ⟨j + 1, Y, by omega, by go_num, rfl, HQ.out, B4.out⟩
      case measure => simp [intOf]; omega
    · obtain rfl : j = n3 := by omega
      go_wp2
      go_ret2
      exact ⟨by rw [HXX.out, ← HN.out, List.take_length]; rfl, HBA.out.trans (HBW.out.mono HBA.out.size)⟩
set_option maxRecDepth 100000 in
set_option maxHeartbeats 4000000 in
theorem dbytes_x (k n : Int) (s : List UInt8) (l : List (List UInt8)) (cl : List CellP) (fl : List FactP) (ml : List (List UInt8)) (A1 A2 A3 A4 : Option Addr) (n1 k1 n2 k2 n3 k3 n4 k4 : Nat) (w : World) (ht : ThingAt (fun k => k < w.heap.size) w ⟨k, n, s, l, cl, fl, ml⟩ (.slice A1 n1 k1) (.slice A2 n2 k2) (.slice A3 n3 k3) (.slice A4 n4 k4)) (hx : k < 0 ∨ 8 < k) (hb : (bRow bText l ++ bRow bText ml).length ≤ 1152921504606846976) :
    Calls Try.prog 20 #[.agg #[.int .i64 k, .int .i64 n, sv s, .slice A1 n1 k1, .slice A2 n2 k2, .slice A3 n3 k3, .slice A4 n4 k4]] w (Told2 (bRow bText l ++ bRow bText ml) (true) w) := by
  obtain ⟨wa, hwa⟩ : ∃ wa, w.alloc (.cells #[.int .i64 k, .int .i64 n, sv s, .slice A1 n1 k1, .slice A2 n2 k2, .slice A3 n3 k3, .slice A4 n4 k4] 58) = wa := ⟨_, rfl⟩
  obtain ⟨gb, hgb⟩ : ∃ gb, w.heap.size = gb := ⟨_, rfl⟩
  have hbx : Blk wa gb 58 #[.int .i64 k, .int .i64 n, sv s, .slice A1 n1 k1, .slice A2 n2 k2, .slice A3 n3 k3, .slice A4 n4 k4] := by rw [← hwa, ← hgb]; exact Blk.new w 58 _
  have hba : Below w.heap.size w wa := by rw [← hwa]; exact (Below.refl _ _).alloc (Nat.le_refl _) _
  have hta := (ht.of fun k hk => hba.block k hk).mono fun k hk => Nat.lt_of_lt_of_le hk hba.size
  have HX := Lib.hid hbx
  have HBA := Lib.hid hba
  have HT := Lib.hid hta
  have HWA := Lib.hid hwa
  have HGB := Lib.hid hgb
  unfold Told2
  have e00 : (k == 0) = false := by rw [beq_eq_false_iff_ne]; omega
  have e10 : (k == 1) = false := by rw [beq_eq_false_iff_ne]; omega
  have e20 : (k == 2) = false := by rw [beq_eq_false_iff_ne]; omega
  have e30 : (k == 3) = false := by rw [beq_eq_false_iff_ne]; omega
  have e40 : (k == 4) = false := by rw [beq_eq_false_iff_ne]; omega
  have e50 : (k == 5) = false := by rw [beq_eq_false_iff_ne]; omega
  have e60 : (k == 6) = false := by rw [beq_eq_false_iff_ne]; omega
  have e70 : (k == 7) = false := by rw [beq_eq_false_iff_ne]; omega
  have e80 : (k == 8) = false := by rw [beq_eq_false_iff_ne]; omega
  clear hx
  rw [List.length_append] at hb
  have K1 : Hid (∀ dd os, Calls Try.prog 54 #[.slice A1 n1 k1] (grow (redrawn wa dd) os) fun e w'' => e = .returned (sv (bRow bText l)) ∧ ∃ p : Regrown, w'' = grow (redrawn wa p.d) p.os) := Lib.hid fun dd os => Calls.regrown_of (dtexts_any _ _ _ ((hta.l.regrown (Nat.le_refl _) dd os).up (below_regrown wa dd os).size) (by omega))
  have K2 : Hid (∀ dd os, Calls Try.prog 54 #[.slice A4 n4 k4] (grow (redrawn wa dd) os) fun e w'' => e = .returned (sv (bRow bText ml)) ∧ ∃ p : Regrown, w'' = grow (redrawn wa p.d) p.os) := Lib.hid fun dd os => Calls.regrown_of (dtexts_any _ _ _ ((hta.m.regrown (Nat.le_refl _) dd os).up (below_regrown wa dd os).size) (by omega))
  have z3 : ∀ dd os, (grow (redrawn wa dd) os).cell? ⟨gb, 3, none⟩ = some (.slice A1 n1 k1) := fun dd os => cell_regrown (hbx.cell 3) dd os
  have z6 : ∀ dd os, (grow (redrawn wa dd) os).cell? ⟨gb, 6, none⟩ = some (.slice A4 n4 k4) := fun dd os => cell_regrown (hbx.cell 6) dd os
  have hcat : ∀ w0, (Op.stringOp .add ⟨(bRow bText l).toArray⟩ ⟨(bRow bText ml).toArray⟩).run Try.prog w0 = .ok (.string ⟨(bRow bText l ++ bRow bText ml).toArray⟩) w0 := fun w0 => run_cat _ _ (by omega) w0
  clear hb
  generalize bRow bText l ++ bRow bText ml = Y at *
  generalize bRow bText l = Y1 at *
  generalize bRow bText ml = Y2 at *
  clear hwa hgb hbx hba hta ht
  go_enter Try.func20, Try.ntmps20
  go_upto_region 35 with fail
  rw [HWA.out, HGB.out]
  refine wp_region_quiet_below mixed (by kernel_rfl) ?_
  repeat (first | go_big_quiet_step (first | (with_reducible exact K1.out _ _) | (with_reducible exact K2.out _ _)) | quiet_step (first | (with_reducible exact K1.out _ _) | (with_reducible exact K2.out _ _)))
  refine wpQuiet_nil ?_
  intro wx hp
  have hbw : Below wa.heap.size wa wx := by obtain ⟨p, rfl⟩ := hp; exact below_regrown _ _ _
  have BW := Lib.hid (HBA.out.trans (hbw.mono HBA.out.size))
  clear hbw hp
  go_wp2
  go_ret2
  exact ⟨rfl, BW.out⟩

theorem dbytes_any (t : ThingP) (lv cv fv mv : Value) (w : World) (ht : ThingAt (fun k => k < w.heap.size) w t lv cv fv mv) (hb : (bThing t).length ≤ 1152921504606846976) :
    Calls Try.prog 20 #[.agg (tcells t lv cv fv mv).toArray] w (Told2 (bThing t) (okB t) w) := by
  obtain ⟨A1, n1, k1, rfl⟩ := ht.l.slice
  obtain ⟨A2, n2, k2, rfl⟩ := ht.c.slice
  obtain ⟨A3, n3, k3, rfl⟩ := ht.f.slice
  obtain ⟨A4, n4, k4, rfl⟩ := ht.m.slice
  obtain ⟨k, n, s, l, cl, fl, ml⟩ := t
  have hb0 := hb
  unfold bThing at hb0 ⊢
  unfold okB
  simp only at hb0 ⊢
  by_cases h0 : k = 0
  · subst h0
    simp only [Int.reduceEq, if_true, if_false] at hb0 ⊢
    exact dbytes_0 n s l cl fl ml A1 A2 A3 A4 n1 k1 n2 k2 n3 k3 n4 k4 w ht
  by_cases h1 : k = 1
  · subst h1
    simp only [Int.reduceEq, if_true, if_false] at hb0 ⊢
    exact dbytes_1 n s l cl fl ml A1 A2 A3 A4 n1 k1 n2 k2 n3 k3 n4 k4 w ht
  by_cases h2 : k = 2
  · subst h2
    simp only [Int.reduceEq, if_true, if_false] at hb0 ⊢
    by_cases hx : 0 ≤ n ∧ n ≤ 4294967295
    · rw [decide_eq_true hx]
      exact dbytes_2 n s l cl fl ml A1 A2 A3 A4 n1 k1 n2 k2 n3 k3 n4 k4 w ht hx.1 hx.2
    · rw [decide_eq_false hx]
      exact dbytes_2n n s l cl fl ml A1 A2 A3 A4 n1 k1 n2 k2 n3 k3 n4 k4 w ht hx
  by_cases h3 : k = 3
  · subst h3
    simp only [Int.reduceEq, if_true, if_false] at hb0 ⊢
    exact dbytes_3 n s l cl fl ml A1 A2 A3 A4 n1 k1 n2 k2 n3 k3 n4 k4 w ht hb0
  by_cases h4 : k = 4
  · subst h4
    simp only [Int.reduceEq, if_true, if_false] at hb0 ⊢
    exact dbytes_4 n s l cl fl ml A1 A2 A3 A4 n1 k1 n2 k2 n3 k3 n4 k4 w ht hb0
  by_cases h5 : k = 5
  · subst h5
    simp only [Int.reduceEq, if_true, if_false] at hb0 ⊢
    exact dbytes_5 n s l cl fl ml A1 A2 A3 A4 n1 k1 n2 k2 n3 k3 n4 k4 w ht hb0
  by_cases h6 : k = 6
  · subst h6
    simp only [Int.reduceEq, if_true, if_false] at hb0 ⊢
    exact dbytes_6 n s l cl fl ml A1 A2 A3 A4 n1 k1 n2 k2 n3 k3 n4 k4 w ht hb0
  by_cases h7 : k = 7
  · subst h7
    simp only [Int.reduceEq, if_true, if_false] at hb0 ⊢
    exact dbytes_7 n s l cl fl ml A1 A2 A3 A4 n1 k1 n2 k2 n3 k3 n4 k4 w ht hb0
  by_cases h8 : k = 8
  · subst h8
    simp only [Int.reduceEq, if_true, if_false] at hb0 ⊢
    exact dbytes_8 n s l cl fl ml A1 A2 A3 A4 n1 k1 n2 k2 n3 k3 n4 k4 w ht hb0
  simp only [h0, h1, h2, h3, h4, h5, h6, h7, h8, if_false] at hb0 ⊢
  exact dbytes_x k n s l cl fl ml A1 A2 A3 A4 n1 k1 n2 k2 n3 k3 n4 k4 w ht (by omega) hb0
end Go.Proofs.Ytcncnponhhcjhaa
