/- sync.Once, and the landed check. -/
import Derived.Test.YtpeafckomahjgaaGreatDoorKA4
namespace Go.Proofs.YtpeafckomahjgaaGreatDoor
open Go.RowKit Go.Maps
set_option linter.unusedVariables false

/-! ### the parts of sync.Once -/
theorem disable (w : World) : (callFunc 221 #[]).run Tryz.prog w = .ok (.value (.tuple #[])) w := run_call_mark0 Tryz.func221 (by kernel_rfl) (by kernel_rfl) (by kernel_rfl) .disable (by kernel_rfl) w
theorem enable (w : World) : (callFunc 223 #[]).run Tryz.prog w = .ok (.value (.tuple #[])) w := run_call_mark0 Tryz.func223 (by kernel_rfl) (by kernel_rfl) (by kernel_rfl) .enable (by kernel_rfl) w
theorem acquire (a : Addr) (w : World) : (callFunc 224 #[.pointer (some a)]).run Tryz.prog w = .ok (.value (.tuple #[])) w := run_call_marked Tryz.func224 (by kernel_rfl) (by kernel_rfl) (by kernel_rfl) .acquire (by kernel_rfl) a w
theorem releaseMerge (a : Addr) (w : World) : (callFunc 226 #[.pointer (some a)]).run Tryz.prog w = .ok (.value (.tuple #[])) w := run_call_marked Tryz.func226 (by kernel_rfl) (by kernel_rfl) (by kernel_rfl) .releaseMerge (by kernel_rfl) a w

theorem store_deferred (a : Addr) (x : Value) (u : FrameMode) (w : World) (hc : w.cell? a = some x) (hz : w.frozen? a = false) :
    CallsD Tryz.prog 211 #[.pointer (some a), .bool true] u w fun e u' w' => u' = u ∧ (e = .returned (.tuple #[]) ∧ w' = w.drew.setCell a (.int .u32 1)) := by
  have hc' : w.drew.cell? a = some x := by go_simp
  have hz' : w.drew.frozen? a = false := by go_simp
  have hst := run_call_store (P := Tryz.prog) Tryz.func219 (by kernel_rfl) (by kernel_rfl) (by kernel_rfl) (by kernel_rfl) (k := .u32) (y := 1) hc' hz'
  go_enter_d Tryz.func211, Tryz.ntmps211
  go_wp2
  go_region_calls
  all_goals (go_end0; exact ⟨rfl, rfl⟩)

set_option maxRecDepth 100000 in
set_option maxHeartbeats 1600000 in
theorem unlock_in (a : Addr) (w : World) (hc : w.cell? a = some (.int .i32 1)) (hz : w.frozen? a = false) :
    Calls Tryz.prog 218 #[.pointer (some a)] w fun e w' => e = .returned (.tuple #[]) ∧ w' = w.setCell a (.int .i32 0) := by
  have hd := disable
  have he := enable
  have hr := releaseMerge
  have hadd := run_call_add (P := Tryz.prog) Tryz.func227 (by kernel_rfl) (by kernel_rfl) (by kernel_rfl) .i32 (by kernel_rfl) (y := -1) (s := 0) hc hz (by simp [go_sem]; rfl)
  have hcv := run_convert_to_unsafe (P := Tryz.prog) (src := 275) (dst := 225) Tryz.underlying275 Tryz.underlying225 (by kernel_rfl) hc
  go_enter Tryz.func218, Tryz.ntmps218
  go_wp2
  first | go_end0 | (simp only [Exit.inBlock, Exit.then]; refine bodyPost_ret (results_none rfl _ _ _) rfl ?_) | refine bodyPost_ret (results_none rfl _ _ _) rfl ?_
  all_goals try go_wp2
  all_goals try go_end0
  all_goals exact ⟨rfl, rfl⟩

set_option maxRecDepth 100000 in
set_option maxHeartbeats 1600000 in
theorem lock_in (a : Addr) (w : World) (hc : w.cell? a = some (.int .i32 0)) (hz : w.frozen? a = false) :
    Calls Tryz.prog 217 #[.pointer (some a)] w fun e w' => e = .returned (.tuple #[]) ∧ w' = w.setCell a (.int .i32 1) := by
  have hd := disable
  have he := enable
  have ha := acquire
  have hcas := run_call_cas_hit (P := Tryz.prog) Tryz.func222 (by kernel_rfl) (by kernel_rfl) (by kernel_rfl) .i32 (by kernel_rfl) (y := 1) hc hz
  have hc' : (w.setCell a (.int .i32 1)).cell? a = some (.int .i32 1) := World.cell?_setCell_same w a _ hc
  have hcv := run_convert_to_unsafe (P := Tryz.prog) (src := 275) (dst := 225) Tryz.underlying275 Tryz.underlying225 (by kernel_rfl) hc'
  go_enter Tryz.func217, Tryz.ntmps217
  go_wp2
  first | go_end0 | (simp only [Exit.inBlock, Exit.then]; refine bodyPost_ret (results_none rfl _ _ _) rfl ?_) | refine bodyPost_ret (results_none rfl _ _ _) rfl ?_
  all_goals try go_wp2
  all_goals try go_end0
  all_goals exact ⟨rfl, rfl⟩
theorem lock_free (b o : Nat) (w : World) (hc : w.cell? ⟨b, o, none⟩ = some (.int .i32 0)) (hz : w.frozen? ⟨b, o, none⟩ = false) :
    Calls Tryz.prog 209 #[.pointer (some ⟨b, o, none⟩)] w fun e w' => e = .returned (.tuple #[]) ∧ w' = w.setCell ⟨b, o, none⟩ (.int .i32 1) := by
  have hl := Lib.hid (lock_in ⟨b, o, none⟩ w hc hz)
  clear hc hz
  go_enter Tryz.func209, Tryz.ntmps209
  go_wp2_with (go_at_call 217; refine hl.out.mono ?_; rintro e w' ⟨rfl, rfl⟩)
  go_end0
  exact ⟨rfl, rfl⟩
theorem unlock_deferred (b o : Nat) (u : FrameMode) (w : World) (hc : w.cell? ⟨b, o, none⟩ = some (.int .i32 1)) (hz : w.frozen? ⟨b, o, none⟩ = false) :
    CallsD Tryz.prog 210 #[.pointer (some ⟨b, o, none⟩)] u w fun e u' w' => u' = u ∧ (e = .returned (.tuple #[]) ∧ w' = w.setCell ⟨b, o, none⟩ (.int .i32 0)) := by
  have hl := Lib.hid (unlock_in ⟨b, o, none⟩ w hc hz)
  clear hc hz
  go_enter_d Tryz.func210, Tryz.ntmps210
  go_wp2_with (go_at_call 218; refine hl.out.mono ?_; rintro e w' ⟨rfl, rfl⟩)
  go_end0
  exact ⟨rfl, rfl⟩

theorem kload_any (b o : Nat) (d : Int) (w : World) (h0 : w.cell? ⟨b, o, none⟩ = some (.int .u32 d)) :
    Calls Tryz.prog 190 #[.pointer (some ⟨b, o, none⟩)] w fun e w' => e = .returned (.bool (d != 0)) ∧ w = w' := by
  have hl := run_call_load (P := Tryz.prog) Tryz.func208 (by kernel_rfl) (by kernel_rfl) (by kernel_rfl) .u32 (by kernel_rfl) h0
  go_enter Tryz.func190, Tryz.ntmps190
  go_wp2
  go_ret
  exact ⟨rfl, rfl⟩
theorem load_0 (b o : Nat) (w : World) (h0 : w.cell? ⟨b, o, none⟩ = some (.int .u32 0)) :
    Calls Tryz.prog 190 #[.pointer (some ⟨b, o, none⟩)] w fun e w' => e = .returned (.bool false) ∧ w = w' := kload_any b o 0 w h0
theorem load_1 (b o : Nat) (w : World) (h0 : w.cell? ⟨b, o, none⟩ = some (.int .u32 1)) :
    Calls Tryz.prog 190 #[.pointer (some ⟨b, o, none⟩)] w fun e w' => e = .returned (.bool true) ∧ w = w' := kload_any b o 1 w h0

def fresh : Array Value := tabC (.int .u32 0) (.int .i32 0) (.int .u32 0) 0
def made : Array Value := tabC (.int .u32 1) (.int .i32 0) (.int .u32 0) 16
def Made (g : Nat) (w : World) (e : Ending) (w' : World) : Prop := e = .returned (.tuple #[]) ∧ Blk w' g 201 made ∧ Fr (One g) w w'

set_option maxRecDepth 100000 in
set_option maxHeartbeats 1600000 in
theorem slow_any (g : Nat) (w : World) (h : Blk w g 201 fresh) :
    Calls Tryz.prog 191 #[.pointer (some ⟨g, 0, none⟩), .func (.func 163) #[.pointer (some ⟨g, 0, none⟩)] #[]] w (Made g w) := by
  have c1 : w.cell? ⟨g, 1, none⟩ = some (.int .i32 0) := h.cell 1
  have f1 := h.frozen 1
  obtain ⟨w1, hw1⟩ : ∃ w1, w.setCell ⟨g, 1, none⟩ (.int .i32 1) = w1 := ⟨_, rfl⟩
  have hb1 : Blk w1 g 201 (tabC (.int .u32 0) (.int .i32 1) (.int .u32 0) 0) := by rw [← hw1]; exact h.set_ 1 _
  have hf1 : Fr (One g) w w1 := by rw [← hw1]; exact Fr.set0 g w 1 _
  have c0 : w1.cell? ⟨g, 0, none⟩ = some (.int .u32 0) := hb1.cell 0
  have HL : Hid (Calls Tryz.prog 209 #[.pointer (some ⟨g, 1, none⟩)] w fun e w' => e = .returned (.tuple #[]) ∧ w' = w1) := Lib.hid (by rw [← hw1]; exact lock_free g 1 w c1 f1)
  have HF := Lib.hid (fill_any g (.int .u32 0) (.int .i32 1) (.int .u32 0) w1 hb1)
  have H0 := Lib.hid (load_0 g 0 w1 c0)
  have HR := Lib.hid hf1
  have hnot : ∀ (x : Bool) (w : World), (Op.unary .not (.bool x)).run Tryz.prog w = .ok (.bool (!x)) w := fun _ _ => rfl
  clear hw1 hb1 hf1 c0 c1 f1 h
  go_enter_defers Tryz.func191, Tryz.ntmps191
  go_wp2_with (first | (go_at_call 209; refine HL.out.mono ?_; rintro e w' ⟨rfl, rfl⟩) | (go_at_call 190; refine H0.out.mono ?_; rintro e w' ⟨rfl, rfl⟩) | (go_at_call 163; refine HF.out.mono ?_; rintro e w' ⟨rfl, hb2, hf2⟩))
  go_wp2
  have d0 : w'.cell? ⟨g, 0, none⟩ = some (.int .u32 0) := hb2.cell 0
  have hfz := hb2.frozen 0
  refine leaves_cons (f := 211) (args := #[.pointer (some ⟨g, 0, none⟩), .bool true]) (by simp) (by simp [go_sem]) ?_
  refine (store_deferred ⟨g, 0, none⟩ (.int .u32 0) .returning _ d0 hfz).mono ?_
  rintro e u' w'' ⟨rfl, rfl, rfl⟩
  have hb3 : Blk (w'.drew.setCell ⟨g, 0, none⟩ (.int .u32 1)) g 201 (tabC (.int .u32 1) (.int .i32 1) (.int .u32 0) 16) := Blk.set_ (w := w'.drew) hb2 0 _
  have hf3 : Fr (One g) w (w'.drew.setCell ⟨g, 0, none⟩ (.int .u32 1)) := ((HR.out.trans hf2 fun _ _ h => h).drew).set1 0 _
  obtain ⟨w3, hw3⟩ : ∃ w3, w'.drew.setCell ⟨g, 0, none⟩ (.int .u32 1) = w3 := ⟨_, rfl⟩
  rw [hw3] at hb3 hf3 ⊢
  have d1 : w3.cell? ⟨g, 1, none⟩ = some (.int .i32 1) := hb3.cell 1
  refine leaves_cons (f := 210) (args := #[.pointer (some ⟨g, 1, none⟩)]) (by simp [settle]) (by simp [go_sem]) ?_
  refine (unlock_deferred g 1 _ _ d1 (hb3.frozen 1)).mono ?_
  rintro e u' w'' ⟨rfl, rfl, rfl⟩
  have hm : Made g w (.returned (.tuple #[])) (w3.setCell ⟨g, 1, none⟩ (.int .i32 0)) := ⟨rfl, hb3.set_ 1 _, hf3.set1 1 _⟩
  simp [Leaves, settle, results, Tryz.results191]
  exact hm
set_option maxHeartbeats 1600000 in
/-- '(*sync.Once).Do' of the table's fill, not yet done. -/
theorem do_first (g : Nat) (w : World) (h : Blk w g 201 fresh) :
    Calls Tryz.prog 162 #[.pointer (some ⟨g, 0, none⟩), .func (.func 163) #[.pointer (some ⟨g, 0, none⟩)] #[]] w (Made g w) := by
  have H0 := Lib.hid (load_0 g 0 w (h.cell 0))
  have HS := Lib.hid (slow_any g w h)
  have hnot : ∀ (x : Bool) (w : World), (Op.unary .not (.bool x)).run Tryz.prog w = .ok (.bool (!x)) w := fun _ _ => rfl
  clear h
  go_enter Tryz.func162, Tryz.ntmps162
  go_wp2_with (first | (go_at_call 190; refine H0.out.mono ?_; rintro e w' ⟨rfl, rfl⟩) | (go_at_call 191; refine HS.out.mono ?_; rintro e w' ⟨rfl, hb, hf⟩))
  go_end0
  exact ⟨rfl, hb, hf⟩
/-- Done already. -/
theorem do_done (g : Nat) (fv : Value) (w : World) (h : Blk w g 201 made) :
    Calls Tryz.prog 162 #[.pointer (some ⟨g, 0, none⟩), fv] w (Made g w) := by
  have H0 := Lib.hid (load_1 g 0 w (h.cell 0))
  have hnot : ∀ (x : Bool) (w : World), (Op.unary .not (.bool x)).run Tryz.prog w = .ok (.bool (!x)) w := fun _ _ => rfl
  have H := Lib.hid h
  clear h
  go_enter Tryz.func162, Tryz.ntmps162
  go_wp2_with (go_at_call 190; refine H0.out.mono ?_; rintro e w' ⟨rfl, rfl⟩)
  go_end0
  exact ⟨rfl, H.out, Fr.refl _ _⟩

/-! ### the landed check -/
/-- A table: not made, or made. -/
def TabAt (w : World) (g : Nat) : Prop := Blk w g 201 fresh ∨ Blk w g 201 made
theorem do_any (g : Nat) (w : World) (h : TabAt w g) :
    Calls Tryz.prog 162 #[.pointer (some ⟨g, 0, none⟩), .func (.func 163) #[.pointer (some ⟨g, 0, none⟩)] #[]] w (Made g w) := by
  rcases h with h | h
  · exact do_first g w h
  · exact do_done g _ w h
def Summed (g : Nat) (l : List UInt8) (w : World) (e : Ending) (w' : World) : Prop := e = .returned (.int .u32 (crc l : Nat)) ∧ Blk w' g 201 made ∧ Fr (One g) w w'
theorem tsum_nil (s : ByteArray) (w : World) : Calls Tryz.prog 139 #[.pointer none, .string s] w fun e w' => e = .returned (.int .u32 0) ∧ w = w' := by
  go_enter Tryz.func139, Tryz.ntmps139
  go_wp2
  go_ret
  exact ⟨rfl, rfl⟩

/-- Half a byte's step. -/
theorem half_facts (x : Nat) (hx : x < 2 ^ 32) : ∃ y i z : Nat, i < 16 ∧ i = x % 16 ∧ ((x : Int) / 16 = (y : Int)) ∧ ((x : Int) % 16 = (i : Int)) ∧ bits .xor .u32 (y : Int) (stn 4 i : Nat) = (z : Int) ∧ stn 4 x = z ∧ z < 2 ^ 32 := by
  refine ⟨x / 16, x % 16, x / 16 ^^^ stn 4 (x % 16), by omega, rfl, by omega, by omega, u32_xor_nat _ _ (by omega) (stn_lt (by omega)), stn4 x, ?_⟩
  rw [← stn4]; exact stn_lt hx
theorem not_ones (a : Nat) (ha : a < 2 ^ 32) : ∃ z : Nat, z = a ^^^ 4294967295 ∧ bits .xor .u32 4294967295 (a : Int) = (z : Int) := ⟨_, rfl, by rw [Nat.xor_comm]; exact u32_xor_nat 4294967295 a (by decide) (by omega)⟩

set_option maxRecDepth 100000 in
set_option maxHeartbeats 2000000 in
theorem tsum_any (g : Nat) (s : ByteArray) (w : World) (hs : s.size ≤ maxLen) (h : TabAt w g) :
    Calls Tryz.prog 139 #[.pointer (some ⟨g, 0, none⟩), .string s] w (Summed g s.data.toList w) := by
  unfold maxLen at hs
  have HD := Lib.hid (do_any g w h)
  have hmf : ∀ (fn : Fn) (first cap : Array Value) (w : World), (Instr.makeFunc fn first cap).run Tryz.prog w = .ok (.func fn first cap) w := fun _ _ _ _ => rfl
  clear h
  go_enter Tryz.func139, Tryz.ntmps139
  go_wp2_with (go_at_call 162; refine HD.out.mono ?_; rintro e w' ⟨rfl, hb, hf⟩)
  have hrow : ∀ i, i < 16 → w'.cell? ⟨g, 3 + i, none⟩ = some (.int .u32 (stn 4 i : Nat)) := fun i hi => (hb.cell (3 + i)).trans (tabC_get _ _ _ i hi)
  have HROW := Lib.hid hrow
  have HB := Lib.hid hb
  have HF := Lib.hid hf
  clear hrow hb hf HD
  go_wp2
  go_loop [5, 17] (fun c i => ∃ k : Nat, k ≤ s.size ∧ i = .int .i64 k ∧ c = .int .u32 (runc 4294967295 (s.data.toList.take k) : Nat)) (fun _ i => s.size - (intOf i).toNat)
  case atStart => exact ⟨0, Nat.zero_le _, rfl, rfl⟩
  case round =>
    obtain ⟨k, hk, rfl, rfl⟩ := hrel
    have hc := runc_lt (s.data.toList.take k) (c := 4294967295) (by decide)
    by_cases hlt : k < s.size
    · have hts : s.data.toList.take (k + 1) = s.data.toList.take k ++ [s[k]] := by rw [List.take_succ_eq_append_getElem (by simpa using hlt)]; rfl
      have hbt : s[k].toNat < 256 := s[k].toNat_lt
      have hv : runc 4294967295 (s.data.toList.take (k + 1)) = stn 4 (stn 4 (runc 4294967295 (s.data.toList.take k) ^^^ s[k].toNat)) := by rw [hts, runc_snoc]; rfl
      have HV := Lib.hid hv
      clear hv hts
      generalize runc 4294967295 (s.data.toList.take k) = c at *
      obtain ⟨x, hx, hxx⟩ := xor_fact c s[k].toNat hc (by omega)
      have hxl : x < 2 ^ 32 := by rw [hx]; exact Nat.xor_lt_two_pow hc (by omega)
      obtain ⟨y1, i1, z1, hi1, he1, ha1, hb1, hc1, hd1, hl1⟩ := half_facts x hxl
      obtain ⟨y2, i2, z2, hi2, he2, ha2, hb2, hc2, hd2, hl2⟩ := half_facts z1 hl1
      have HZ : Hid (runc 4294967295 (s.data.toList.take (k + 1)) = z2) := Lib.hid (by rw [HV.out, ← hx, hd1, hd2])
      have hr1 := HROW.out i1 hi1
      have hr2 := HROW.out i2 hi2
      have hx1 := fun w' => idx36 .u32 w' g 3 i1 hi1
      have hx2 := fun w' => idx36 .u32 w' g 3 i2 hi2
      clear hx hd1 hd2 HV he1 he2
      generalize stn 4 i1 = t1 at *
      generalize stn 4 i2 = t2 at *
      go_wp2
      go_round
      case rel => exact ⟨k + 1, by omega, by go_num, by rw [HZ.out]⟩
      case measure => simp [intOf]; omega
    · obtain ⟨z, hz, hzz⟩ := not_ones _ hc
      have hz' : z = crc s.data.toList := by rw [hz]; unfold crc; rw [List.take_of_length_le (by simp; omega)]
      have HZ := Lib.hid hz'
      have hmax : IntKind.u32.max = 4294967295 := by decide
      clear hz' hz
      generalize runc 4294967295 (s.data.toList.take k) = c at *
      go_wp2
      go_ret
      exact ⟨ret_u32 (by rw [HZ.out]), HB.out, HF.out⟩
end Go.Proofs.YtpeafckomahjgaaGreatDoor
