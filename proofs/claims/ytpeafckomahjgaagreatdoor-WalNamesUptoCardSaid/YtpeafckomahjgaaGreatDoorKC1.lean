/- A reader in memory, nil too: stopped, Fail, Left, Done, take, many. -/
import Derived.Test.YtpeafckomahjgaaGreatDoorKB2
namespace Go.Proofs.YtpeafckomahjgaaGreatDoor
open Go.RowKit Go.Maps
set_option linter.unusedVariables false

/-- A reader: what is left, what was first wrong. -/
structure RS where
  rest : List UInt8
  fault : Int
def RS.none : RS := ⟨[], 1⟩
def RS.fail (S : RS) (e : Int) : RS := if e ≠ 0 ∧ S.fault = 0 then ⟨[], e⟩ else S
def RS.take (S : RS) (n : Nat) : List UInt8 × RS := if S.fault = 0 then (if S.rest.length < n then ([], ⟨[], 20⟩) else (S.rest.take n, ⟨S.rest.drop n, 0⟩)) else ([], S)
def RS.many (S : RS) (least : Nat) : Nat × RS := if num (S.take 4).1 > (S.take 4).2.rest.length / least then (0, (S.take 4).2.fail 20) else (num (S.take 4).1, (S.take 4).2)

/-- How it lies. -/
structure RAt (w : World) (p : Option Nat) (S : RS) : Prop where
  blk : ∀ g, p = some g → Blk w g 235 #[sv S.rest, .int .i64 S.fault]
  nil : p = Option.none → S = RS.none
  len : S.rest.length ≤ 1073741824
def RFt (p : Option Nat) (k : Nat) : Prop := p = some k
theorem RAt.of {w w' : World} {p : Option Nat} {S : RS} (h : RAt w p S) (hk : ∀ k, RFt p k → w'.heap[k]? = w.heap[k]?) : RAt w' p S :=
  ⟨fun g e => (h.blk g e).of (hk g e), h.nil, h.len⟩
theorem RAt.lt {w : World} {p : Option Nat} {S : RS} (h : RAt w p S) : ∀ k, RFt p k → k < w.heap.size := fun k e => (h.blk k e).lt
theorem RAt.below {w w' : World} {p : Option Nat} {S : RS} (h : RAt w p S) (hb : Below w.heap.size w w') : RAt w' p S := h.of fun k hk => hb.block k (h.lt k hk)
theorem RAt.keep {w w' : World} {p : Option Nat} {S : RS} (h : RAt w p S) (hb : Fr No w w') : RAt w' p S := h.of fun k hk => hb.block k (h.lt k hk) id
theorem RAt.alloc {w : World} {p : Option Nat} {S : RS} (h : RAt w p S) (o : Obj) : RAt (w.alloc o) p S := h.keep ((Fr.refl _ w).alloc o)
theorem RAt.new (w : World) (l : List UInt8) (hl : l.length ≤ 1073741824) : RAt (w.alloc (.cells #[sv l, .int .i64 0] 235)) (some w.heap.size) ⟨l, 0⟩ :=
  ⟨fun g e => by obtain rfl := Option.some.inj e; exact Blk.new w 235 _, fun e => (by cases e), hl⟩
theorem RAt.nilr (w : World) : RAt w Option.none RS.none := ⟨fun g e => (by cases e), fun _ => rfl, by simp [RS.none]⟩
theorem RAt.some_of {w : World} {p : Option Nat} {S : RS} (h : RAt w p S) (h0 : S.fault = 0) : ∃ g, p = some g := by
  cases p with
  | none => have := h.nil rfl; subst this; cases h0
  | some g => exact ⟨g, rfl⟩

/-- A call of a reader that tells v. -/
def RP (p : Option Nat) (w : World) (v : Value) (S' : RS) (e : Ending) (w' : World) : Prop := e = .returned v ∧ RAt w' p S' ∧ Fr (RFt p) w w'

theorem rstop_any (p : Option Nat) (S : RS) (w : World) (h : RAt w p S) :
    Calls Tryz.prog 199 #[wpt p] w fun e w' => e = .returned (.bool (S.fault != 0)) ∧ w = w' := by
  cases p with
  | none =>
    obtain rfl := h.nil rfl
    unfold wpt
    go_enter Tryz.func199, Tryz.ntmps199
    go_wp2
    go_ret
    exact ⟨rfl, rfl⟩
  | some g =>
    have c1 : w.cell? ⟨g, 1, none⟩ = some (.int .i64 S.fault) := (h.blk g rfl).cell 1
    clear h
    rw [wpt_some]
    go_enter Tryz.func199, Tryz.ntmps199
    go_wp2
    go_ret
    exact ⟨rfl, rfl⟩
theorem rstop_no (p : Option Nat) (S : RS) (w : World) (h : RAt w p S) (h0 : S.fault = 0) : Calls Tryz.prog 199 #[wpt p] w fun e w' => e = .returned (.bool false) ∧ w = w' := by
  have := rstop_any p S w h
  rwa [h0] at this
theorem rstop_yes (p : Option Nat) (S : RS) (w : World) (h : RAt w p S) (h0 : S.fault ≠ 0) : Calls Tryz.prog 199 #[wpt p] w fun e w' => e = .returned (.bool true) ∧ w = w' := by
  have := rstop_any p S w h
  rwa [show (S.fault != 0) = true by simpa using h0] at this

/-! ### Fail -/
theorem rfail_any (p : Option Nat) (S : RS) (n : Int) (w : World) (h : RAt w p S) : Calls Tryz.prog 200 #[wpt p, .int .i64 n] w (RP p w (.tuple #[]) (S.fail n)) := by
  have hnot : ∀ (x : Bool) (w : World), (Op.unary .not (.bool x)).run Tryz.prog w = .ok (.bool (!x)) w := fun _ _ => rfl
  by_cases hn : n = 0
  · have HV : Hid (S.fail n = S) := Lib.hid (by unfold RS.fail; rw [if_neg (by simp [hn])])
    have H := Lib.hid h
    have hd : (n != 0) = false := by simp [hn]
    clear h hn
    generalize wpt p = P at *
    go_enter Tryz.func200, Tryz.ntmps200
    go_wp2
    go_end0
    exact ⟨rfl, by rw [HV.out]; exact H.out, Fr.refl _ _⟩
  · have hd : (n != 0) = true := by simpa using hn
    by_cases h0 : S.fault = 0
    · have HS := Lib.hid (rstop_no p S w h h0)
      have HV : Hid (S.fail n = ⟨[], n⟩) := Lib.hid (by unfold RS.fail; rw [if_pos ⟨hn, h0⟩])
      obtain ⟨g, rfl⟩ := h.some_of h0
      have hb := h.blk g rfl
      have c0 : w.cell? ⟨g, 0, none⟩ = some (sv S.rest) := hb.cell 0
      have c1 : w.cell? ⟨g, 1, none⟩ = some (.int .i64 S.fault) := hb.cell 1
      have f0 := hb.frozen 0
      have f1 := hb.frozen 1
      have HB := Lib.hid hb
      clear h hb h0 hn
      rw [wpt_some] at HS ⊢
      go_enter Tryz.func200, Tryz.ntmps200
      go_wp2_with (go_at_call 199; refine HS.out.mono ?_; rintro e w' ⟨rfl, rfl⟩)
      go_end0
      refine ⟨rfl, ?_, ((Fr.refl (RFt (some g)) w).setCell (p := ⟨g, 0, none⟩) (fun _ => (rfl : some g = some g)) _).setCell (p := ⟨g, 1, none⟩) (fun _ => (rfl : some g = some g)) _⟩
      rw [HV.out]
      exact ⟨fun k e => by obtain rfl := Option.some.inj e; exact (HB.out.set_ 0 _).set_ 1 _, fun e => (by cases e), by simp⟩
    · have HS := Lib.hid (rstop_yes p S w h h0)
      have HV : Hid (S.fail n = S) := Lib.hid (by unfold RS.fail; rw [if_neg (by simp [h0])])
      have H := Lib.hid h
      clear h h0 hn
      generalize wpt p = P at *
      go_enter Tryz.func200, Tryz.ntmps200
      go_wp2_with (go_at_call 199; refine HS.out.mono ?_; rintro e w' ⟨rfl, rfl⟩)
      go_end0
      exact ⟨rfl, by rw [HV.out]; exact H.out, Fr.refl _ _⟩

/-! ### Left, Done, Read -/
theorem rleft_any (p : Option Nat) (S : RS) (w : World) (h : RAt w p S) : Calls Tryz.prog 201 #[wpt p] w fun e w' => e = .returned (.int .i64 (S.rest.length : Nat)) ∧ w = w' := by
  cases p with
  | none =>
    obtain rfl := h.nil rfl
    unfold wpt
    go_enter Tryz.func201, Tryz.ntmps201
    go_wp2
    go_ret
    exact ⟨rfl, rfl⟩
  | some g =>
    have c0 : w.cell? ⟨g, 0, none⟩ = some (sv S.rest) := (h.blk g rfl).cell 0
    have hl := h.len
    clear h
    rw [wpt_some]
    generalize S.rest = R at *
    go_enter Tryz.func201, Tryz.ntmps201
    go_wp2
    go_ret
    exact ⟨rfl, rfl⟩
def RS.done (S : RS) : Int := if S.fault = 0 ∧ S.rest ≠ [] then 22 else S.fault
theorem rdone_any (p : Option Nat) (S : RS) (w : World) (h : RAt w p S) : Calls Tryz.prog 158 #[wpt p] w fun e w' => e = .returned (.int .i64 S.done) ∧ w = w' := by
  cases p with
  | none =>
    obtain rfl := h.nil rfl
    unfold wpt
    go_enter Tryz.func158, Tryz.ntmps158
    go_wp2
    go_ret
    exact ⟨rfl, rfl⟩
  | some g =>
    have c0 : w.cell? ⟨g, 0, none⟩ = some (sv S.rest) := (h.blk g rfl).cell 0
    have c1 : w.cell? ⟨g, 1, none⟩ = some (.int .i64 S.fault) := (h.blk g rfl).cell 1
    clear h
    rw [wpt_some]
    obtain ⟨R, f⟩ := S
    by_cases h0 : f = 0
    · subst h0
      cases hr : R.isEmpty with
      | true =>
        have HV : Hid (RS.done ⟨R, 0⟩ = 0) := Lib.hid (by unfold RS.done; rw [if_neg (by simpa using hr)])
        go_enter Tryz.func158, Tryz.ntmps158
        go_wp2
        go_ret
        exact ⟨ret_int HV.out.symm, rfl⟩
      | false =>
        have HV : Hid (RS.done ⟨R, 0⟩ = 22) := Lib.hid (by unfold RS.done; rw [if_pos (by simpa using hr)])
        go_enter Tryz.func158, Tryz.ntmps158
        go_wp2
        go_ret
        exact ⟨ret_int HV.out.symm, rfl⟩
    · have HV : Hid (RS.done ⟨R, f⟩ = f) := Lib.hid (by unfold RS.done; rw [if_neg (by simp [h0])])
      have hd : (f == 0) = false := by simpa using h0
      clear h0
      go_enter Tryz.func158, Tryz.ntmps158
      go_wp2
      go_ret
      exact ⟨ret_int HV.out.symm, rfl⟩
theorem read_any (l : List UInt8) (w : World) : Calls Tryz.prog 155 #[sv l] w fun e w' => e = .returned (.pointer (some ⟨w.heap.size, 0, none⟩)) ∧ w.alloc (.cells #[sv l, .int .i64 0] 235) = w' := by
  go_enter Tryz.func155, Tryz.ntmps155
  go_wp2
  go_ret
  exact ⟨rfl, rfl⟩

/-! ### take -/
theorem rtake_stop (p : Option Nat) (S : RS) (n : Int) (w : World) (h : RAt w p S) (h0 : S.fault ≠ 0) : Calls Tryz.prog 177 #[wpt p, .int .i64 n] w (RP p w (sv []) S) := by
  have HS := Lib.hid (rstop_yes p S w h h0)
  have H := Lib.hid h
  clear h h0
  generalize wpt p = P at *
  go_enter Tryz.func177, Tryz.ntmps177
  go_wp2_with (go_at_call 199; refine HS.out.mono ?_; rintro e w' ⟨rfl, rfl⟩)
  go_ret
  exact ⟨rfl, H.out, Fr.refl _ _⟩
set_option maxHeartbeats 400000 in
theorem rtake_short (p : Option Nat) (S : RS) (n : Nat) (w : World) (h : RAt w p S) (h0 : S.fault = 0) (hl : S.rest.length < n) : Calls Tryz.prog 177 #[wpt p, .int .i64 n] w (RP p w (sv []) ⟨[], 20⟩) := by
  have HS := Lib.hid (rstop_no p S w h h0)
  have HF := Lib.hid (rfail_any p S 20 w h)
  have HV : Hid (S.fail 20 = ⟨[], 20⟩) := Lib.hid (by unfold RS.fail; rw [if_pos ⟨by decide, h0⟩])
  obtain ⟨g, rfl⟩ := h.some_of h0
  have c0 : w.cell? ⟨g, 0, none⟩ = some (sv S.rest) := (h.blk g rfl).cell 0
  have hm := h.len
  clear h h0
  rw [wpt_some] at HS HF ⊢
  generalize S.rest = R at *
  go_enter Tryz.func177, Tryz.ntmps177
  go_wp2_with (first | (go_at_call 199; refine HS.out.mono ?_; rintro e w' ⟨rfl, rfl⟩) | (go_at_call 200; refine HF.out.mono ?_; rintro e w' ⟨rfl, h1, h2⟩))
  go_ret
  exact ⟨rfl, by rw [← HV.out]; exact h1, h2⟩
set_option maxHeartbeats 400000 in
theorem rtake_ok (p : Option Nat) (S : RS) (n : Nat) (w : World) (h : RAt w p S) (h0 : S.fault = 0) (hl : n ≤ S.rest.length) : Calls Tryz.prog 177 #[wpt p, .int .i64 n] w (RP p w (sv (S.rest.take n)) ⟨S.rest.drop n, 0⟩) := by
  have HS := Lib.hid (rstop_no p S w h h0)
  obtain ⟨g, rfl⟩ := h.some_of h0
  have hb := h.blk g rfl
  have c0 : w.cell? ⟨g, 0, none⟩ = some (sv S.rest) := hb.cell 0
  have f0 := hb.frozen 0
  have hm := h.len
  rw [h0] at hb
  have hs := hb.set_ 0 (sv (S.rest.drop n))
  have HW : Hid (RAt (w.setCell ⟨g, 0, none⟩ (sv (S.rest.drop n))) (some g) ⟨S.rest.drop n, 0⟩) := Lib.hid ⟨fun k e => by obtain rfl := Option.some.inj e; exact hs, fun e => (by cases e), by simp; omega⟩
  clear h h0 hb hs
  rw [wpt_some] at HS ⊢
  generalize S.rest = R at *
  have ht : (ByteArray.mk R.toArray).extract 0 n = ⟨(R.take n).toArray⟩ := by rw [ext_list, List.drop_zero]
  have hd : (ByteArray.mk R.toArray).extract n R.length = ⟨(R.drop n).toArray⟩ := by rw [ext_list, List.take_length]
  go_enter Tryz.func177, Tryz.ntmps177
  go_wp2_with (go_at_call 199; refine HS.out.mono ?_; rintro e w' ⟨rfl, rfl⟩)
  go_ret
  exact ⟨rfl, HW.out, (Fr.refl (RFt (some g)) w).setCell (p := ⟨g, 0, none⟩) (fun _ => (rfl : some g = some g)) _⟩
theorem rtake_any (p : Option Nat) (S : RS) (n : Nat) (w : World) (h : RAt w p S) : Calls Tryz.prog 177 #[wpt p, .int .i64 n] w (RP p w (sv (S.take n).1) (S.take n).2) := by
  unfold RS.take
  by_cases h0 : S.fault = 0
  · rw [if_pos h0]
    by_cases hl : S.rest.length < n
    · rw [if_pos hl]; exact rtake_short p S n w h h0 hl
    · rw [if_neg hl]; exact rtake_ok p S n w h h0 (by omega)
  · rw [if_neg h0]; exact rtake_stop p S n w h h0
theorem take_len (S : RS) (n : Nat) : (S.take n).1.length ≤ n := by
  unfold RS.take
  split
  · split
    · simp
    · simp; omega
  · simp
theorem take_rest (S : RS) (n : Nat) : (S.take n).2.rest.length ≤ S.rest.length := by
  unfold RS.take
  split
  · split
    · simp
    · simp
  · simp
theorem number_l (l : List UInt8) (hl : l.length ≤ 8) (w : World) : Calls Tryz.prog 154 #[sv l] w fun e w' => e = .returned (.int .u64 (num l : Nat)) ∧ w = w' := number_any ⟨l.toArray⟩ w (by rw [sz]; exact hl)

/-! ### many -/
set_option maxHeartbeats 1000000 in
theorem rmany_any (p : Option Nat) (S : RS) (k : Nat) (hk : 0 < k) (hk8 : k ≤ 8) (w : World) (h : RAt w p S) : Calls Tryz.prog 178 #[wpt p, .int .i64 k] w (RP p w (.int .i64 (S.many k).1) (S.many k).2) := by
  have HT : Hid (Calls Tryz.prog 177 #[wpt p, .int .i64 4] w (RP p w (sv (S.take 4).1) (S.take 4).2)) := Lib.hid (rtake_any p S 4 w h)
  have hl4 := take_len S 4
  have HN : Hid (∀ w, Calls Tryz.prog 154 #[sv (S.take 4).1] w fun e w' => e = .returned (.int .u64 (num (S.take 4).1 : Nat)) ∧ w = w') := Lib.hid fun w => number_l _ (by omega) w
  have hn : num (S.take 4).1 < 4294967296 := by
    have h1 := num_lt (S.take 4).1
    have h2 : 256 ^ (S.take 4).1.length ≤ 256 ^ 4 := Nat.pow_le_pow_right (by decide) hl4
    omega
  have hr : (S.take 4).2.rest.length ≤ 1073741824 := Nat.le_trans (take_rest S 4) h.len
  have HV : Hid (S.many k = if num (S.take 4).1 > (S.take 4).2.rest.length / k then (0, (S.take 4).2.fail 20) else (num (S.take 4).1, (S.take 4).2)) := Lib.hid rfl
  clear h hl4
  generalize (S.take 4).1 = B at *
  generalize (S.take 4).2 = S1 at *
  obtain ⟨q, hq⟩ : ∃ q, S1.rest.length / k = q := ⟨_, rfl⟩
  have hqq : ((S1.rest.length : Nat) : Int) / (k : Int) = (q : Int) := by rw [← hq]; omega
  have hqr : q ≤ 1073741824 := by rw [← hq]; exact Nat.le_trans (Nat.div_le_self _ _) hr
  rw [hq] at HV
  have HQ := Lib.hid hq
  generalize num B = n at *
  generalize hP : wpt p = P at *
  have HP := Lib.hid hP
  clear hP hq
  by_cases hgt : q < n
  · have HV2 : Hid (S.many k = (0, S1.fail 20)) := Lib.hid (by rw [HV.out, if_pos hgt])
    clear HV
    go_enter Tryz.func178, Tryz.ntmps178
    go_wp2_with fail
    refine HT.out.mono ?_
    rintro e w1 ⟨rfl, h1, f1⟩
    have H1 := Lib.hid h1
    have F1 := Lib.hid f1
    clear h1 f1
    go_wp2_with (first
      | (go_at_call 154; refine (HN.out _).mono ?_; rintro e w' ⟨rfl, rfl⟩)
      | (go_at_call 201; rw [← HP.out]; refine (rleft_any p S1 _ H1.out).mono ?_; rintro e w' ⟨rfl, rfl⟩)
      | (go_at_call 200; refine (rfail_any p S1 20 _ H1.out).mono ?_; rintro e w2 ⟨rfl, h2, f2⟩))
    go_ret
    exact ⟨by rw [HV2.out]; rfl, by rw [HV2.out]; exact h2, F1.out.trans f2 fun _ _ h => h⟩
  · have HV2 : Hid (S.many k = (n, S1)) := Lib.hid (by rw [HV.out, if_neg hgt])
    clear HV
    go_enter Tryz.func178, Tryz.ntmps178
    go_wp2_with fail
    refine HT.out.mono ?_
    rintro e w1 ⟨rfl, h1, f1⟩
    have H1 := Lib.hid h1
    have F1 := Lib.hid f1
    clear h1 f1
    go_wp2_with (first
      | (go_at_call 154; refine (HN.out _).mono ?_; rintro e w' ⟨rfl, rfl⟩)
      | (go_at_call 201; rw [← HP.out]; refine (rleft_any p S1 _ H1.out).mono ?_; rintro e w' ⟨rfl, rfl⟩))
    go_ret
    exact ⟨by rw [HV2.out]; rfl, by rw [HV2.out]; exact H1.out, F1.out⟩
end Go.Proofs.YtpeafckomahjgaaGreatDoor
