/- The calls of a net, by contract: Send, Move, Take, Shut, Waits. -/
import Derived.Test.YthcpdeffgdaieaaA6
import Derived.StillTailTactics
namespace Go.Proofs.Ythcpdeffgdaieaa
open Go.RowKit Go.Maps
set_option linter.unusedVariables false

/-- A net, well made. -/
structure WF (S : NS) : Prop where
  right : S.Right
  keys : ∀ n ∈ S.keys, 1 ≤ n ∧ n ≤ S.last
  last : 0 ≤ S.last ∧ S.last ≤ 4611686018427387904
  way : ∀ n K s, S.link n = some K → (K.way s).arr ≤ (K.way s).bytes.length ∧ (K.way s).bytes.length ≤ 65536

/-- What a call of a side is about. -/
inductive Case (S : NS) (conn side : Int) : Prop
  | no (h : ∀ s, side = sd s → S.link conn = none)
  | cut (s : Bool) (K : LK) (h : side = sd s) (hK : S.link conn = some K) (hc : K.cut = true)
  | ok (s : Bool) (K : LK) (h : side = sd s) (hK : S.link conn = some K) (hc : K.cut = false)

theorem case_of (S : NS) (conn side : Int) : Case S conn side := by
  by_cases h0 : side = sd false
  · cases hK : S.link conn with
    | none => exact .no fun s hs => hK
    | some K =>
      cases hc : K.cut
      · exact .ok false K h0 hK hc
      · exact .cut false K h0 hK hc
  · by_cases h1 : side = sd true
    · cases hK : S.link conn with
      | none => exact .no fun s hs => hK
      | some K =>
        cases hc : K.cut
        · exact .ok true K h1 hK hc
        · exact .cut true K h1 hK hc
    · exact .no fun s hs => by cases s; exact absurd hs h0; exact absurd hs h1

def sideOf (side : Int) : Option Bool := if side = 0 then some false else if side = 1 then some true else none
theorem sideOf_sd (s : Bool) : sideOf (sd s) = some s := by cases s <;> rfl
def NS.find (S : NS) (conn side : Int) : Option (Bool × LK) := (sideOf side).bind fun s => (S.link conn).map fun K => (s, K)
theorem find_eq_none {S : NS} {conn side : Int} (h : ∀ s, side = sd s → S.link conn = none) : S.find conn side = none := by
  unfold NS.find sideOf
  split
  · rename_i h0; rw [h false h0]; rfl
  · split
    · rename_i h1; rw [h true h1]; rfl
    · rfl
theorem find_eq_some {S : NS} {conn side : Int} {s : Bool} {K : LK} (h : side = sd s) (hK : S.link conn = some K) : S.find conn side = some (s, K) := by
  unfold NS.find; rw [h, sideOf_sd, hK]; rfl

theorem reach_no (d : Nat) (R : Rp) (S : NS) (conn side : Int) (w : World) (h : At w d R S) (hw : (Lit.int .i64 conn).wf = true) (hn : ∀ s, side = sd s → S.link conn = none) :
    Calls Try.prog 27 #[.pointer (some ⟨d, 0, none⟩), .int .i64 conn, .int .i64 side] w fun e w' => e = .returned (.tuple #[.pointer none, .int .i64 14]) ∧ w = w' := by
  refine reach_none d conn side w ?_
  by_cases h0 : side = 0
  · have := find_no d R S conn false w h hw (hn false h0); rw [h0]; exact this
  · by_cases h1 : side = 1
    · have := find_no d R S conn true w h hw (hn true h1); rw [h1]; exact this
    · exact find_bad d conn side w h0 h1

theorem reach_cut (d : Nat) (R : Rp) (S : NS) (conn : Int) (s : Bool) (K : LK) (w : World) (h : At w d R S) (hr : S.Right) (hw : (Lit.int .i64 conn).wf = true) (hK : S.link conn = some K) (hc : K.cut = true) :
    Calls Try.prog 27 #[.pointer (some ⟨d, 0, none⟩), .int .i64 conn, .int .i64 (sd s)] w fun e w' => e = .returned (.tuple #[.pointer none, .int .i64 17]) ∧ Post d R S w (S.tell conn K s) w' := by
  cases ht : K.told (!s)
  · exact reach_cut1 d R S conn s K w h hw hK hc ht
  · exact reach_cut2 d R S conn s K w h hr hw hK hc ht

theorem Turned.drew {g : Nat} {vv : Bool → Value} {w w' : World} {K : LK} (h : Turned g vv w.drew K w') : Turned g vv w K w' := by
  obtain ⟨vv', h1, h2, h3⟩ := h
  exact ⟨vv', h1, ⟨h2.os, h2.tape, h2.output, h2.size, h2.block⟩, h3⟩
theorem LAt.drew {g : Nat} {vv : Bool → Value} {w : World} {K : LK} (h : LAt w g vv K) : LAt w.drew g vv K := h.of fun _ _ => rfl
theorem extract_take (data : List UInt8) (k : Nat) : (⟨data.toArray⟩ : ByteArray).extract 0 k = ⟨(data.take k).toArray⟩ := by
  apply ByteArray.ext
  apply Array.ext'
  simp [ByteArray.data_extract]

/-! ### Send -/
def LK.sent (K : LK) (s : Bool) (data : List UInt8) : Nat := min data.length (65536 - (K.way (!s)).bytes.length)
def LK.send (K : LK) (s : Bool) (data : List UInt8) : LK := K.setW (!s) { K.way (!s) with bytes := (K.way (!s)).bytes ++ data.take (K.sent s data) }
def NS.send (S : NS) (conn side : Int) (data : List UInt8) : (Int × Int) × NS :=
  match S.find conn side with
  | none => ((0, 14), S)
  | some (s, K) => if K.cut then ((0, 17), S.tell conn K s) else if (K.way (!s)).shut then ((0, 16), S) else ((K.sent s data, 0), S.setL conn (K.send s data))

theorem send_nil (conn side : Int) (data : List UInt8) (w : World) :
    Calls Try.prog 12 #[.pointer none, .int .i64 conn, .int .i64 side, .string ⟨data.toArray⟩] w fun e w' => e = .returned (.tuple #[.int .i64 0, .int .i64 1]) ∧ w = w' := by
  go_enter Try.func12, Try.ntmps12
  go_wp2_with (go_at_call 27; refine (reach_nil _ _ _).mono ?_; rintro e w' ⟨rfl, rfl⟩)
  go_ret2
  exact ⟨rfl, rfl⟩

set_option maxHeartbeats 400000 in
theorem send_err (d : Nat) (conn side : Int) (data : List UInt8) (E : Int) (P : World → Prop) (w : World) (hE : E ≠ 0)
    (hr : Calls Try.prog 27 #[.pointer (some ⟨d, 0, none⟩), .int .i64 conn, .int .i64 side] w fun e w' => e = .returned (.tuple #[.pointer none, .int .i64 E]) ∧ P w') :
    Calls Try.prog 12 #[.pointer (some ⟨d, 0, none⟩), .int .i64 conn, .int .i64 side, .string ⟨data.toArray⟩] w fun e w' => e = .returned (.tuple #[.int .i64 0, .int .i64 E]) ∧ P w' := by
  have hb : (E != 0) = true := by simpa using hE
  clear hE
  go_enter Try.func12, Try.ntmps12
  go_wp2_with fail
  refine hr.mono ?_
  rintro e w' ⟨rfl, hP⟩
  have HP := Lib.hid hP; clear hP hr
  go_wp2
  go_ret2
  exact ⟨rfl, HP.out⟩

set_option maxHeartbeats 400000 in
theorem send_shut (d g : Nat) (conn : Int) (s : Bool) (data : List UInt8) (w : World)
    (hr : Calls Try.prog 27 #[.pointer (some ⟨d, 0, none⟩), .int .i64 conn, .int .i64 (sd s)] w fun e w' => e = .returned (.tuple #[.pointer (some ⟨g, 0, none⟩), .int .i64 0]) ∧ w = w')
    (hc : w.cell? ⟨g, po (!s) + 2, none⟩ = some (.bool true)) :
    Calls Try.prog 12 #[.pointer (some ⟨d, 0, none⟩), .int .i64 conn, .int .i64 (sd s), .string ⟨data.toArray⟩] w fun e w' => e = .returned (.tuple #[.int .i64 0, .int .i64 16]) ∧ w = w' := by
  have hf := from_any g s w
  go_enter Try.func12, Try.ntmps12
  go_wp2_with (first | (go_at_call 27; refine hr.mono ?_; rintro e w' ⟨rfl, rfl⟩) | (go_at_call 28; refine hf.mono ?_; rintro e w' ⟨rfl, rfl⟩))
  go_ret2
  exact ⟨rfl, rfl⟩

set_option maxRecDepth 100000 in
set_option maxHeartbeats 1000000 in
theorem send_ok (d g : Nat) (vv : Bool → Value) (K : LK) (conn : Int) (s : Bool) (data : List UInt8) (w : World) (h : LAt w g vv K) (hs : (K.way (!s)).shut = false) (hl : (K.way (!s)).bytes.length ≤ 65536) (hd : data.length ≤ 9223372036854775807)
    (hr : Calls Try.prog 27 #[.pointer (some ⟨d, 0, none⟩), .int .i64 conn, .int .i64 (sd s)] w fun e w' => e = .returned (.tuple #[.pointer (some ⟨g, 0, none⟩), .int .i64 0]) ∧ w = w') :
    Calls Try.prog 12 #[.pointer (some ⟨d, 0, none⟩), .int .i64 conn, .int .i64 (sd s), .string ⟨data.toArray⟩] w fun e w' => e = .returned (.tuple #[.int .i64 (K.sent s data), .int .i64 0]) ∧ Turned g vv w (K.send s data) w' := by
  have hf := from_any g s w
  have hw := h.wat (!s)
  have hsz := size_any g (po (!s)) _ _ w hw.c0 hw.row
  have c2 := hw.c2
  rw [hs] at c2
  have hk : K.sent s data ≤ data.length := Nat.min_le_left _ _
  have hk2 : K.sent s data ≤ 65536 - (K.way (!s)).bytes.length := Nat.min_le_right _ _
  have HP := Lib.hid (put_any g vv K (!s) (data.take (K.sent s data)) w.drew h.drew (by rw [List.length_take]; omega))
  have HX := Lib.hid (extract_take data (K.sent s data))
  have hm : min (data.length : Int) (65536 - ((K.way (!s)).bytes.length : Int)) = (K.sent s data : Int) := by unfold LK.sent; omega
  have hk0 : (0 : Int) ≤ (K.sent s data : Int) := by omega
  have hk1 : (K.sent s data : Int) ≤ (data.length : Int) := by omega
  have hl' : ((K.way (!s)).bytes.length : Int) ≤ 65536 := by omega
  have HM := Lib.hid hm
  clear hm hw h hk hk2 hs hl
  go_enter Try.func12, Try.ntmps12
  go_wp2_with (first | (go_at_call 27; refine hr.mono ?_; rintro e w' ⟨rfl, rfl⟩) | (go_at_call 28; refine hf.mono ?_; rintro e w' ⟨rfl, rfl⟩) | (go_at_call 29; refine hsz.mono ?_; rintro e w' ⟨rfl, rfl⟩))
  all_goals
    have e := HM.out
    first
      | (have e2 : (65536 - ((K.way (!s)).bytes.length : Int)) = (K.sent s data : Int) := (by omega); rw [e2]; clear e2)
      | (have e2 : (data.length : Int) = (K.sent s data : Int) := (by omega); rw [e2]; clear e2)
    clear e
    go_still_tail 6, (by kernel_rfl)
    change wpList _ _ _ _ _ (World.drew _)
    go_wp2_with fail
    rw [HX.out]
    refine HP.out.mono ?_
    rintro e w' ⟨rfl, ht⟩
    have HT := Lib.hid ht.drew
    clear ht
    go_wp2
    go_ret2
    exact ⟨rfl, HT.out⟩

theorem Turned.post {d : Nat} {R : Rp} {S : NS} {w w' : World} (h : At w d R S) {n : Int} {K K' : LK} (hK : S.link n = some K) (ht : Turned (R.rc n).1 (R.rc n).2 w K' w') : Post d R S w (S.setL n K') w' := by
  obtain ⟨vv', h1, h2, h3⟩ := ht
  exact (PRlink h hK h2 h1 h3).post

theorem send_any (d : Nat) (R : Rp) (S : NS) (conn side : Int) (data : List UInt8) (w : World) (h : At w d R S) (hW : WF S) (hw : (Lit.int .i64 conn).wf = true) (hd : data.length ≤ 9223372036854775807) :
    Calls Try.prog 12 #[.pointer (some ⟨d, 0, none⟩), .int .i64 conn, .int .i64 side, .string ⟨data.toArray⟩] w fun e w' => e = .returned (.tuple #[.int .i64 (S.send conn side data).1.1, .int .i64 (S.send conn side data).1.2]) ∧ Post d R S w (S.send conn side data).2 w' := by
  rcases case_of S conn side with hn | ⟨s, K, rfl, hK, hc⟩ | ⟨s, K, rfl, hK, hc⟩
  · have e : S.send conn side data = ((0, 14), S) := by unfold NS.send; rw [find_eq_none hn]
    rw [e]
    exact send_err d conn side data 14 _ w (by omega) ((reach_no d R S conn side w h hw hn).mono fun e w' ⟨h1, h2⟩ => ⟨h1, h2 ▸ Post.refl h⟩)
  · have e : S.send conn (sd s) data = ((0, 17), S.tell conn K s) := by unfold NS.send; rw [find_eq_some rfl hK]; simp only [hc, if_true]
    rw [e]
    exact send_err d conn (sd s) data 17 _ w (by omega) (reach_cut d R S conn s K w h hW.right hw hK hc)
  · have hr := reach_ok d R S conn s K w h hw hK hc
    have hl := (h.lat hK).2
    cases hs : (K.way (!s)).shut
    · have e : S.send conn (sd s) data = (((K.sent s data : Int), 0), S.setL conn (K.send s data)) := by unfold NS.send; rw [find_eq_some rfl hK]; simp [hc, hs]
      rw [e]
      exact (send_ok d _ _ K conn s data w hl hs (hW.way conn K (!s) hK).2 hd hr).mono fun e w' ⟨h1, h2⟩ => ⟨h1, h2.post h hK⟩
    · have e : S.send conn (sd s) data = ((0, 16), S) := by unfold NS.send; rw [find_eq_some rfl hK]; simp [hc, hs]
      rw [e]
      refine (send_shut d _ conn s data w hr ?_).mono fun e w' ⟨h1, h2⟩ => ⟨h1, h2 ▸ Post.refl h⟩
      rw [(hl.wat (!s)).c2, hs]

end Go.Proofs.Ythcpdeffgdaieaa
