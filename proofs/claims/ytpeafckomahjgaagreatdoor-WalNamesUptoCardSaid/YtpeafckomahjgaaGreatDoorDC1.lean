/- Settle, Rename, Remove, List, New: by contract. -/
import Derived.Test.YtpeafckomahjgaaGreatDoorDB9
namespace Go.Proofs.YtpeafckomahjgaaGreatDoor
open Go.RowKit Go.Maps Go.Sort
set_option linter.unusedVariables false

set_option maxHeartbeats 400000 in
theorem check_zero (d : Nat) (w : World) (hon : w.cell? ⟨d, 1, none⟩ = some (.bool true)) :
    Calls Tryz.prog 73 #[.pointer (some ⟨d, 0, none⟩), .slice none 0 0] w fun e w' => e = .returned (.int .i64 0) ∧ w = w' := by
  go_enter Tryz.func73, Tryz.ntmps73
  go_wp2
  refine wp_loop_rounds 1 ?_
  rw [rounds_succ]
  go_wp2
  go_ret
  exact ⟨rfl, rfl⟩

/-! ### Settle -/
set_option maxHeartbeats 400000 in
theorem settle_off (d : Nat) (w : World) (hon : w.cell? ⟨d, 1, none⟩ = some (.bool false)) :
    Calls Tryz.prog 30 #[.pointer (some ⟨d, 0, none⟩)] w fun e w' => e = .returned (.int .i64 13) ∧ w = w' := by
  have hcon := check_off d (.bool true) 0 0 none w hon
  clear hon
  go_enter Tryz.func30, Tryz.ntmps30
  go_wp2_with fail
  refine hcon.mono ?_
  rintro e w' ⟨rfl, rfl⟩
  go_wp2
  go_ret
  exact ⟨rfl, rfl⟩

set_option maxHeartbeats 400000 in
theorem settle_out (d : Nat) (R : Rp) (S : AS) (w : World) (h : At w d R S) (hl : S.left ≤ 9223372036854775807) (hon : S.on = true) (he : S.stepE = 13) :
    Calls Tryz.prog 30 #[.pointer (some ⟨d, 0, none⟩)] w fun e w' => e = .returned (.int .i64 13) ∧ PR d R S w R S.step w' := by
  have c1 := (cells_all h).2.1
  rw [hon] at c1
  have hcon := check_zero d w c1
  have hst := step_ok d R S w h hl 13 he
  clear c1 hon he
  go_enter Tryz.func30, Tryz.ntmps30
  go_wp2_with fail
  refine hcon.mono ?_
  rintro e w' ⟨rfl, rfl⟩
  go_wp2_with fail
  refine hst.mono ?_
  rintro e w2 ⟨rfl, h2, f2⟩
  have P2 := (PR.own h2 f2 (step_same S).2.2.2.1 : PR d R S w R S.step w2)
  clear h2 f2 hst hcon h
  go_wp2
  go_ret
  exact ⟨rfl, P2⟩

set_option maxHeartbeats 400000 in
theorem settle_ok (d : Nat) (R : Rp) (S : AS) (w : World) (h : At w d R S) (hW : WF S) (hsz : Maps.size S.names ≤ 1000000) (hon : S.on = true) (he : S.stepE = 0) :
    Calls Tryz.prog 30 #[.pointer (some ⟨d, 0, none⟩)] w fun e w' => e = .returned (.int .i64 0) ∧ Post d R S w S.step.settled w' := by
  have c1 := (cells_all h).2.1
  rw [hon] at c1
  have hcon := check_zero d w c1
  have hst := step_ok d R S w h hW.left.2 0 he
  obtain ⟨nb, fb, e1, e2⟩ := h.onn hon
  have hset := fun w2 (h2 : At w2 d R S.step) => settle_any d R S.step nb w2 h2 (by rw [(step_same S).1, (step_same S).2.2.2.1]; exact hW.ref) e1 (by rw [(step_same S).1]; exact hsz)
  have HSET := Lib.hid hset
  clear c1 hon he hset e1 e2 hsz hW
  go_enter Tryz.func30, Tryz.ntmps30
  go_wp2_with fail
  refine hcon.mono ?_
  rintro e w' ⟨rfl, rfl⟩
  go_wp2_with fail
  refine hst.mono ?_
  rintro e w2 ⟨rfl, h2, f2⟩
  have P2 := (PR.own h2 f2 (step_same S).2.2.2.1 : PR d R S w R S.step w2)
  have HP2 := Lib.hid P2
  clear h2 f2 hst hcon h P2
  go_wp2_with fail
  refine (HSET.out w2 HP2.out.at_).mono ?_
  rintro e w3 ⟨rfl, R3, P3, hx⟩
  have P4 := HP2.out.trans P3
  clear P3 hx HSET HP2
  go_wp2
  go_ret
  exact ⟨rfl, R3, P4⟩

/-! ### Remove -/
def AS.removed (S : AS) (l : List UInt8) : AS := S.altered { frm := l, to := [], file := 0 }

set_option maxHeartbeats 400000 in
theorem remove_err (d : Nat) (l : List UInt8) (v : Option Addr) (E : Int) (w : World) (hE : E ≠ 0)
    (hfind : Calls Tryz.prog 78 #[.pointer (some ⟨d, 0, none⟩), .string ⟨l.toArray⟩] w fun e w' => e = .returned (.tuple #[.pointer v, .int .i64 E]) ∧ Fr No w w') :
    Calls Tryz.prog 252 #[.pointer (some ⟨d, 0, none⟩), .string ⟨l.toArray⟩] w fun e w' => e = .returned (.int .i64 E) ∧ Fr No w w' := by
  have hne2 : (E != 0) = true := by simpa using hE
  go_enter Tryz.func252, Tryz.ntmps252
  go_wp2_with fail
  refine hfind.mono ?_
  rintro e w' ⟨rfl, hf⟩
  have HF := Lib.hid hf; clear hf hfind
  go_wp2
  go_ret
  exact ⟨rfl, HF.out⟩

set_option maxHeartbeats 400000 in
theorem remove_some (d : Nat) (R : Rp) (S : AS) (l : List UInt8) (n : Int) (r : FR) (w : World) (h : At w d R S) (hW : WF S) (hl : l.length ≤ maxLen) (hE : checkOf S.on [l] = 0) (hn : look S.names l = some n) (hr : S.file n = some r) (hsz : Maps.size S.names ≤ 1000000) (hll : S.loose.length < 3000000000000) :
    Calls Tryz.prog 252 #[.pointer (some ⟨d, 0, none⟩), .string ⟨l.toArray⟩] w fun e w' => e = .returned (.int .i64 (S.removed l).stepE) ∧ Post d R S w (S.removed l).step w' := by
  have hcon := find_some d R S l n r w h hl hE hn hr (hW.wf hr)
  obtain ⟨nb, fb, e1, e2⟩ := h.onn (on_of hE)
  have hal := fun w1 (h1 : At w1 d R S) => alter_any d R S { frm := l, to := [], file := 0 } nb w1 h1 e1 hl (by simp [maxLen]) (by unfold maxLen; omega) (show (Lit.int .i64 0).wf = true by decide) hll
  have hst := fun R' w2 (h2 : At w2 d R' (S.removed l)) => step_any d R' (S.removed l) w2 h2 hW.left.2
  have HAL := Lib.hid hal
  have HST := Lib.hid hst
  clear hal hst hE hn hr hW hsz hll hl e1 e2
  go_enter Tryz.func252, Tryz.ntmps252
  go_wp2_with fail
  refine hcon.mono ?_
  rintro e w1 ⟨rfl, hf⟩
  have P1 := PR.same h hf
  clear hcon h hf
  go_wp2_with fail
  refine (HAL.out w1 P1.at_).mono ?_
  rintro e w2 ⟨rfl, R2, P2⟩
  have P3 := P1.trans P2
  clear P1 P2 HAL
  go_wp2_with fail
  refine (HST.out R2 w2 P3.at_).mono ?_
  rintro e w3 ⟨rfl, h3, f3⟩
  have P4 := P3.trans (PR.own h3 f3 (step_same _).2.2.2.1)
  clear P3 h3 f3 HST
  go_wp2
  go_ret
  exact ⟨rfl, R2, P4⟩

/-! ### List -/
theorem list_nil (w : World) : Calls Tryz.prog 44 #[.pointer none] w fun e w' => e = .returned (.slice none 0 0) ∧ w = w' := by
  go_enter Tryz.func44, Tryz.ntmps44
  go_wp2_with (go_at_call 49; refine (on_nil _).mono ?_; rintro e w' ⟨rfl, rfl⟩)
  go_ret
  exact ⟨rfl, rfl⟩
theorem list_off (d : Nat) (R : Rp) (S : AS) (w : World) (h : At w d R S) (hon : S.on = false) : Calls Tryz.prog 44 #[.pointer (some ⟨d, 0, none⟩)] w fun e w' => e = .returned (.slice none 0 0) ∧ w = w' := by
  have hcon := on_any d R S w h
  rw [hon] at hcon
  clear h hon
  go_enter Tryz.func44, Tryz.ntmps44
  go_wp2_with (go_at_call 49; refine hcon.mono ?_; rintro e w' ⟨rfl, rfl⟩)
  go_ret
  exact ⟨rfl, rfl⟩
set_option maxHeartbeats 400000 in
theorem list_on (d : Nat) (R : Rp) (S : AS) (w : World) (h : At w d R S) (hon : S.on = true) (hsz : Maps.size S.names ≤ 1000000) :
    Calls Tryz.prog 44 #[.pointer (some ⟨d, 0, none⟩)] w fun e w' => ∃ A c, e = .returned (.slice A (sortedKeys S.names).length c) ∧ w'.ownsRow w.heap.size 9 1 (.slice A (sortedKeys S.names).length c) (sortedKeys S.names).length ((sortedKeys S.names).map encStr) ∧ Fr No w w' := by
  have hcon := on_any d R S w h
  rw [hon] at hcon
  obtain ⟨nb, fb, e1, e2⟩ := h.onn hon
  have c5 := (cells_all h).2.2.2.2.2.1
  rw [e1] at c5
  have hnm := h.names
  rw [e1] at hnm
  have hs := sorted_any nb _ S.names (plainElem Tryz.prog 3) w hnm (by unfold maxLen; omega) (by omega)
  have HS := Lib.hid hs
  clear h hon hsz e1 e2 hnm hs
  go_enter Tryz.func44, Tryz.ntmps44
  go_wp2_with (go_at_call 49; refine hcon.mono ?_; rintro e w' ⟨rfl, rfl⟩)
  refine HS.out.mono ?_
  rintro e w2 ⟨v, ss, rfl, hperm, hrow, hnil, hb⟩
  have hkeys : ss.mergeSort (fun x y => decide (x ≤ y)) = sortedKeys S.names := mergeSort_of_perm hperm
  have hlen : ss.length = (sortedKeys S.names).length := by rw [← hkeys, List.length_mergeSort]
  rw [hkeys, hlen] at hrow
  obtain ⟨A, c, rfl⟩ := len_row hrow
  have HR := Lib.hid hrow
  have HB := Lib.hid hb
  clear hperm hrow hnil hb hkeys hlen HS hcon c5
  go_wp2
  go_ret
  exact ⟨A, c, rfl, HR.out, Fr.of_below HB.out⟩


/-! ### Rename -/
def AS.renamed (S : AS) (a b : List UInt8) (n : Int) : AS := S.altered { frm := a, to := b, file := n }

theorem check_new2 (d : Nat) (R : Rp) (S : AS) (a b : List UInt8) (E : Int) (w : World) (h : At w d R S) (hE : checkOf S.on [a, b] = E) (ha : a.length ≤ maxLen) (hb : b.length ≤ maxLen) :
    Calls Tryz.prog 73 #[.pointer (some ⟨d, 0, none⟩), .slice (some ⟨w.heap.size, 0, none⟩) 2 2] (w.alloc (.cells #[.string ⟨a.toArray⟩, .string ⟨b.toArray⟩] 9)) fun e w' => e = .returned (.int .i64 E) ∧ w.alloc (.cells #[.string ⟨a.toArray⟩, .string ⟨b.toArray⟩] 9) = w' := by
  refine (check_two d w.heap.size ⟨a.toArray⟩ ⟨b.toArray⟩ _ S.on (cells_all (h.alloc _)).2.1 (by simpa [ByteArray.size] using ha) (by simpa [ByteArray.size] using hb) (by simp) (by simp)).mono ?_
  rintro e w' ⟨he, hw⟩
  exact ⟨by rw [he, ← hE], hw⟩

/-! ### New -/
def AS.new (room : Int) : AS := { room := roomOf room, on := true, armed := false, left := 0, steps := 0, last := 0, names := .map [], firm := .map [], loose := [], file := fun _ => none }

def AS.empty : AS := { room := 0, on := true, armed := false, left := 0, steps := 0, last := 0, names := .map [], firm := .map [], loose := [], file := fun _ => none }
def Rp.new (b : Nat) : Rp := { nm := some b, fm := none, fb := some (b + 1), lv := .slice none 0 0, rc := fun _ => (0, .slice none 0 0), FD := .map [] }
theorem new_mem (w : World) : At (((w.alloc (.map #[] 0)).alloc (.map #[] 0)).alloc (.cells (cellsOf AS.empty (Rp.new w.heap.size)) 84)) (w.heap.size + 1 + 1) (Rp.new w.heap.size) AS.empty ∧
    Fr No w (((w.alloc (.map #[] 0)).alloc (.map #[] 0)).alloc (.cells (cellsOf AS.empty (Rp.new w.heap.size)) 84)) := by
  have s1 : (w.alloc (.map #[] 0)).heap.size = w.heap.size + 1 := by simp
  have s2 : ((w.alloc (.map #[] 0)).alloc (.map #[] 0)).heap.size = w.heap.size + 1 + 1 := by simp
  have m1 := World.ownsMap_made (H := Unit) w Tryz.prog 9 (plainElem Tryz.prog 3)
  have m2 := World.ownsMap_made (H := Unit) (w.alloc (.map #[] 0)) Tryz.prog 3 ptrElem
  rw [s1] at m2
  refine ⟨{
    blk := by have := Blk.new ((w.alloc (.map #[] 0)).alloc (.map #[] 0)) 84 (cellsOf AS.empty (Rp.new w.heap.size)); rw [s2] at this; exact this
    names := (m1.alloc _).alloc _
    firm := rfl
    files := m2.alloc _
    loose := World.ownsRow_nil _ 0 108 3
    fd := fun n => rfl
    ne1 := fun b _ e => by cases e
    ne2 := fun b h e => by
      have h1 := Option.some.inj (show some w.heap.size = some b from h)
      have h2 := Option.some.inj (show some (w.heap.size + 1) = some b from e)
      omega
    ne3 := fun b h e => by cases h
    ap := fun n m r q _ h _ => by cases h
    onn := fun _ => ⟨_, _, rfl, rfl⟩ }, (((Fr.refl _ w).alloc _).alloc _).alloc _⟩

set_option maxHeartbeats 1000000 in
theorem new_any (room : Int) (w : World) :
    Calls Tryz.prog 11 #[.int .i64 room] w fun e w' => ∃ d R, e = .returned (.pointer (some ⟨d, 0, none⟩)) ∧ At w' d R (AS.new room) ∧ Fr No w w' ∧ ∀ k, foot d R (AS.new room) k → w.heap.size ≤ k := by
  have hmm := @run_makeMap Tryz.prog
  go_enter Tryz.func11, Tryz.ntmps11
  go_wp2_with fail
  obtain ⟨h0, f0⟩ := new_mem w
  refine (limit_any _ _ AS.empty room _ h0).mono ?_
  rintro e w' ⟨rfl, h1, f1⟩
  have H1 := Lib.hid h1
  have HF0 := Lib.hid f0
  have HF1 := Lib.hid f1
  clear h0 f0 h1 f1
  go_wp2
  go_ret
  refine ⟨w.heap.size + 1 + 1, Rp.new w.heap.size, rfl, H1.out, HF0.out.trans HF1.out (fun j hj hf => ?_), fun k hk => ?_⟩
  · have : j = w.heap.size + 1 + 1 := hf
    omega
  · rcases hk with hk | hk | hk | hk | hk | ⟨n, r, hr, _⟩
    · omega
    · have := Option.some.inj (show some w.heap.size = some k from hk); omega
    · cases hk
    · have := Option.some.inj (show some (w.heap.size + 1) = some k from hk); omega
    · simp [Rp.new, Value.ownBlock] at hk
    · cases hr

end Go.Proofs.YtpeafckomahjgaaGreatDoor
