/- Write. -/
import Derived.Test.YtpeafckomahjgaaGreatDoorDB1
namespace Go.Proofs.YtpeafckomahjgaaGreatDoor
open Go.RowKit Go.Maps Go.Sort
set_option linter.unusedVariables false

theorem mixed : Tryz.prog.follows .mixedOrders = true := by kernel_rfl

theorem At.regrown {w : World} {d : Nat} {R : Rp} {S : AS} (h : At w d R S) (dd : Nat) (os : Array Obj) : At (grow (redrawn w dd) os) d R S := h.below (below_regrown w dd os)

theorem on_of {on : Bool} {ss : List (List UInt8)} (h : checkOf on ss = 0) : on = true := by
  cases on
  · simp [checkOf] at h
  · rfl

theorem run_look_any {w : World} {b n : Nat} {D : DU} (h : w.ownsMap Tryz.prog 9 (plainElem Tryz.prog 3) b n D) {l : List UInt8} (hl : l.length ≤ maxLen) {o : Option Int} (hc : look D l = o) :
    (Instr.lookup 75 (.map (some b)) (.string ⟨l.toArray⟩) true).run Tryz.prog w = .ok (.tuple #[.int .i64 (o.getD 0), .bool o.isSome]) w := by
  cases o with
  | none => exact run_look_none h hl hc
  | some c => exact run_look_some h hl hc

/-- append of a text to a file's bytes. -/
theorem run_app {w : World} {v : Value} {n : Nat} {xs : List Value} (h : w.ownsRow 0 5 1 v n xs) (l : List UInt8) (hb : n + l.length ≤ 140737488355328) (ty : TypeId) :
    ∃ v' w', (Builtin.append_ #[63, 9] ty #[v, .string ⟨l.toArray⟩]).run Tryz.prog w = .ok v' w' ∧ w'.ownsRow 0 5 1 v' (n + l.length) (xs ++ l.map byteV) ∧ w.grownBy w' v.ownBlock ∧ ∀ k, v'.ownBlock = some k → v.ownBlock = some k ∨ w.heap.size ≤ k := by
  obtain ⟨i0, hi, hz, hs, hby⟩ := info_parts info5
  have hsz : (⟨l.toArray⟩ : ByteArray).size = l.length := by simp [ByteArray.size]
  have hsc : Lib.strCells ⟨l.toArray⟩ = l.map byteV := by simp [Lib.strCells, byteV]
  obtain ⟨v', w', hr, ho, hg, hnil⟩ := Lib.run_append_own_string w 0 63 9 ty 5 i0 Tryz.underlying63 Tryz.underlying9 hi hz hs hby v n xs h ⟨l.toArray⟩ (by rw [hsz]; unfold maxLen; omega) (by rw [hsz]; exact hb) (Nat.zero_le _)
  rw [hsz, hsc] at ho
  refine ⟨v', w', hr, ho, hg, fun k hk => ?_⟩
  rw [hsz] at hnil
  rcases h.2 with ⟨rfl, rfl⟩ | ⟨g, cap, cur, rfl, hbg, hh, hnc, hcm, hcs, ht⟩
  · by_cases h0 : l.length = 0
    · rw [hnil.2 ⟨rfl, h0⟩] at hk; simp [Value.ownBlock] at hk
    · have hr2 := run_append_nil_string w 63 9 ty 5 i0 _ Tryz.underlying63 Tryz.underlying9 hi hz ⟨l.toArray⟩ (by rw [hsz]; omega) (by rw [hsz]; omega) (by rw [hsz, hby]; omega)
      rw [hr2] at hr
      injection hr with e1 e2
      subst e1
      simp [Value.ownBlock] at hk
      exact .inr (by omega)
  · by_cases hroom : n + l.length ≤ cap
    · have hr2 := Lib.run_append_room_string (P := Tryz.prog) w 63 9 ty 5 i0 Tryz.underlying63 Tryz.underlying9 hi hs g n cap cur hh ⟨l.toArray⟩ (by rw [hsz]; exact hroom) (by rw [hsz]; omega)
      rw [hr2] at hr
      injection hr with e1 e2
      subst e1
      exact .inl hk
    · have hcells := h.cells (g := g) rfl
      have hr2 := Lib.run_append_grow_string (P := Tryz.prog) w 63 9 ty 5 i0 _ Tryz.underlying63 Tryz.underlying9 hi hz ⟨g, 0, none⟩ n cap xs (by rw [hs]; exact h.1) hcells ⟨l.toArray⟩ (by rw [hsz]; omega) (by rw [hsz]; omega) (by rw [hsz, hby]; exact growslice_fits (by omega) (by omega))
      rw [hr2] at hr
      injection hr with e1 e2
      subst e1
      simp [Value.ownBlock] at hk
      exact .inr (by omega)

section
variable {ops : Array Oper} {rest : List Oper} {o : Oper} {a : Act} {Q : Exit → Act → World → Prop} {w : World}
theorem wpList_app (hgd : o.guard = none) (sl x : Operand) (ho : o.op = .call { callee := .builtin .append, args := #[sl, x], argTypes := #[63, 9] })
    (v : Value) (n : Nat) (xs : List Value) (l : List UInt8) (hs : a.eval sl = v) (hx : a.eval x = .string ⟨l.toArray⟩) (hown : w.ownsRow 0 5 1 v n xs) (hb : n + l.length ≤ 140737488355328)
    (h : ∀ A c w', w'.ownsRow 0 5 1 (.slice A (n + l.length) c) (n + l.length) (xs ++ l.map byteV) → w.grownBy w' v.ownBlock → (∀ k, (Value.slice A (n + l.length) c).ownBlock = some k → v.ownBlock = some k ∨ w.heap.size ≤ k) → wpList Tryz.prog ops Q rest (a.put o.dst (.slice A (n + l.length) c)) w') : wpList Tryz.prog ops Q (o :: rest) a w := by
  refine wpList_plain hgd fun K hK => ?_
  obtain ⟨v', w', hr, h2, h3, h4⟩ := run_app hown l hb o.type
  obtain ⟨A, c, rfl⟩ := len_row h2
  unfold Oper.wp execOp
  simp only [ho, resolve, invoke, builtin, Sem.run_bind, Sem.run_pure, Result.andThen_ok, List.map_toArray, List.map_cons, List.map_nil, hs, hx, hr]
  exact hK _ _ (h A c w' h2 h3 h4)
end

/-- What holds of a disk's used bytes. -/
theorem used_bounds {w : World} {d : Nat} {R : Rp} {S : AS} (h : At w d R S) (hW : WF S) (hsz : Maps.size S.names ≤ 1000000) : usedOf S.file S.names ≤ 16777216000000 ∧ 0 ≤ usedOf S.file S.names := by
  refine ⟨?_, ?_⟩
  · have := usedOf_le (f := S.file) (M := 16777216) (fun n r hr => by have := (hW.file n r hr).2.2.2; omega) (by omega) S.names
    omega
  · obtain ⟨es, he, _⟩ := h.names.tidy law9
    rw [he]; exact sum_nonneg _ _
theorem used_regrown {w : World} {d b : Nat} {R : Rp} {S : AS} (h : At w d R S) (hW : WF S) (e1 : R.nm = some b) (hsz : Maps.size S.names ≤ 1000000) (dd : Nat) (os : Array Obj) :
    Calls Tryz.prog 38 #[.pointer (some ⟨d, 0, none⟩)] (grow (redrawn w dd) os) fun e w'' => e = .returned (.int .i64 (usedOf S.file S.names)) ∧ ∃ p : Regrown, w'' = grow (redrawn w p.d) p.os :=
  Calls.regrown_of ((used_any d R S b (grow (redrawn w dd) os) (h.regrown dd os) hW e1 hsz).mono fun e w' ⟨he, hf⟩ => ⟨he, hf.below⟩)

set_option maxRecDepth 100000 in
set_option maxHeartbeats 1000000 in
theorem write_full1 (d : Nat) (R : Rp) (S : AS) (l : List UInt8) (o : Option Int) (data : ByteArray) (w : World) (h : At w d R S) (hW : WF S) (hl : l.length ≤ maxLen) (hE : checkOf S.on [l] = 0) (hn : look S.names l = o)
    (hsz : Maps.size S.names ≤ 1000000) (hd : data.size ≤ maxLen) (hfull : S.room < usedOf S.file S.names + data.size) :
    Calls Tryz.prog 27 #[.pointer (some ⟨d, 0, none⟩), .string ⟨l.toArray⟩, .string data] w fun e w' => e = .returned (.int .i64 12) ∧ Fr No w w' := by
  have hcon := check_new d R S l 0 w h hE hl
  have hon := on_of hE
  obtain ⟨nb, fb, e1, e2⟩ := h.onn hon
  obtain ⟨w1, hw1⟩ : ∃ w1, w.alloc (.cells #[.string ⟨l.toArray⟩] 9) = w1 := ⟨_, rfl⟩
  have f1 : Fr No w w1 := by rw [← hw1]; exact (Fr.refl _ w).alloc _
  rw [hw1] at hcon
  have h1 := h.keep f1
  have hnm := h1.names
  rw [e1] at hnm
  have hrun := run_look_any (b := nb) hnm hl hn
  have c5 := (cells_all h1).2.2.2.2.2.1
  rw [e1] at c5
  have hused := used_regrown h1 hW e1 hsz
  have HU := Lib.hid hused
  have c0 : ∀ dd os, (grow (redrawn w1 dd) os).cell? ⟨d, 0, none⟩ = some (.int .i64 S.room) := fun dd os => (cells_all (h1.regrown dd os)).1
  have hU := used_bounds h hW hsz
  obtain ⟨hU1, hU2⟩ := hU
  have hr := hW.room
  generalize hu : usedOf S.file S.names = U at *
  have hu' := Lib.hid hu
  unfold maxLen at hd
  have t1 : IntKind.i64.wrap (S.room - U) = S.room - U := IntWalk.i64_in _ (by omega)
  have t2 : decide (S.room - U < (data.size : Int)) = true := by simp; omega
  have HF := Lib.hid f1
  have HC := Lib.hid hcon
  clear hused hu hn hE h hW hon e1 e2 h1 hnm f1 hl hcon
  go_enter Tryz.func27, Tryz.ntmps27
  go_wp2_with fail
  refine HC.out.mono ?_
  rintro e w' ⟨rfl, rfl⟩
  go_wp2_with fail
  refine wp_region_quiet_below mixed (by kernel_rfl) ?_
  repeat (first | go_big_quiet_step (exact HU.out _ _) | quiet_step (exact HU.out _ _))
  refine wpQuiet_nil ?_
  rintro w2 ⟨p, rfl⟩
  go_wp2
  go_ret
  exact ⟨rfl, HF.out.trans (Fr.of_below (below_regrown w1 p.d p.os)) fun _ _ hj => hj⟩

end Go.Proofs.YtpeafckomahjgaaGreatDoor
