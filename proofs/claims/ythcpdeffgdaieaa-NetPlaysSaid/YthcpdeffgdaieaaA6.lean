/- Connections found, reached, let go. -/
import Derived.Test.YthcpdeffgdaieaaA5
namespace Go.Proofs.Ythcpdeffgdaieaa
open Go.RowKit Go.Maps
set_option linter.unusedVariables false

theorem zero61 (w : World) : (zeroValue 61).run Try.prog w = .ok (.pointer none) w := by kernel_rfl

theorem run_linkSome {w : World} {b n : Nat} {D : DU} (h : w.ownsMap Try.prog 3 ptrElem b n D) {c : Int} (hw : (Lit.int .i64 c).wf = true) {g : Nat} (hc : ∀ z, D.atKey (.int .i64 c) z = .lit (.int .i64 g)) :
    (Instr.lookup 51 (.map (some b)) (.int .i64 c) false).run Try.prog w = .ok (.pointer (some ⟨g, 0, none⟩)) w := by
  obtain ⟨v, ps, hr, hv⟩ := h.lookup law3 Try.underlying51 (zero61 w) (zd := .nil) (zp := []) rfl (key3 c hw)
  rw [hc] at hv
  rw [hr, ptrElem_inv hv]
theorem ptrElem_nil {v : Value} {ps : List MemPlace} (h : ptrElem v = some (.nil, ps)) : v = .pointer none := by
  unfold ptrElem at h
  split at h
  · rfl
  · simp at h
  · simp at h
theorem run_linkNone {w : World} {m : Option Nat} {D : DU} (h : MapAt w Try.prog 3 ptrElem m D) {c : Int} (hw : (Lit.int .i64 c).wf = true) (hc : has D (.int .i64 c) = false) :
    (Instr.lookup 51 (.map m) (.int .i64 c) false).run Try.prog w = .ok (.pointer none) w := by
  cases m with
  | none =>
    exact Maps.look_nil (P := Try.prog) false law3 Try.underlying51 (zero61 w) (key3 c hw)
  | some b =>
    have h' : w.ownsMap Try.prog 3 ptrElem b (Maps.size D) D := h
    obtain ⟨v, ps, hr, hv⟩ := h'.lookup law3 Try.underlying51 (zero61 w) (zd := .nil) (zp := []) rfl (key3 c hw)
    rw [atKey_of_not_has hc] at hv
    rw [hr, ptrElem_nil hv]

set_option maxHeartbeats 400000 in
theorem find_nil (conn side : Int) (w : World) :
    Calls Try.prog 37 #[.pointer none, .int .i64 conn, .int .i64 side] w fun e w' => e = .returned (.pointer none) ∧ w = w' := by
  go_enter Try.func37, Try.ntmps37
  go_wp2
  go_ret
  exact ⟨rfl, rfl⟩

set_option maxHeartbeats 400000 in
theorem find_bad (d : Nat) (conn side : Int) (w : World) (h0 : side ≠ 0) (h1 : side ≠ 1) :
    Calls Try.prog 37 #[.pointer (some ⟨d, 0, none⟩), .int .i64 conn, .int .i64 side] w fun e w' => e = .returned (.pointer none) ∧ w = w' := by
  have e0 : (side != 0) = true := by simpa using h0
  have e1 : (side != 1) = true := by simpa using h1
  clear h0 h1
  go_enter Try.func37, Try.ntmps37
  go_wp2
  go_ret
  exact ⟨rfl, rfl⟩

set_option maxHeartbeats 400000 in
theorem find_run (d : Nat) (m : Option Nat) (conn : Int) (s : Bool) (v : Value) (w : World) (hc : w.cell? ⟨d, 0, none⟩ = some (.map m)) (hr : (Instr.lookup 51 (.map m) (.int .i64 conn) false).run Try.prog w = .ok v w) :
    Calls Try.prog 37 #[.pointer (some ⟨d, 0, none⟩), .int .i64 conn, .int .i64 (sd s)] w fun e w' => e = .returned v ∧ w = w' := by
  cases s
  · show Calls Try.prog 37 #[.pointer (some ⟨d, 0, none⟩), .int .i64 conn, .int .i64 0] w fun e w' => e = .returned v ∧ w = w'
    go_enter Try.func37, Try.ntmps37
    go_wp2
    go_ret
    exact ⟨rfl, rfl⟩
  · show Calls Try.prog 37 #[.pointer (some ⟨d, 0, none⟩), .int .i64 conn, .int .i64 1] w fun e w' => e = .returned v ∧ w = w'
    go_enter Try.func37, Try.ntmps37
    go_wp2
    go_ret
    exact ⟨rfl, rfl⟩

theorem find_no (d : Nat) (R : Rp) (S : NS) (conn : Int) (s : Bool) (w : World) (h : At w d R S) (hw : (Lit.int .i64 conn).wf = true) (hK : S.link conn = none) :
    Calls Try.prog 37 #[.pointer (some ⟨d, 0, none⟩), .int .i64 conn, .int .i64 (sd s)] w fun e w' => e = .returned (.pointer none) ∧ w = w' := by
  have hf := h.fd conn
  rw [hK] at hf
  exact find_run d R.m conn s _ w (h.blk.cell 0) (run_linkNone h.map hw hf)
theorem find_yes (d : Nat) (R : Rp) (S : NS) (conn : Int) (s : Bool) (K : LK) (w : World) (h : At w d R S) (hw : (Lit.int .i64 conn).wf = true) (hK : S.link conn = some K) :
    Calls Try.prog 37 #[.pointer (some ⟨d, 0, none⟩), .int .i64 conn, .int .i64 (sd s)] w fun e w' => e = .returned (.pointer (some ⟨(R.rc conn).1, 0, none⟩)) ∧ w = w' := by
  obtain ⟨b, hb⟩ := h.mapSome hK
  have hm := h.map
  have c0 := h.blk.cell 0
  rw [hb] at hm
  refine find_run d (some b) conn s _ w (by rw [c0, hb]; rfl) (run_linkSome (b := b) hm hw (h.lat hK).1)

/-! ### reach -/
set_option maxHeartbeats 400000 in
theorem reach_nil (conn side : Int) (w : World) :
    Calls Try.prog 27 #[.pointer none, .int .i64 conn, .int .i64 side] w fun e w' => e = .returned (.tuple #[.pointer none, .int .i64 1]) ∧ w = w' := by
  go_enter Try.func27, Try.ntmps27
  go_wp2
  go_ret2
  exact ⟨rfl, rfl⟩

set_option maxHeartbeats 400000 in
theorem reach_none (d : Nat) (conn side : Int) (w : World) (hf : Calls Try.prog 37 #[.pointer (some ⟨d, 0, none⟩), .int .i64 conn, .int .i64 side] w fun e w' => e = .returned (.pointer none) ∧ w = w') :
    Calls Try.prog 27 #[.pointer (some ⟨d, 0, none⟩), .int .i64 conn, .int .i64 side] w fun e w' => e = .returned (.tuple #[.pointer none, .int .i64 14]) ∧ w = w' := by
  go_enter Try.func27, Try.ntmps27
  go_wp2_with (go_at_call 37; refine hf.mono ?_; rintro e w' ⟨rfl, rfl⟩)
  go_ret2
  exact ⟨rfl, rfl⟩

set_option maxHeartbeats 400000 in
theorem reach_ok (d : Nat) (R : Rp) (S : NS) (conn : Int) (s : Bool) (K : LK) (w : World) (h : At w d R S) (hw : (Lit.int .i64 conn).wf = true) (hK : S.link conn = some K) (hc : K.cut = false) :
    Calls Try.prog 27 #[.pointer (some ⟨d, 0, none⟩), .int .i64 conn, .int .i64 (sd s)] w fun e w' => e = .returned (.tuple #[.pointer (some ⟨(R.rc conn).1, 0, none⟩), .int .i64 0]) ∧ w = w' := by
  have hf := find_yes d R S conn s K w h hw hK
  have c6 : w.cell? ⟨(R.rc conn).1, 6, none⟩ = some (.bool false) := by rw [(h.lat hK).2.blk.cell 6, ← hc]; rfl
  clear h hw hK hc
  go_enter Try.func27, Try.ntmps27
  go_wp2_with (go_at_call 37; refine hf.mono ?_; rintro e w' ⟨rfl, rfl⟩)
  go_ret2
  exact ⟨rfl, rfl⟩

/-- A side is told that the connection is cut. -/
def NS.tell (S : NS) (n : Int) (K : LK) (s : Bool) : NS := if K.told (!s) then S.drop n else S.setL n (K.tell s)

theorem tell_cell {g : Nat} {vv : Bool → Value} {K : LK} {w : World} (h : LAt w g vv K) (s : Bool) : LAt (w.setCell ⟨g, to_ s, none⟩ (.bool true)) g vv (K.tell s) ∧ Fr (One g) w (w.setCell ⟨g, to_ s, none⟩ (.bool true)) :=
  h.cell (to_ s) (.bool true) (cells_tell K vv s) fun _ => rfl

theorem PRcell {w w' : World} {d : Nat} {R : Rp} {S : NS} (h : At w d R S) {n : Int} {K K' : LK} (hK : S.link n = some K) (hl : LAt w' (R.rc n).1 (R.rc n).2 K') (hf : Fr (One (R.rc n).1) w w') : Post d R S w (S.setL n K') w' :=
  (PRlink h hK (hf.mono fun k _ hk => .inl hk) hl fun s k hk => .inl (.inr ⟨s, hk⟩)).post

set_option maxHeartbeats 400000 in
theorem reach_cut1 (d : Nat) (R : Rp) (S : NS) (conn : Int) (s : Bool) (K : LK) (w : World) (h : At w d R S) (hw : (Lit.int .i64 conn).wf = true) (hK : S.link conn = some K) (hc : K.cut = true) (ht : K.told (!s) = false) :
    Calls Try.prog 27 #[.pointer (some ⟨d, 0, none⟩), .int .i64 conn, .int .i64 (sd s)] w fun e w' => e = .returned (.tuple #[.pointer none, .int .i64 17]) ∧ Post d R S w (S.tell conn K s) w' := by
  have hf := find_yes d R S conn s K w h hw hK
  have hl := (h.lat hK).2
  have c6 : w.cell? ⟨(R.rc conn).1, 6, none⟩ = some (.bool true) := by rw [hl.blk.cell 6, ← hc]; rfl
  have f7 := hl.blk.frozen 7
  have f8 := hl.blk.frozen 8
  have htl := tell_cell hl s
  have eS : S.tell conn K s = S.setL conn (K.tell s) := by unfold NS.tell; rw [if_neg (by simp [ht])]
  rw [eS]
  have HP := Lib.hid (PRcell h hK htl.1 htl.2)
  cases s
  · have c7 : w.cell? ⟨(R.rc conn).1, 7, none⟩ = some (.bool (K.told false)) := hl.blk.cell 7
    have c8 : w.cell? ⟨(R.rc conn).1, 8, none⟩ = some (.bool false) := by rw [hl.blk.cell 8, ← ht]; rfl
    have hf' : Calls Try.prog 37 #[.pointer (some ⟨d, 0, none⟩), .int .i64 conn, .int .i64 0] w fun e w' => e = .returned (.pointer (some ⟨(R.rc conn).1, 0, none⟩)) ∧ w = w' := hf
    show Calls Try.prog 27 #[.pointer (some ⟨d, 0, none⟩), .int .i64 conn, .int .i64 0] w _
    clear h hw hK hc ht eS hl htl hf
    go_enter Try.func27, Try.ntmps27
    go_wp2_with (go_at_call 37; refine hf'.mono ?_; rintro e w' ⟨rfl, rfl⟩)
    go_ret2
    exact ⟨rfl, HP.out⟩
  · have c7 : w.cell? ⟨(R.rc conn).1, 7, none⟩ = some (.bool false) := by rw [hl.blk.cell 7, ← ht]; rfl
    have c8 : w.cell? ⟨(R.rc conn).1, 8, none⟩ = some (.bool (K.told true)) := hl.blk.cell 8
    have hf' : Calls Try.prog 37 #[.pointer (some ⟨d, 0, none⟩), .int .i64 conn, .int .i64 1] w fun e w' => e = .returned (.pointer (some ⟨(R.rc conn).1, 0, none⟩)) ∧ w = w' := hf
    show Calls Try.prog 27 #[.pointer (some ⟨d, 0, none⟩), .int .i64 conn, .int .i64 1] w _
    clear h hw hK hc ht eS hl htl hf
    go_enter Try.func27, Try.ntmps27
    go_wp2_with (go_at_call 37; refine hf'.mono ?_; rintro e w' ⟨rfl, rfl⟩)
    go_ret2
    exact ⟨rfl, HP.out⟩

/-- What deleting does. -/
theorem Post_del {d : Nat} {R : Rp} {S : NS} {w w' : World} (h : At w d R S) (hr : S.Right) {n : Int} {K : LK} (hK : S.link n = some K) {b : Nat} (hb : R.m = some b) {j : Nat}
    (hown : w'.ownsMap Try.prog 3 ptrElem b j (R.FD.del (.int .i64 n))) (ht : w.mapTurned w' b) : Post d R S w (S.drop n) w' :=
  (PRdrop h hr hK hb (mapTurned_one ht) (owns_tight hown)).post
theorem Post.trans {d : Nat} {R : Rp} {S S1 S2 : NS} {w w1 w2 : World} (h : Post d R S w S1 w1) (k : ∀ R1, At w1 d R1 S1 → Post d R1 S1 w1 S2 w2) : Post d R S w S2 w2 := by
  obtain ⟨R1, h1⟩ := h
  obtain ⟨R2, h2⟩ := k R1 h1.at_
  exact ⟨R2, h1.trans h2⟩

set_option maxHeartbeats 800000 in
theorem reach_cut2 (d : Nat) (R : Rp) (S : NS) (conn : Int) (s : Bool) (K : LK) (w : World) (h : At w d R S) (hr : S.Right) (hw : (Lit.int .i64 conn).wf = true) (hK : S.link conn = some K) (hc : K.cut = true) (ht : K.told (!s) = true) :
    Calls Try.prog 27 #[.pointer (some ⟨d, 0, none⟩), .int .i64 conn, .int .i64 (sd s)] w fun e w' => e = .returned (.tuple #[.pointer none, .int .i64 17]) ∧ Post d R S w (S.tell conn K s) w' := by
  have hf := find_yes d R S conn s K w h hw hK
  have hl := (h.lat hK).2
  have c6 : w.cell? ⟨(R.rc conn).1, 6, none⟩ = some (.bool true) := by rw [hl.blk.cell 6, ← hc]; rfl
  have f7 := hl.blk.frozen 7
  have f8 := hl.blk.frozen 8
  have htl := tell_cell hl s
  have hP := PRlink h hK (htl.2.mono fun k _ hk => .inl hk) htl.1 fun s k hk => .inl (.inr ⟨s, hk⟩)
  obtain ⟨b, hb⟩ := h.mapSome hK
  have hmap := hP.at_.map
  have hmap' : (w.setCell ⟨(R.rc conn).1, to_ s, none⟩ (.bool true)).ownsMap Try.prog 3 ptrElem b (Maps.size R.FD) R.FD := by
    have : MapAt _ Try.prog 3 ptrElem R.m R.FD := hmap
    rw [hb] at this; exact this
  have eS : S.tell conn K s = (S.setL conn (K.tell s)).drop conn := by rw [NS.drop_setL]; unfold NS.tell; rw [if_pos ht]
  rw [eS]
  have hK' : (S.setL conn (K.tell s)).link conn = some (K.tell s) := upd_same _ _ _
  have HD : ∀ w1 j, w1.ownsMap Try.prog 3 ptrElem b j (R.FD.del (.int .i64 conn)) → (w.setCell ⟨(R.rc conn).1, to_ s, none⟩ (.bool true)).mapTurned w1 b → Post d R S w ((S.setL conn (K.tell s)).drop conn) w1 := by
    intro w1 j ho ht
    obtain ⟨R2, h2⟩ := Post_del hP.at_ (hr.setL hK) hK' hb ho ht
    exact ⟨R2, hP.trans h2⟩
  have HD := Lib.hid HD
  have hkey := key3 conn hw
  have c0 : w.cell? ⟨d, 0, none⟩ = some (.map (some b)) := by rw [h.blk.cell 0, ← hb]; rfl
  have hne : (R.rc conn).1 ≠ d := (h.other hK (.inl rfl)).1
  cases s
  · have c7 : w.cell? ⟨(R.rc conn).1, 7, none⟩ = some (.bool (K.told false)) := hl.blk.cell 7
    have c8 : w.cell? ⟨(R.rc conn).1, 8, none⟩ = some (.bool true) := by rw [hl.blk.cell 8, ← ht]; rfl
    have hf' : Calls Try.prog 37 #[.pointer (some ⟨d, 0, none⟩), .int .i64 conn, .int .i64 0] w fun e w' => e = .returned (.pointer (some ⟨(R.rc conn).1, 0, none⟩)) ∧ w = w' := hf
    have hm1 : (w.setCell ⟨(R.rc conn).1, 7, none⟩ (.bool true)).ownsMap Try.prog 3 ptrElem b (Maps.size R.FD) R.FD := hmap'
    show Calls Try.prog 27 #[.pointer (some ⟨d, 0, none⟩), .int .i64 conn, .int .i64 0] w _
    clear h hw hK hc ht eS hl htl hf hP hmap hmap' hK' hr hb
    go_enter Try.func27, Try.ntmps27
    go_wp2_with (first
      | (go_at_call 37; refine hf'.mono ?_; rintro e w' ⟨rfl, rfl⟩)
      | (at_delete; refine wpList_delete_own _ rfl _ _ 51 3 rfl 61 law3 Try.underlying51 _ b _ R.FD rfl hm1 _ _ rfl hkey ?_; intro w1 hown1 hturn1; have HO := Lib.hid (HD.out _ _ hown1 hturn1); clear hturn1 hown1 hm1 hkey))
    go_ret2
    exact ⟨rfl, HO.out⟩
  · have c7 : w.cell? ⟨(R.rc conn).1, 7, none⟩ = some (.bool true) := by rw [hl.blk.cell 7, ← ht]; rfl
    have c8 : w.cell? ⟨(R.rc conn).1, 8, none⟩ = some (.bool (K.told true)) := hl.blk.cell 8
    have hf' : Calls Try.prog 37 #[.pointer (some ⟨d, 0, none⟩), .int .i64 conn, .int .i64 1] w fun e w' => e = .returned (.pointer (some ⟨(R.rc conn).1, 0, none⟩)) ∧ w = w' := hf
    have hm1 : (w.setCell ⟨(R.rc conn).1, 8, none⟩ (.bool true)).ownsMap Try.prog 3 ptrElem b (Maps.size R.FD) R.FD := hmap'
    show Calls Try.prog 27 #[.pointer (some ⟨d, 0, none⟩), .int .i64 conn, .int .i64 1] w _
    clear h hw hK hc ht eS hl htl hf hP hmap hmap' hK' hr hb
    go_enter Try.func27, Try.ntmps27
    go_wp2_with (first
      | (go_at_call 37; refine hf'.mono ?_; rintro e w' ⟨rfl, rfl⟩)
      | (at_delete; refine wpList_delete_own _ rfl _ _ 51 3 rfl 61 law3 Try.underlying51 _ b _ R.FD rfl hm1 _ _ rfl hkey ?_; intro w1 hown1 hturn1; have HO := Lib.hid (HD.out _ _ hown1 hturn1); clear hturn1 hown1 hm1 hkey))
    go_ret2
    exact ⟨rfl, HO.out⟩

/-! ### release -/
def LK.over (K : LK) : Bool := (K.way false).ended && (K.way true).ended
def NS.release (S : NS) (n : Int) (K : LK) : NS := if K.over then S.drop n else S

set_option maxHeartbeats 800000 in
theorem release_any (d : Nat) (R : Rp) (S : NS) (conn : Int) (K : LK) (w : World) (h : At w d R S) (hr : S.Right) (hw : (Lit.int .i64 conn).wf = true) (hK : S.link conn = some K) :
    Calls Try.prog 36 #[.pointer (some ⟨d, 0, none⟩), .int .i64 conn, .pointer (some ⟨(R.rc conn).1, 0, none⟩)] w fun e w' => e = .returned (.tuple #[]) ∧ Post d R S w (S.release conn K) w' := by
  have hl := (h.lat hK).2
  have he0 := ended_any _ _ _ _ w (hl.wat false)
  have he1 := ended_any _ _ _ _ w (hl.wat true)
  have ht0 : Calls Try.prog 31 #[.pointer (some ⟨(R.rc conn).1, 0, none⟩), .int .i64 0] w fun e w' => e = .returned (.pointer (some ⟨(R.rc conn).1, po false, none⟩)) ∧ w = w' := to_any _ false w
  have ht1 : Calls Try.prog 31 #[.pointer (some ⟨(R.rc conn).1, 0, none⟩), .int .i64 1] w fun e w' => e = .returned (.pointer (some ⟨(R.rc conn).1, po true, none⟩)) ∧ w = w' := to_any _ true w
  cases e0 : (K.way false).ended
  · rw [e0] at he0
    have eS : S.release conn K = S := by unfold NS.release LK.over; rw [e0]; rfl
    rw [eS]
    have HP := Lib.hid (Post.refl h)
    clear h hr hw hK hl he1 ht1 e0 eS
    go_enter Try.func36, Try.ntmps36
    go_wp2_with (first | (go_at_call 31; refine ht0.mono ?_; rintro e w' ⟨rfl, rfl⟩) | (go_at_call 34; refine he0.mono ?_; rintro e w' ⟨rfl, rfl⟩))
    go_end0
    exact ⟨rfl, HP.out⟩
  · rw [e0] at he0
    cases e1 : (K.way true).ended
    · rw [e1] at he1
      have eS : S.release conn K = S := by unfold NS.release LK.over; rw [e0, e1]; rfl
      rw [eS]
      have HP := Lib.hid (Post.refl h)
      clear h hr hw hK hl e0 eS e1
      go_enter Try.func36, Try.ntmps36
      go_wp2_with (first
        | (go_at_call 31; (first | (with_reducible refine ht0.mono ?_) | (with_reducible refine ht1.mono ?_)); rintro e w' ⟨rfl, rfl⟩)
        | (go_at_call 34; (first | (with_reducible refine he0.mono ?_) | (with_reducible refine he1.mono ?_)); rintro e w' ⟨rfl, rfl⟩))
      go_end0
      exact ⟨rfl, HP.out⟩
    · rw [e1] at he1
      have eS : S.release conn K = S.drop conn := by unfold NS.release LK.over; rw [e0, e1]; rfl
      rw [eS]
      obtain ⟨b, hb⟩ := h.mapSome hK
      have hm := h.map
      rw [hb] at hm
      have hm1 : w.ownsMap Try.prog 3 ptrElem b (Maps.size R.FD) R.FD := hm
      have c0 : w.cell? ⟨d, 0, none⟩ = some (.map (some b)) := by rw [h.blk.cell 0, ← hb]; rfl
      have hkey := key3 conn hw
      have HD := Lib.hid (fun w1 j (ho : w1.ownsMap Try.prog 3 ptrElem b j (R.FD.del (.int .i64 conn))) (ht : w.mapTurned w1 b) => Post_del h hr hK hb ho ht)
      clear h hr hw hK hl e0 eS e1 hm hb
      go_enter Try.func36, Try.ntmps36
      go_wp2_with (first
        | (go_at_call 31; (first | (with_reducible refine ht0.mono ?_) | (with_reducible refine ht1.mono ?_)); rintro e w' ⟨rfl, rfl⟩)
        | (go_at_call 34; (first | (with_reducible refine he0.mono ?_) | (with_reducible refine he1.mono ?_)); rintro e w' ⟨rfl, rfl⟩)
        | (at_delete; refine wpList_delete_own _ rfl _ _ 51 3 rfl 61 law3 Try.underlying51 _ b _ R.FD rfl hm1 _ _ rfl hkey ?_; intro w1 hown1 hturn1; have HO := Lib.hid (HD.out _ _ hown1 hturn1); clear hturn1 hown1 hm1 hkey))
      go_end0
      exact ⟨rfl, HO.out⟩

end Go.Proofs.Ythcpdeffgdaieaa
