/- The calls of a net, by contract: Move, Take, Shut, Waits. -/
import Derived.Test.YthcpdeffgdaieaaA7
namespace Go.Proofs.Ythcpdeffgdaieaa
open Go.RowKit Go.Maps
set_option linter.unusedVariables false

/-! ### Move -/
def LK.moved (K : LK) (s : Bool) (many : Int) : Int := amt many (K.way s).mov
def LK.move (K : LK) (s : Bool) (many : Int) : LK := K.setW s { K.way s with arr := (K.way s).arr + (K.moved s many).toNat }
def NS.move (S : NS) (conn side many : Int) : (Int × Int) × NS :=
  match S.find conn side with
  | none => ((0, 14), S)
  | some (s, K) => if K.cut then ((0, 17), S.tell conn K s) else ((K.moved s many, 0), S.setL conn (K.move s many))

set_option maxHeartbeats 400000 in
theorem move_err (p : Option Addr) (conn side many : Int) (E : Int) (P : World → Prop) (w : World) (hE : E ≠ 0)
    (hr : Calls Try.prog 27 #[.pointer p, .int .i64 conn, .int .i64 side] w fun e w' => e = .returned (.tuple #[.pointer none, .int .i64 E]) ∧ P w') :
    Calls Try.prog 13 #[.pointer p, .int .i64 conn, .int .i64 side, .int .i64 many] w fun e w' => e = .returned (.tuple #[.int .i64 0, .int .i64 E]) ∧ P w' := by
  have hb : (E != 0) = true := by simpa using hE
  clear hE
  go_enter Try.func13, Try.ntmps13
  go_wp2_with fail
  refine hr.mono ?_
  rintro e w' ⟨rfl, hP⟩
  have HP := Lib.hid hP; clear hP hr
  go_wp2
  go_ret2
  exact ⟨rfl, HP.out⟩

theorem amt_bd (many all : Int) (h : 0 ≤ all) : 0 ≤ amt many all ∧ amt many all ≤ all := by unfold amt; omega

theorem move_end {g n i : Nat} {vv : Bool → Value} {w : World} {v : Value} {K K' : LK} (h : LAt w g vv K) (hl : LAt ((w.drewN n).setCell ⟨g, i, none⟩ v) g vv K' ∧ Fr (One g) (w.drewN n) ((w.drewN n).setCell ⟨g, i, none⟩ v)) :
    Turned g vv w K' ((w.drewN n).setCell ⟨g, i, none⟩ v) :=
  ⟨vv, hl.1, ((Fr.refl _ w).drewN n).trans (hl.2.mono fun k _ hk => (.inl hk : blkL g vv k)) fun j _ hj => hj, fun t k hk => .inl (.inr ⟨t, hk⟩)⟩

set_option maxRecDepth 100000 in
set_option maxHeartbeats 1000000 in
theorem move_ok (d g : Nat) (vv : Bool → Value) (K : LK) (conn : Int) (s : Bool) (many : Int) (w : World) (h : LAt w g vv K) (ha : (K.way s).arr ≤ (K.way s).bytes.length) (hl : (K.way s).bytes.length ≤ 65536)
    (hr : Calls Try.prog 27 #[.pointer (some ⟨d, 0, none⟩), .int .i64 conn, .int .i64 (sd s)] w fun e w' => e = .returned (.tuple #[.pointer (some ⟨g, 0, none⟩), .int .i64 0]) ∧ w = w') :
    Calls Try.prog 13 #[.pointer (some ⟨d, 0, none⟩), .int .i64 conn, .int .i64 (sd s), .int .i64 many] w fun e w' => e = .returned (.tuple #[.int .i64 (K.moved s many), .int .i64 0]) ∧ Turned g vv w (K.move s many) w' := by
  have hf := to_any g s w
  have hw := h.wat s
  have hmv := moving_any g (po s) _ _ w hw hl ha
  have c1 := hw.c1
  have f1 := h.frozen (po s + 1)
  have hbd := amt_bd many (K.way s).mov (by unfold WS.mov; omega)
  have hm2 : (K.way s).mov = ((K.way s).bytes.length : Int) - (K.way s).arr := rfl
  have hb0 : 0 ≤ K.moved s many := hbd.1
  have hb1 : K.moved s many ≤ 65536 := by have := hbd.2; unfold LK.moved; omega
  have hb2 : ((K.way s).arr : Int) ≤ 65536 := by omega
  have ham : ∀ w', Calls Try.prog 32 #[.int .i64 many, .int .i64 (K.way s).mov] w' fun e w'' => e = .returned (.int .i64 (K.moved s many)) ∧ w' = w'' := fun w' => atMost_any many (K.way s).mov w'
  have en : ((K.way s).arr : Int) + K.moved s many = (((K.way s).arr + (K.moved s many).toNat : Nat) : Int) := by omega
  have HN := Lib.hid en
  have HL : ∀ n, Hid (LAt ((w.drewN n).setCell ⟨g, po s + 1, none⟩ (.int .i64 (((K.way s).arr + (K.moved s many).toNat : Nat) : Int))) g vv (K.move s many) ∧ Fr (One g) (w.drewN n) ((w.drewN n).setCell ⟨g, po s + 1, none⟩ (.int .i64 (((K.way s).arr + (K.moved s many).toNat : Nat) : Int)))) := fun n =>
    Lib.hid ((show LAt (w.drewN n) g vv K from h.of fun _ _ => rfl).cell (po s + 1) _ (cells_setA K vv s _) fun t => setW_bytes_other K s t _ rfl)
  have HV := Lib.hid h
  clear hbd hm2 en hw h ha hl
  go_enter Try.func13, Try.ntmps13
  go_wp2_with (first | (go_at_call 27; refine hr.mono ?_; rintro e w' ⟨rfl, rfl⟩) | (go_at_call 31; refine hf.mono ?_; rintro e w' ⟨rfl, rfl⟩) | (go_at_call 33; refine hmv.mono ?_; rintro e w' ⟨rfl, n, rfl⟩) | (go_at_call 32; refine (ham _).mono ?_; rintro e w' ⟨rfl, rfl⟩))
  rw [HN.out]
  have HO := (HL n).out
  go_ret2
  exact ⟨rfl, move_end HV.out HO⟩

theorem move_any (d : Nat) (R : Rp) (S : NS) (conn side many : Int) (w : World) (h : At w d R S) (hW : WF S) (hw : (Lit.int .i64 conn).wf = true) :
    Calls Try.prog 13 #[.pointer (some ⟨d, 0, none⟩), .int .i64 conn, .int .i64 side, .int .i64 many] w fun e w' => e = .returned (.tuple #[.int .i64 (S.move conn side many).1.1, .int .i64 (S.move conn side many).1.2]) ∧ Post d R S w (S.move conn side many).2 w' := by
  rcases case_of S conn side with hn | ⟨s, K, rfl, hK, hc⟩ | ⟨s, K, rfl, hK, hc⟩
  · have e : S.move conn side many = ((0, 14), S) := by unfold NS.move; rw [find_eq_none hn]
    rw [e]
    exact move_err _ conn side many 14 _ w (by omega) ((reach_no d R S conn side w h hw hn).mono fun e w' ⟨h1, h2⟩ => ⟨h1, h2 ▸ Post.refl h⟩)
  · have e : S.move conn (sd s) many = ((0, 17), S.tell conn K s) := by unfold NS.move; rw [find_eq_some rfl hK]; simp only [hc, if_true]
    rw [e]
    exact move_err _ conn (sd s) many 17 _ w (by omega) (reach_cut d R S conn s K w h hW.right hw hK hc)
  · have e : S.move conn (sd s) many = ((K.moved s many, 0), S.setL conn (K.move s many)) := by unfold NS.move; rw [find_eq_some rfl hK]; simp [hc]
    rw [e]
    have hwy := hW.way conn K s hK
    exact (move_ok d _ _ K conn s many w (h.lat hK).2 hwy.1 hwy.2 (reach_ok d R S conn s K w h hw hK hc)).mono fun e w' ⟨h1, h2⟩ => ⟨h1, h2.post h hK⟩

/-! ### Take -/
def LK.took (K : LK) (s : Bool) (many : Int) : Nat := (amt many (K.way s).arr).toNat
def LK.take (K : LK) (s : Bool) (many : Int) : LK := K.setW s { K.way s with bytes := (K.way s).bytes.drop (K.took s many), arr := (K.way s).arr - K.took s many }
def NS.take (S : NS) (conn side many : Int) : (List UInt8 × Int) × NS :=
  match S.find conn side with
  | none => (([], 14), S)
  | some (s, K) =>
    if K.cut then (([], 17), S.tell conn K s)
    else if (K.way s).ended then (([], 16), S)
    else if (K.way s).arr = 0 then (([], 15), S)
    else (((K.way s).bytes.take (K.took s many), 0), (S.setL conn (K.take s many)).release conn (K.take s many))

set_option maxHeartbeats 400000 in
theorem take_err (p : Option Addr) (conn side many : Int) (E : Int) (P : World → Prop) (w : World) (hE : E ≠ 0)
    (hr : Calls Try.prog 27 #[.pointer p, .int .i64 conn, .int .i64 side] w fun e w' => e = .returned (.tuple #[.pointer none, .int .i64 E]) ∧ P w') :
    Calls Try.prog 14 #[.pointer p, .int .i64 conn, .int .i64 side, .int .i64 many] w fun e w' => e = .returned (.tuple #[.string ⟨([] : List UInt8).toArray⟩, .int .i64 E]) ∧ P w' := by
  have hb : (E != 0) = true := by simpa using hE
  clear hE
  go_enter Try.func14, Try.ntmps14
  go_wp2_with fail
  refine hr.mono ?_
  rintro e w' ⟨rfl, hP⟩
  have HP := Lib.hid hP; clear hP hr
  go_wp2
  go_ret2
  exact ⟨rfl, HP.out⟩

set_option maxHeartbeats 400000 in
theorem take_ended (p : Option Addr) (g : Nat) (v : Value) (W : WS) (conn many : Int) (s : Bool) (w : World) (h : WAt w g (po s) v W) (he : W.ended = true)
    (hr : Calls Try.prog 27 #[.pointer p, .int .i64 conn, .int .i64 (sd s)] w fun e w' => e = .returned (.tuple #[.pointer (some ⟨g, 0, none⟩), .int .i64 0]) ∧ w = w') :
    Calls Try.prog 14 #[.pointer p, .int .i64 conn, .int .i64 (sd s), .int .i64 many] w fun e w' => e = .returned (.tuple #[.string ⟨([] : List UInt8).toArray⟩, .int .i64 16]) ∧ w = w' := by
  have hf := to_any g s w
  have hen := ended_any _ _ _ _ w h
  rw [he] at hen
  clear he h
  go_enter Try.func14, Try.ntmps14
  go_wp2_with (first | (go_at_call 27; refine hr.mono ?_; rintro e w' ⟨rfl, rfl⟩) | (go_at_call 31; refine hf.mono ?_; rintro e w' ⟨rfl, rfl⟩) | (go_at_call 34; refine hen.mono ?_; rintro e w' ⟨rfl, rfl⟩))
  go_ret2
  exact ⟨rfl, rfl⟩

set_option maxHeartbeats 400000 in
theorem take_again (p : Option Addr) (g : Nat) (v : Value) (W : WS) (conn many : Int) (s : Bool) (w : World) (h : WAt w g (po s) v W) (he : W.ended = false) (h0 : W.arr = 0)
    (hr : Calls Try.prog 27 #[.pointer p, .int .i64 conn, .int .i64 (sd s)] w fun e w' => e = .returned (.tuple #[.pointer (some ⟨g, 0, none⟩), .int .i64 0]) ∧ w = w') :
    Calls Try.prog 14 #[.pointer p, .int .i64 conn, .int .i64 (sd s), .int .i64 many] w fun e w' => e = .returned (.tuple #[.string ⟨([] : List UInt8).toArray⟩, .int .i64 15]) ∧ w = w' := by
  have hf := to_any g s w
  have hen := ended_any _ _ _ _ w h
  rw [he] at hen
  have c1 := h.c1
  rw [h0] at c1
  clear he h h0
  go_enter Try.func14, Try.ntmps14
  go_wp2_with (first | (go_at_call 27; refine hr.mono ?_; rintro e w' ⟨rfl, rfl⟩) | (go_at_call 31; refine hf.mono ?_; rintro e w' ⟨rfl, rfl⟩) | (go_at_call 34; refine hen.mono ?_; rintro e w' ⟨rfl, rfl⟩))
  go_ret2
  exact ⟨rfl, rfl⟩

theorem Turned.after {g : Nat} {vv : Bool → Value} {w w1 w2 : World} {K' : LK} (hf : Fr (One g) w w1) (h : Turned g vv w1 K' w2) : Turned g vv w K' w2 := by
  obtain ⟨vv', h1, h2, h3⟩ := h
  refine ⟨vv', h1, (hf.mono fun k _ hk => (.inl hk : blkL g vv k)).trans h2 fun j _ hj => hj, fun t k hk => (h3 t k hk).imp id fun h => by have := hf.size; omega⟩

theorem release_turned (d : Nat) (R : Rp) (S : NS) (conn : Int) (K K' : LK) (w w2 : World) (h : At w d R S) (hr : S.Right) (hw : (Lit.int .i64 conn).wf = true) (hK : S.link conn = some K) (ht : Turned (R.rc conn).1 (R.rc conn).2 w K' w2) :
    Calls Try.prog 36 #[.pointer (some ⟨d, 0, none⟩), .int .i64 conn, .pointer (some ⟨(R.rc conn).1, 0, none⟩)] w2 fun e w' => e = .returned (.tuple #[]) ∧ Post d R S w ((S.setL conn K').release conn K') w' := by
  obtain ⟨vv', h1, h2, h3⟩ := ht
  have hP := PRlink h hK h2 h1 h3
  have hc := release_any d _ (S.setL conn K') conn K' w2 hP.at_ (hr.setL hK) hw (upd_same _ _ _)
  simp only [upd_same] at hc
  refine hc.mono fun e w' ⟨e1, R2, e2⟩ => ⟨e1, R2, hP.trans e2⟩

set_option maxRecDepth 100000 in
set_option maxHeartbeats 2000000 in
theorem take_ok (d : Nat) (R : Rp) (S : NS) (conn many : Int) (s : Bool) (K : LK) (w : World) (h : At w d R S) (hr : S.Right) (hw : (Lit.int .i64 conn).wf = true) (hK : S.link conn = some K) (hc : K.cut = false) (he : (K.way s).ended = false) (h0 : (K.way s).arr ≠ 0) (ha : (K.way s).arr ≤ (K.way s).bytes.length) (hl : (K.way s).bytes.length ≤ 65536) :
    Calls Try.prog 14 #[.pointer (some ⟨d, 0, none⟩), .int .i64 conn, .int .i64 (sd s), .int .i64 many] w fun e w' => e = .returned (.tuple #[.string ⟨((K.way s).bytes.take (K.took s many)).toArray⟩, .int .i64 0]) ∧ Post d R S w ((S.setL conn (K.take s many)).release conn (K.take s many)) w' := by
  have hre := reach_ok d R S conn s K w h hw hK hc
  have hla := (h.lat hK).2
  have hwa := hla.wat s
  have hf := to_any (R.rc conn).1 s w
  have hen := ended_any _ _ _ _ w hwa
  rw [he] at hen
  have c1 := hwa.c1
  have f1 := hla.frozen (po s + 1)
  have hbd := amt_bd many (K.way s).arr (by omega)
  have hk : K.took s many ≤ (K.way s).arr := by unfold LK.took; omega
  have ham : ∀ w', Calls Try.prog 32 #[.int .i64 many, .int .i64 (K.way s).arr] w' fun e w'' => e = .returned (.int .i64 (K.took s many)) ∧ w' = w'' := fun w' =>
    (atMost_any many (K.way s).arr w').mono fun e w'' ⟨h1, h2⟩ => ⟨h1.trans (ret_int (by unfold LK.took; omega)), h2⟩
  have hne : ((((K.way s).arr : Nat) : Int) == 0) = false := by simpa using h0
  have en : ((K.way s).arr : Int) - (K.took s many : Int) = (((K.way s).arr - K.took s many : Nat) : Int) := by omega
  have hL := hla.cell (po s + 1) (.int .i64 (((K.way s).arr - K.took s many : Nat) : Int)) (cells_setA K _ s _) fun t => setW_bytes_other K s t _ rfl
  have hbs : ∀ a, ((K.setW s { K.way s with arr := a }).way s).bytes = (K.way s).bytes := fun a => by simp only [LK.setW, updB_same]
  have hta := take_any (R.rc conn).1 _ _ s (K.took s many) _ hL.1 (by rw [hbs]; omega)
  have eK : ((K.setW s { K.way s with arr := (K.way s).arr - K.took s many }).setW s { ((K.setW s { K.way s with arr := (K.way s).arr - K.took s many }).way s) with bytes := ((K.setW s { K.way s with arr := (K.way s).arr - K.took s many }).way s).bytes.drop (K.took s many) }) = K.take s many := by
    unfold LK.take LK.setW
    simp only [updB_same]
    congr 1
    funext t
    unfold updB
    split <;> rfl
  rw [eK, hbs] at hta
  clear hbs
  have hrel := fun w2 (ht : Turned (R.rc conn).1 (R.rc conn).2 _ (K.take s many) w2) => release_turned d R S conn K (K.take s many) w w2 h hr hw hK (ht.after hL.2)
  have HR := Lib.hid hrel
  have HN := Lib.hid en
  have HT := Lib.hid hta
  have b0 : 0 ≤ ((K.way s).arr : Int) := by omega
  have b1 : ((K.way s).arr : Int) ≤ 65536 := by omega
  have b2 : (0 : Int) ≤ (K.took s many : Int) := by omega
  have b3 : (K.took s many : Int) ≤ ((K.way s).arr : Int) := by omega
  clear h hr hw hK hc he h0 ha hl hla hwa hbd hk en hL hta eK hrel
  go_enter Try.func14, Try.ntmps14
  go_wp2_with (first | (go_at_call 27; refine hre.mono ?_; rintro e w' ⟨rfl, rfl⟩) | (go_at_call 31; refine hf.mono ?_; rintro e w' ⟨rfl, rfl⟩) | (go_at_call 34; refine hen.mono ?_; rintro e w' ⟨rfl, rfl⟩) | (go_at_call 32; refine (ham _).mono ?_; rintro e w' ⟨rfl, rfl⟩))
  rw [HN.out]
  refine HT.out.mono ?_
  rintro e w2 ⟨rfl, ht⟩
  have hc := HR.out _ ht
  clear ht HT HR HN
  go_wp2_with fail
  refine hc.mono ?_
  rintro e w3 ⟨rfl, hP⟩
  have HP := Lib.hid hP; clear hP hc
  go_wp2
  go_ret2
  exact ⟨rfl, HP.out⟩

theorem take_call (d : Nat) (R : Rp) (S : NS) (conn side many : Int) (w : World) (h : At w d R S) (hW : WF S) (hw : (Lit.int .i64 conn).wf = true) :
    Calls Try.prog 14 #[.pointer (some ⟨d, 0, none⟩), .int .i64 conn, .int .i64 side, .int .i64 many] w fun e w' => e = .returned (.tuple #[.string ⟨(S.take conn side many).1.1.toArray⟩, .int .i64 (S.take conn side many).1.2]) ∧ Post d R S w (S.take conn side many).2 w' := by
  rcases case_of S conn side with hn | ⟨s, K, rfl, hK, hc⟩ | ⟨s, K, rfl, hK, hc⟩
  · have e : S.take conn side many = (([], 14), S) := by unfold NS.take; rw [find_eq_none hn]
    rw [e]
    exact take_err _ conn side many 14 _ w (by omega) ((reach_no d R S conn side w h hw hn).mono fun e w' ⟨h1, h2⟩ => ⟨h1, h2 ▸ Post.refl h⟩)
  · have e : S.take conn (sd s) many = (([], 17), S.tell conn K s) := by unfold NS.take; rw [find_eq_some rfl hK]; simp only [hc, if_true]
    rw [e]
    exact take_err _ conn (sd s) many 17 _ w (by omega) (reach_cut d R S conn s K w h hW.right hw hK hc)
  · have hre := reach_ok d R S conn s K w h hw hK hc
    have hwy := hW.way conn K s hK
    have hla := ((h.lat hK).2).wat s
    cases he : (K.way s).ended
    · by_cases h0 : (K.way s).arr = 0
      · have e : S.take conn (sd s) many = (([], 15), S) := by unfold NS.take; rw [find_eq_some rfl hK]; simp [hc, he, h0]
        rw [e]
        exact (take_again _ _ _ _ conn many s w hla he h0 hre).mono fun e w' ⟨h1, h2⟩ => ⟨h1, h2 ▸ Post.refl h⟩
      · have e : S.take conn (sd s) many = (((K.way s).bytes.take (K.took s many), 0), (S.setL conn (K.take s many)).release conn (K.take s many)) := by unfold NS.take; rw [find_eq_some rfl hK]; simp [hc, he, h0]
        rw [e]
        exact take_ok d R S conn many s K w h hW.right hw hK hc he h0 hwy.1 hwy.2
    · have e : S.take conn (sd s) many = (([], 16), S) := by unfold NS.take; rw [find_eq_some rfl hK]; simp [hc, he]
      rw [e]
      exact (take_ended _ _ _ _ conn many s w hla he hre).mono fun e w' ⟨h1, h2⟩ => ⟨h1, h2 ▸ Post.refl h⟩

end Go.Proofs.Ythcpdeffgdaieaa
