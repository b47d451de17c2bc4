/- Reading a query: a test. -/
import Derived.Test.YtpdfenpmnpoehaaGreatDoorQ9
import Derived.Deep.RegionHeld
namespace Go.Proofs.YtpdfenpmnpoehaaGreatDoor
open Go.RowKit Go.Maps
set_option linter.unusedVariables false
attribute [local go_sem ↓] to7 to7'

def cdR : VR Cd := fun K w v c => CdAt K w c v
/-- Stores into a block made since the beginning. -/
theorem St.put {C : Cx} {w wi wj : World} {J J' : World → Prop} {r : List Wd} {b : Bool} {y : Nat} (h : St C w J wi r b) (f : Fr (fun k => k = y) wi wj) (hy : w.heap.size ≤ y) (hd : C.d < w.heap.size) (hg : C.g < w.heap.size) (hj : J' wj) (hs : Stable C J') : St C w J' wj r b :=
  ⟨h.rd.past f (by omega) (by omega), ⟨f.os.trans h.fr.os, f.tape.trans h.fr.tape, f.output.trans h.fr.output, Nat.le_trans h.fr.size f.size, fun k hk hn => (f.block k (Nat.lt_of_lt_of_le hk h.fr.size) (fun e => by have e : k = y := e; omega)).trans (h.fr.block k hk hn)⟩, h.en, hj, hs⟩
theorem stable_and {C : Cx} {J J' : World → Prop} (h : Stable C J) (h' : Stable C J') : Stable C (fun w => J w ∧ J' w) := fun w w' f ⟨a, c⟩ => ⟨h w w' f a, h' w w' f c⟩
/-- A row in blocks not below B. -/
theorem stable_row {α : Type} {C : Cx} {B size : Nat} {E : EG α} (hE : Elem E) {v : Value} {l : List α} (hB : C.d < B) : Stable C (fun w => RowE (fun k => B ≤ k) w size (E (fun k => B ≤ k) w) v l) := fun w w' f h =>
  h.mono (fun k hk hkl => ⟨hk, f.block k hkl (fun e => by have e : k = C.d := e; omega)⟩) fun x cs hx => hE.mono _ _ _ _ _ _ hx fun k hk hkl => ⟨hk, f.block k hkl (fun e => by have e : k = C.d := e; omega)⟩
theorem stable_cd {C : Cx} {B : Nat} {c : Cd} {v : Value} (hB : C.d < B) : Stable C (fun w => CdAt (fun k => B ≤ k) w c v) := fun w w' f h =>
  h.mono fun k hk hkl => ⟨hk, f.block k hkl (fun e => by have e : k = C.d := e; omega)⟩
/-- A node, out of its block. -/
theorem cd_of_blk {K : Nat → Prop} {w : World} {y : Nat} {k op : Int} {L R V : Value} {col : Tx} {l r : Cd} {vals : List Vl} (hb : Blk w y 50 #[.int .i64 k, L, R, sv col, .int .i64 op, V]) (hK : K y) (hl : CdAt K w l L) (hr : CdAt K w r R) (hv : RowE K w 3 (vlG K w) V vals) (hc : col.length ≤ maxLen) (hk : i64 k) (ho : i64 op) :
    CdAt K w (.node k l r col op vals) (.pointer (some ⟨y, 0, none⟩)) :=
  ⟨y, 0, L, R, V, rfl, hK, hb.lt, hb.cell 0, hb.cell 1, hb.cell 2, hb.cell 3, hb.cell 4, hb.cell 5, hl, hr, hv, hc, hk, ho⟩
def nd (k : Int) (t : Tx) (op : Int) (V : Value) : Array Value := #[.int .i64 k, .pointer none, .pointer none, sv t, .int .i64 op, V]
theorem i64_0 : i64 0 := by unfold i64; omega
theorem i64_of (n : Nat) (h : n ≤ 100) : i64 (n : Int) := by unfold i64; omega
set_option maxRecDepth 100000 in
set_option maxHeartbeats 8000000 in
theorem test_any {C : Cx} {w : World} {r : List Wd} {b : Bool} (h : Rd C w r b) (he : Ended r) : Calls Tryz.prog 162 #[rp C] w (RdP C w cdR (testW r b)) := by
  have hd := h.lt
  have hg := h.glt
  have HS0 := Lib.hid (St.start h he)
  have HD := Lib.hid hd
  have HG := Lib.hid hg
  have C0 := Lib.hid (name_s HS0.out)
  unfold rp at *
  clear h he hd hg
  go_enter Tryz.func162, Tryz.ntmps162
  go_wp2_with fail
  refine C0.out.mono ?_
  clear C0
  rintro e w1 hp
  cases hR : nameW r b with
  | bad c p =>
    rw [hR] at hp
    obtain ⟨rfl, f⟩ := hp
    have HF := Lib.hid f
    have HV : Hid (testW r b = .bad c p) := Lib.hid (by simp only [testW, hR, PR.then])
    clear hR f
    go_wp2_with fail
    exact ⟨rfl, St.bad HV.out HF.out⟩
  | ok t r1 b1 =>
    rw [hR] at hp
    obtain ⟨⟨v, rfl, rfl, ht8⟩, hs1, f1⟩ := hp
    have E0 := Lib.hid hR
    have HT8 := Lib.hid ht8
    -- the node
    obtain ⟨y, hy⟩ : ∃ y, w1.heap.size = y := ⟨_, rfl⟩
    have hwy : w.heap.size ≤ y := by rw [← hy]; exact hs1.fr.size
    have hyd : y ≠ C.d := by have := HD.out; omega
    obtain ⟨w2, hw2⟩ : ∃ w2, w1.alloc (.cells #[.int .i64 0, .pointer none, .pointer none, sv t, .int .i64 0, .slice none 0 0] 50) = w2 := ⟨_, rfl⟩
    have f2 : Fr No w1 w2 := by rw [← hw2]; exact (Fr.refl No w1).alloc _
    have hb2 : Blk w2 y 50 (nd 0 t 0 (.slice none 0 0)) := by rw [← hw2, ← hy]; exact Blk.new w1 50 _
    have HS2 := Lib.hid ((hs1.no f2).more hb2 (stable_blk hyd))
    have HW2 := Lib.hid hw2
    have HY := Lib.hid hy
    have HWY := Lib.hid hwy
    have HYD := Lib.hid hyd
    clear hR hs1 f1 hw2 f2 hb2 hy hwy hyd ht8
    go_upto_region 2 with fail
    rw [HW2.out, HY.out]
    go_wp2_with fail
    refine (says_any [73, 78] w2).mono ?_
    rintro e w3 ⟨⟨mv, rfl, hm⟩, f3⟩
    have HC := Lib.hid (takes_s (HS2.out.no f3) hm (inner_says _))
    unfold rp at HC
    clear hm f3
    go_wp2_with fail
    refine HC.out.mono ?_
    clear HC
    rintro e w4 ⟨rfl, ht, hf, -⟩
    cases hn : seesW (saysW [73, 78]) r1 with
    | true =>
      have HS4 := Lib.hid (ht hn)
      have E1 := Lib.hid hn
      obtain ⟨-, hb⟩ := HS4.out.j
      have z0 : w4.cell? ⟨y, 0, none⟩ = some (.int .i64 0) := hb.cell 0
      have x0 := hb.frozen 0
      obtain ⟨w5, hw5⟩ : ∃ w5, w4.setCell ⟨y, 0, none⟩ (.int .i64 5) = w5 := ⟨_, rfl⟩
      have f5 : Fr (fun k => k = y) w4 w5 := by rw [← hw5]; exact fr_set (Fr.refl _ w4)
      have hb5 : Blk w5 y 50 (nd 5 t 0 (.slice none 0 0)) := by rw [← hw5]; exact hb.set_ 0 _
      have HS5 := Lib.hid (HS4.out.put (J' := fun x => Blk x y 50 (nd 5 t 0 (.slice none 0 0))) f5 HWY.out HD.out HG.out hb5 (stable_blk HYD.out))
      have HW5 := Lib.hid hw5
      have CA := Lib.hid (all_s HS5.out [[40]] 1 rfl (by decide) #[sv [40]] rfl)
      unfold rp at CA
      clear ht hf hn hb hb5 f5 hw5
      go_upto_region 4 with fail
      rw [HW5.out]
      clear z0 x0
      go_wp2_with fail
      refine CA.out.mono ?_
      clear CA
      rintro e w6 hp
      cases hR : allW [[40]] r1.tail b1 with
      | bad c p =>
        rw [hR] at hp
        obtain ⟨rfl, f⟩ := hp
        have HF := Lib.hid f
        have HV : Hid (testW r b = .bad c p) := Lib.hid (by have q0 := E0.out; have q1 := E1.out; simp only [testW, q0, q1, hR, PR.then, if_true])
        clear hR f
        go_wp2_with fail
        exact ⟨rfl, St.bad HV.out HF.out⟩
      | ok u r2 b2 =>
        rw [hR] at hp
        obtain ⟨⟨v, rfl, rfl⟩, hs6, f6⟩ := hp
        have HS6 := Lib.hid hs6
        have E2 := Lib.hid hR
        have CL := Lib.hid (HS6.out.call (lvals_any HS6.out.rd HS6.out.en) (keeps_list keeps_val))
        unfold rp at CL
        clear hR hs6 f6
        go_wp2_with fail
        refine CL.out.mono ?_
        clear CL
        rintro e w7 hp
        cases hR : listW 64 valW r2 b2 with
        | bad c p =>
          rw [hR] at hp
          obtain ⟨rfl, f⟩ := hp
          have HF := Lib.hid f
          have HV : Hid (testW r b = .bad c p) := Lib.hid (by have q0 := E0.out; have q1 := E1.out; have q2 := E2.out; simp only [testW, q0, q1, q2, hR, PR.then, if_true])
          clear hR f
          go_wp2_with fail
          exact ⟨rfl, St.bad HV.out HF.out⟩
        | ok vs r3 b3 =>
          rw [hR] at hp
          obtain ⟨⟨v, rfl, hv⟩, hs7, f7⟩ := hp
          have hv' := hv
          obtain ⟨A, c, rfl, -⟩ := hv'
          have hb := hs7.j
          have z5 : w7.cell? ⟨y, 5, none⟩ = some (.slice none 0 0) := hb.cell 5
          have x5 := hb.frozen 5
          obtain ⟨w8, hw8⟩ : ∃ w8, w7.setCell ⟨y, 5, none⟩ (.slice A vs.length c) = w8 := ⟨_, rfl⟩
          have f8 : Fr (fun k => k = y) w7 w8 := by rw [← hw8]; exact fr_set (Fr.refl _ w7)
          have hb8 : Blk w8 y 50 (nd 5 t 0 (.slice A vs.length c)) := by rw [← hw8]; exact hb.set_ 5 _
          have hrow8 : RowE (fun k => w.heap.size ≤ k) w8 3 (vlG (fun k => w.heap.size ≤ k) w8) (.slice A vs.length c) vs := by
            have hle := HS6.out.fr.size
            have hyl : y < w6.heap.size := HS6.out.j.lt
            exact RowE.mono hv (fun k hk hkl => ⟨by omega, f8.block k hkl (fun e => by have e : k = y := e; omega)⟩) fun x cs h => vlG_elem.mono _ _ _ _ _ _ h fun k hk hkl => ⟨by omega, f8.block k hkl (fun e => by have e : k = y := e; omega)⟩
          have HS8 := Lib.hid (hs7.put (J' := fun x => Blk x y 50 (nd 5 t 0 (.slice A vs.length c)) ∧ RowE (fun k => w.heap.size ≤ k) x 3 (vlG (fun k => w.heap.size ≤ k) x) (.slice A vs.length c) vs) f8 HWY.out HD.out HG.out ⟨hb8, hrow8⟩ (stable_and (stable_blk HYD.out) (stable_row vlG_elem HD.out)))
          have E3 := Lib.hid hR
          have HW8 := Lib.hid hw8
          have CA := Lib.hid (all_s HS8.out [[41]] 1 rfl (by decide) #[sv [41]] rfl)
          unfold rp at CA
          clear hR hs7 f7 hb hv hb8 hrow8 f8 hw8
          go_upto_region 6 with fail
          rw [HW8.out]
          clear z5 x5
          go_wp2_with fail
          refine CA.out.mono ?_
          clear CA
          rintro e w9 hp
          cases hR : allW [[41]] r3 b3 with
          | bad cc p =>
            rw [hR] at hp
            obtain ⟨rfl, f⟩ := hp
            have HF := Lib.hid f
            have HV : Hid (testW r b = .bad cc p) := Lib.hid (by have q0 := E0.out; have q1 := E1.out; have q2 := E2.out; have q3 := E3.out; simp only [testW, q0, q1, q2, q3, hR, PR.then, PR.map, if_true])
            clear hR f
            go_wp2_with fail
            exact ⟨rfl, St.bad HV.out HF.out⟩
          | ok u r4 b4 =>
            rw [hR] at hp
            obtain ⟨⟨v, rfl, rfl⟩, hs9, -⟩ := hp
            have HV : Hid (testW r b = .ok (.node 5 .none .none t 0 vs) r4 b4) := Lib.hid (by have q0 := E0.out; have q1 := E1.out; have q2 := E2.out; have q3 := E3.out; simp only [testW, q0, q1, q2, q3, hR, PR.then, PR.map, if_true])
            have HS9 := Lib.hid hs9
            clear hR hs9
            go_wp2
            go_ret
            exact HS9.out.ok HV.out (cd_of_blk HS9.out.j.1 HWY.out rfl rfl HS9.out.j.2 (by have := HT8.out; unfold maxLen; omega) (i64_of 5 (by decide)) i64_0)
    | false =>
      have HS4 := Lib.hid (hf hn)
      have E1 := Lib.hid hn
      obtain ⟨-, hb⟩ := HS4.out.j
      have z0 : w4.cell? ⟨y, 0, none⟩ = some (.int .i64 0) := hb.cell 0
      have x0 := hb.frozen 0
      obtain ⟨w5, hw5⟩ : ∃ w5, w4.setCell ⟨y, 0, none⟩ (.int .i64 4) = w5 := ⟨_, rfl⟩
      have f5 : Fr (fun k => k = y) w4 w5 := by rw [← hw5]; exact fr_set (Fr.refl _ w4)
      have hb5 : Blk w5 y 50 (nd 4 t 0 (.slice none 0 0)) := by rw [← hw5]; exact hb.set_ 0 _
      have HS5 := Lib.hid (HS4.out.put (J' := fun x => Blk x y 50 (nd 4 t 0 (.slice none 0 0))) f5 HWY.out HD.out HG.out hb5 (stable_blk HYD.out))
      have HW5 := Lib.hid hw5
      clear ht hf hn hb hb5 f5 hw5
      go_upto_region 9 with fail
      rw [HW5.out]
      clear z0 x0
      -- what the sign's word comes to
      have HS5d := Lib.hid (HS5.out.no ((Fr.refl No w5).drew))
      have HNEED : Hid (∀ wi mv, St C w (fun x => Blk x y 50 (nd 4 t 0 (.slice none 0 0))) wi r1 b1 → Mt wi mv (amongW signsT) → Calls Tryz.prog 67 #[.pointer (some ⟨C.d, 0, none⟩), mv] wi (SP C w (fun x => Blk x y 50 (nd 4 t 0 (.slice none 0 0))) wi wdR (needW (amongW signsT) r1 b1))) := Lib.hid fun wi mv hs hm => need_s hs hm (inner_among _)
      have HLP : Hid (∀ wi, Pv wi → (cells7 ⟨3, 0, none⟩).run Tryz.prog wi = .ok signs7.cs wi) := Lib.hid fun wi hv => load7 wi signs7 3 fun k hk => hv.signs k hk
      have HAM : Hid (∀ wi, Calls Tryz.prog 115 #[.agg signs7.cs] wi fun e w' => (∃ mv, e = .returned mv ∧ Mt w' mv (amongW signsT)) ∧ Fr No wi w') := Lib.hid fun wi => among_any signs7 wi
      have HPL : Hid (∀ x wi, Calls Tryz.prog 114 #[.agg signs7.cs, sv x] wi fun e w' => e = .returned (.int .i64 (placeW signsT x : Nat)) ∧ Fr No wi w') := Lib.hid fun x wi => place_any signs7 x wi
      have HSZ : Hid (signs7.cs.size = 7) := Lib.hid rfl
      generalize signs7.cs = K7 at *
      cases hR : needW (amongW signsT) r1 b1 with
      | bad cc p =>
        have HV : Hid (testW r b = .bad cc p) := Lib.hid (by have q0 := E0.out; have q1 := E1.out; simp only [testW, q0, q1, hR, PR.then, Bool.false_eq_true, if_false])
        rw [hR] at HNEED
        clear hR
        refine wp_region_held_drew (S := fun w' => (cells7 ⟨3, 0, none⟩).run Tryz.prog w' = .ok K7 w') (by kernel_rfl) (HLP.out _ HS5d.out.rd.pv) (fun hHeld => ?_)
        refine wpAnyH_take (i := 0) (oi := ({ dst := some 31, op := Go.Op.move (Go.Operand.tmp 3), type := 24, pos := "grammar.go:77", after := #[], guard := none } : Go.Oper)) (v := ?_) rfl (by kernel_rfl) (by kernel_rfl) (by kernel_rfl) (fun _ _ _ h => h) (Or.inl ⟨by rfl, ?_⟩) (by assumption) ?_
        rotate_left 1
        · intro w hSw; (try dsimp only at hSw); first | (go_simp; done) | (go_simp; with_reducible rfl)
        try simp only [Act.put, List.setIfInBounds_toArray, List.set_cons_zero, List.set_cons_succ]
        refine wpAnyH_take (i := 1) (oi := ({ dst := some 32, op := Go.Op.load 138 (Go.Operand.global 3), type := 138, pos := "grammar.go:77", after := #[], guard := none } : Go.Oper)) (v := ?_) rfl (by kernel_rfl) (by kernel_rfl) (by kernel_rfl) (fun _ _ _ h => h) (Or.inl ⟨by rfl, ?_⟩) (by assumption) ?_
        rotate_left 1
        · intro w hSw; (try dsimp only at hSw); first | (go_simp; done) | (go_simp; with_reducible rfl)
        try simp only [Act.put, List.setIfInBounds_toArray, List.set_cons_zero, List.set_cons_succ]
        refine wpAnyH_take (i := 2) (oi := ({ dst := some 33, op := Go.Op.move (Go.Operand.tmp 0), type := 92, pos := "grammar.go:77", after := #[], guard := none } : Go.Oper)) (v := ?_) rfl (by kernel_rfl) (by kernel_rfl) (by kernel_rfl) (fun _ _ _ h => h) (Or.inl ⟨by rfl, ?_⟩) (by assumption) ?_
        rotate_left 1
        · intro w hSw; (try dsimp only at hSw); first | (go_simp; done) | (go_simp; with_reducible rfl)
        try simp only [Act.put, List.setIfInBounds_toArray, List.set_cons_zero, List.set_cons_succ]
        refine wpAnyH_take (i := 3) (oi := ({ dst := some 34, op := Go.Op.load 138 (Go.Operand.global 3), type := 138, pos := "grammar.go:77", after := #[], guard := none } : Go.Oper)) (v := ?_) rfl (by kernel_rfl) (by kernel_rfl) (by kernel_rfl) (fun _ _ _ h => h) (Or.inl ⟨by rfl, ?_⟩) (by assumption) ?_
        rotate_left 1
        · intro w hSw; (try dsimp only at hSw); first | (go_simp; done) | (go_simp; with_reducible rfl)
        try simp only [Act.put, List.setIfInBounds_toArray, List.set_cons_zero, List.set_cons_succ]
        refine wpAnyH_ready (rs := [4]) (by kernel_rfl) (by simp) ?_
        refine AllReadyH.cons (o := ({ dst := some 35, op := Go.Op.call { callee := Go.Callee.value (Go.Operand.func 115), args := #[Go.Operand.tmp 34], argTypes := #[138] }, type := 98, pos := "grammar.go:77", after := #[{ on := 3, ground := Go.Ground.data }], guard := none } : Go.Oper)) rfl (fun K hK => ?_) AllReadyH.nil
        go_simp
        (go_at_call 115; (with_reducible refine (HAM.out _).mono ?_); rintro e wa ⟨⟨mv2, rfl, hm⟩, fa⟩; have HSa := Lib.hid (HS5d.out.no fa); have HNN := Lib.hid (HNEED.out wa mv2 HSa.out hm); clear fa hm)
        try (go_wp2_with fail)
        refine hK.out _ _ (HLP.out _ HSa.out.rd.pv) (fun hHeld1 => ?_)
        clear hK K
        try simp only [Act.put, List.setIfInBounds_toArray, List.set_cons_zero, List.set_cons_succ]
        refine wpAnyH_ready (rs := [5]) (by kernel_rfl) (by simp) ?_
        refine AllReadyH.cons (o := ({ dst := some 36, op := Go.Op.call { callee := Go.Callee.value (Go.Operand.func 67), args := #[Go.Operand.tmp 33, Go.Operand.tmp 35], argTypes := #[92, 98] }, type := 42, pos := "grammar.go:77", after := #[{ on := 2, ground := Go.Ground.data }, { on := 4, ground := Go.Ground.data }, { on := 4, ground := Go.Ground.chain }], guard := none } : Go.Oper)) rfl (fun K hK => ?_) AllReadyH.nil
        go_simp
        (go_at_call 67; (with_reducible refine HNN.out.mono ?_); rintro e wb hp; obtain ⟨rfl, fb⟩ := hp)
        try (go_wp2_with fail)
        exact ⟨rfl, St.bad HV.out fb⟩
      | ok x r2 b2 =>
        rw [hR] at HNEED
        have E2 := Lib.hid hR
        obtain ⟨xk, xt, xp⟩ := x
        have hfd := fun w => field42 (.int .i64 (xk : Nat)) (sv xt) (.int .i64 (xp : Nat)) w
        clear hR
        refine wp_region_held_drew (S := fun w' => (cells7 ⟨3, 0, none⟩).run Tryz.prog w' = .ok K7 w') (by kernel_rfl) (HLP.out _ HS5d.out.rd.pv) (fun hHeld => ?_)
        refine wpAnyH_take (i := 0) (oi := ({ dst := some 31, op := Go.Op.move (Go.Operand.tmp 3), type := 24, pos := "grammar.go:77", after := #[], guard := none } : Go.Oper)) (v := ?_) rfl (by kernel_rfl) (by kernel_rfl) (by kernel_rfl) (fun _ _ _ h => h) (Or.inl ⟨by rfl, ?_⟩) (by assumption) ?_
        rotate_left 1
        · intro w hSw; (try dsimp only at hSw); first | (go_simp; done) | (go_simp; with_reducible rfl)
        try simp only [Act.put, List.setIfInBounds_toArray, List.set_cons_zero, List.set_cons_succ]
        refine wpAnyH_take (i := 1) (oi := ({ dst := some 32, op := Go.Op.load 138 (Go.Operand.global 3), type := 138, pos := "grammar.go:77", after := #[], guard := none } : Go.Oper)) (v := ?_) rfl (by kernel_rfl) (by kernel_rfl) (by kernel_rfl) (fun _ _ _ h => h) (Or.inl ⟨by rfl, ?_⟩) (by assumption) ?_
        rotate_left 1
        · intro w hSw; (try dsimp only at hSw); first | (go_simp; done) | (go_simp; with_reducible rfl)
        try simp only [Act.put, List.setIfInBounds_toArray, List.set_cons_zero, List.set_cons_succ]
        refine wpAnyH_take (i := 2) (oi := ({ dst := some 33, op := Go.Op.move (Go.Operand.tmp 0), type := 92, pos := "grammar.go:77", after := #[], guard := none } : Go.Oper)) (v := ?_) rfl (by kernel_rfl) (by kernel_rfl) (by kernel_rfl) (fun _ _ _ h => h) (Or.inl ⟨by rfl, ?_⟩) (by assumption) ?_
        rotate_left 1
        · intro w hSw; (try dsimp only at hSw); first | (go_simp; done) | (go_simp; with_reducible rfl)
        try simp only [Act.put, List.setIfInBounds_toArray, List.set_cons_zero, List.set_cons_succ]
        refine wpAnyH_take (i := 3) (oi := ({ dst := some 34, op := Go.Op.load 138 (Go.Operand.global 3), type := 138, pos := "grammar.go:77", after := #[], guard := none } : Go.Oper)) (v := ?_) rfl (by kernel_rfl) (by kernel_rfl) (by kernel_rfl) (fun _ _ _ h => h) (Or.inl ⟨by rfl, ?_⟩) (by assumption) ?_
        rotate_left 1
        · intro w hSw; (try dsimp only at hSw); first | (go_simp; done) | (go_simp; with_reducible rfl)
        try simp only [Act.put, List.setIfInBounds_toArray, List.set_cons_zero, List.set_cons_succ]
        refine wpAnyH_ready (rs := [4]) (by kernel_rfl) (by simp) ?_
        refine AllReadyH.cons (o := ({ dst := some 35, op := Go.Op.call { callee := Go.Callee.value (Go.Operand.func 115), args := #[Go.Operand.tmp 34], argTypes := #[138] }, type := 98, pos := "grammar.go:77", after := #[{ on := 3, ground := Go.Ground.data }], guard := none } : Go.Oper)) rfl (fun K hK => ?_) AllReadyH.nil
        go_simp
        (go_at_call 115; (with_reducible refine (HAM.out _).mono ?_); rintro e wa ⟨⟨mv2, rfl, hm⟩, fa⟩; have HSa := Lib.hid (HS5d.out.no fa); have HNN := Lib.hid (HNEED.out wa mv2 HSa.out hm); clear fa hm)
        try (go_wp2_with fail)
        refine hK.out _ _ (HLP.out _ HSa.out.rd.pv) (fun hHeld1 => ?_)
        clear hK K
        try simp only [Act.put, List.setIfInBounds_toArray, List.set_cons_zero, List.set_cons_succ]
        refine wpAnyH_ready (rs := [5]) (by kernel_rfl) (by simp) ?_
        refine AllReadyH.cons (o := ({ dst := some 36, op := Go.Op.call { callee := Go.Callee.value (Go.Operand.func 67), args := #[Go.Operand.tmp 33, Go.Operand.tmp 35], argTypes := #[92, 98] }, type := 42, pos := "grammar.go:77", after := #[{ on := 2, ground := Go.Ground.data }, { on := 4, ground := Go.Ground.data }, { on := 4, ground := Go.Ground.chain }], guard := none } : Go.Oper)) rfl (fun K hK => ?_) AllReadyH.nil
        go_simp
        (go_at_call 67; (with_reducible refine HNN.out.mono ?_); rintro e wb hp; obtain ⟨⟨v, rfl, rfl, x1, x2, x3⟩, hsb, -⟩ := hp; have HSb := Lib.hid hsb; clear hsb)
        try (go_wp2_with fail)
        refine hK.out _ _ (HLP.out _ HSb.out.rd.pv) (fun hHeld2 => ?_)
        clear hK K
        try simp only [Act.put, List.setIfInBounds_toArray, List.set_cons_zero, List.set_cons_succ]
        refine wpAnyH_take (i := 6) (oi := ({ dst := some 37, op := Go.Op.field 42 (Go.Operand.tmp 36) 1, type := 9, pos := "grammar.go:77", after := #[{ on := 5, ground := Go.Ground.data }], guard := none } : Go.Oper)) (v := ?_) rfl (by kernel_rfl) (by kernel_rfl) (by kernel_rfl) (fun _ _ _ h => h) (Or.inl ⟨by rfl, ?_⟩) (by assumption) ?_
        rotate_left 1
        · intro w hSw; (try dsimp only at hSw); first | (go_simp; done) | (go_simp; with_reducible rfl)
        try simp only [Act.put, List.setIfInBounds_toArray, List.set_cons_zero, List.set_cons_succ]
        refine wpAnyH_ready (rs := [7]) (by kernel_rfl) (by simp) ?_
        refine AllReadyH.cons (o := ({ dst := some 38, op := Go.Op.call { callee := Go.Callee.value (Go.Operand.func 114), args := #[Go.Operand.tmp 32, Go.Operand.tmp 37], argTypes := #[138, 9] }, type := 3, pos := "grammar.go:77", after := #[{ on := 1, ground := Go.Ground.data }, { on := 6, ground := Go.Ground.data }, { on := 5, ground := Go.Ground.chain }], guard := none } : Go.Oper)) rfl (fun K hK => ?_) AllReadyH.nil
        go_simp
        (go_at_call 114; (with_reducible refine (HPL.out xt _).mono ?_); rintro e wc ⟨rfl, fc⟩; have HSc := Lib.hid (HSb.out.no fc); clear fc)
        have z4 : wc.cell? ⟨y, 4, none⟩ = some (.int .i64 0) := HSc.out.j.cell 4
        have x4 := HSc.out.j.frozen 4
        obtain ⟨N, hN⟩ : ∃ N, placeW signsT xt = N := ⟨_, rfl⟩
        have HNN7 := Lib.hid hN
        rw [hN]
        obtain ⟨wd, hwd⟩ : ∃ wd, wc.setCell ⟨y, 4, none⟩ (.int .i64 (N : Nat)) = wd := ⟨_, rfl⟩
        have fd : Fr (fun k => k = y) wc wd := by rw [← hwd]; exact fr_set (Fr.refl _ wc)
        have HSd := Lib.hid (HSc.out.put (J' := fun x => Blk x y 50 (nd 4 t (N : Nat) (.slice none 0 0))) fd HWY.out HD.out HG.out (by rw [← hwd]; exact HSc.out.j.set_ 4 _) (stable_blk HYD.out))
        have HWD := Lib.hid hwd
        clear hN hwd fd
        try (go_wp2_with fail)
        refine hK.out _ _ (HLP.out _ HSc.out.rd.pv) (fun hHeld3 => ?_)
        clear hK K
        try simp only [Act.put, List.setIfInBounds_toArray, List.set_cons_zero, List.set_cons_succ]
        refine wpAnyH_take (i := 8) (oi := ({ dst := some 39, op := Go.Op.nilCheck (Go.Operand.tmp 31), type := 0, pos := "grammar.go:77", after := #[{ on := 0, ground := Go.Ground.data }, { on := 0, ground := Go.Ground.phase }, { on := 1, ground := Go.Ground.phase }, { on := 2, ground := Go.Ground.phase }, { on := 3, ground := Go.Ground.phase }, { on := 4, ground := Go.Ground.phase }, { on := 5, ground := Go.Ground.phase }, { on := 6, ground := Go.Ground.phase }, { on := 7, ground := Go.Ground.phase }], guard := none } : Go.Oper)) (v := ?_) rfl (by kernel_rfl) (by kernel_rfl) (by kernel_rfl) (fun _ _ _ h => h) (Or.inl ⟨by rfl, ?_⟩) (by assumption) ?_
        rotate_left 1
        · intro w hSw; (try dsimp only at hSw); first | (go_simp; done) | (go_simp; with_reducible rfl)
        try simp only [Act.put, List.setIfInBounds_toArray, List.set_cons_zero, List.set_cons_succ]
        refine wpAnyH_take (i := 9) (oi := ({ dst := some 40, op := Go.Op.fieldAddr 50 (Go.Operand.tmp 39) 4, type := 0, pos := "grammar.go:77", after := #[{ on := 8, ground := Go.Ground.data }, { on := 0, ground := Go.Ground.phase }, { on := 1, ground := Go.Ground.phase }, { on := 2, ground := Go.Ground.phase }, { on := 3, ground := Go.Ground.phase }, { on := 4, ground := Go.Ground.phase }, { on := 5, ground := Go.Ground.phase }, { on := 6, ground := Go.Ground.phase }, { on := 7, ground := Go.Ground.phase }], guard := none } : Go.Oper)) (v := ?_) rfl (by kernel_rfl) (by kernel_rfl) (by kernel_rfl) (fun _ _ _ h => h) (Or.inl ⟨by rfl, ?_⟩) (by assumption) ?_
        rotate_left 1
        · intro w hSw; (try dsimp only at hSw); first | (go_simp; done) | (go_simp; with_reducible rfl)
        try simp only [Act.put, List.setIfInBounds_toArray, List.set_cons_zero, List.set_cons_succ]
        refine wpAnyH_ready (rs := [10]) (by kernel_rfl) (by simp) ?_
        refine AllReadyH.cons (o := ({ dst := none, op := Go.Op.store 3 (Go.Operand.tmp 40) (Go.Operand.tmp 38), type := 0, pos := "grammar.go:77", after := #[{ on := 9, ground := Go.Ground.data }, { on := 7, ground := Go.Ground.data }, { on := 7, ground := Go.Ground.chain }, { on := 0, ground := Go.Ground.phase }, { on := 1, ground := Go.Ground.phase }, { on := 2, ground := Go.Ground.phase }, { on := 3, ground := Go.Ground.phase }, { on := 4, ground := Go.Ground.phase }, { on := 5, ground := Go.Ground.phase }, { on := 6, ground := Go.Ground.phase }, { on := 7, ground := Go.Ground.phase }], guard := none } : Go.Oper)) rfl (fun K hK => ?_) AllReadyH.nil
        go_simp
        rw [HWD.out]
        refine hK.out _ _ (HLP.out _ HSd.out.rd.pv) (fun hHeld4 => ?_)
        clear hK K
        try simp only [Act.put, List.setIfInBounds_toArray, List.set_cons_zero, List.set_cons_succ]
        refine wpAnyH_done (by kernel_rfl) ?_ _
        have CV := Lib.hid (HSd.out.call (val_any HSd.out.rd HSd.out.en) keeps_val)
        unfold rp at CV
        clear z4 x4 hfd
        go_wp2_with fail
        refine CV.out.mono ?_
        clear CV
        rintro e we hp
        cases hR : valW r2 b2 with
        | bad cc p =>
          rw [hR] at hp
          obtain ⟨rfl, f⟩ := hp
          have HF := Lib.hid f
          have HV : Hid (testW r b = .bad cc p) := Lib.hid (by have q0 := E0.out; have q1 := E1.out; have q2 := E2.out; simp only [testW, q0, q1, q2, hR, PR.then, PR.map, Bool.false_eq_true, if_false])
          clear hR f
          go_wp2_with fail
          exact ⟨rfl, St.bad HV.out HF.out⟩
        | ok vl r3 b3 =>
          rw [hR] at hp
          obtain ⟨⟨v, rfl, hv⟩, hse, fe⟩ := hp
          have HV : Hid (testW r b = .ok (.node 4 .none .none t (N : Nat) [vl]) r3 b3) := Lib.hid (by have q0 := E0.out; have q1 := E1.out; have q2 := E2.out; have q3 := HNN7.out; simp only [testW, q0, q1, q2, q3, hR, PR.then, PR.map, Bool.false_eq_true, if_false])
          obtain ⟨v1, v2, v3, rfl, hE⟩ := form_vl hv
          obtain ⟨wf, hwf⟩ : ∃ wf, we.alloc (.cells #[.bool v1, sv v2, .int .i64 v3] 47) = wf := ⟨_, rfl⟩
          have ff : Fr No we wf := by rw [← hwf]; exact (Fr.refl No we).alloc _
          have hgf : Grow w.heap.size 47 3 vlG wf (.slice (some ⟨we.heap.size, 0, none⟩) 1 1) [vl] := by
            rw [← hwf]
            exact Grow.single vlG_elem (w0 := wd) HSd.out.fr.size fe.size vl [.bool v1, sv v2, .int .i64 v3] rfl hE (by decide)
          have hsf := hse.no ff
          have z5 : wf.cell? ⟨y, 5, none⟩ = some (.slice none 0 0) := hsf.j.cell 5
          have x5 := hsf.j.frozen 5
          obtain ⟨ze, hze⟩ : ∃ ze, we.heap.size = ze := ⟨_, rfl⟩
          rw [hze] at hgf
          have hyz : y < ze := by rw [← hze]; exact hse.j.lt
          obtain ⟨wg, hwg⟩ : ∃ wg, wf.setCell ⟨y, 5, none⟩ (.slice (some ⟨ze, 0, none⟩) 1 1) = wg := ⟨_, rfl⟩
          have fg : Fr (fun k => k = y) wf wg := by rw [← hwg]; exact fr_set (Fr.refl _ wf)
          have hrow := hgf.row vlG_elem
          have hown : ∀ k, ze ≤ k → k < wf.heap.size → wg.heap[k]? = wf.heap[k]? := fun k hk hkl => fg.block k hkl (fun e => by have e : k = y := e; omega)
          have hrowg : RowE (fun k => w.heap.size ≤ k) wg 3 (vlG (fun k => w.heap.size ≤ k) wg) (.slice (some ⟨ze, 0, none⟩) 1 1) [vl] := by
            obtain ⟨A', c', e', hm1, hm2, hrest⟩ := hrow
            refine ⟨A', c', e', hm1, hm2, fun h0 => ?_⟩
            obtain ⟨g, off, e1, hg1, hgl, hcs⟩ := hrest h0
            have hgz : g = ze := by
              have h9 := e'.trans (by rw [e1])
              injection h9 with h9 _ _
              injection h9 with h9
              injection h9 with h9 _ _
              exact h9.symm
            subst hgz
            refine ⟨_, off, e1, hg1, Nat.lt_of_lt_of_le hgl fg.size, fun j hj => ?_⟩
            obtain ⟨cs, h1, h2, h3⟩ := hcs j hj
            exact ⟨cs, h1, fun i hi => by rw [cell_of_heap (hown _ (Nat.le_refl _) hgl)]; exact h2 i hi, h3⟩
          have HSg := Lib.hid (hsf.put (J' := fun x => Blk x y 50 (nd 4 t (N : Nat) (.slice (some ⟨ze, 0, none⟩) 1 1)) ∧ RowE (fun k => w.heap.size ≤ k) x 3 (vlG (fun k => w.heap.size ≤ k) x) (.slice (some ⟨ze, 0, none⟩) 1 1) [vl]) fg HWY.out HD.out HG.out ⟨by rw [← hwg]; exact hsf.j.set_ 5 _, hrowg⟩ (stable_and (stable_blk HYD.out) (stable_row vlG_elem HD.out)))
          have HWF := Lib.hid hwf
          have HWG := Lib.hid hwg
          have HZE := Lib.hid hze
          have HPN : Hid (i64 (N : Nat)) := Lib.hid (by have := HNN7.out; have h9 := idx_le xt signsT 0; unfold placeW at this; rw [this] at h9; exact i64_of N (by have : signsT.length = 7 := rfl; omega))
          clear hR hse fe hv hE hwf ff hgf hsf hyz hwg fg hrow hown hrowg hze
          have q5 : (we.alloc (.cells #[.bool v1, sv v2, .int .i64 v3] 47)).cell? ⟨y, 5, none⟩ = some (.slice none 0 0) := by rw [HWF.out]; exact z5
          have p5 : (we.alloc (.cells #[.bool v1, sv v2, .int .i64 v3] 47)).frozen? ⟨y, 5, none⟩ = false := by rw [HWF.out]; exact x5
          clear z5 x5
          go_wp2_with fail
          go_ret
          rw [HWF.out, HZE.out, HWG.out]
          exact HSg.out.ok HV.out (cd_of_blk HSg.out.j.1 HWY.out rfl rfl HSg.out.j.2 (by have := HT8.out; unfold maxLen; omega) (i64_of 4 (by decide)) HPN.out)
end Go.Proofs.YtpdfenpmnpoehaaGreatDoor
