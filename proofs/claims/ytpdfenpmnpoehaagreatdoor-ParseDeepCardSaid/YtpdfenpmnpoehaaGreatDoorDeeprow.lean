/- ParseDeep returns true for every input, and its arguments read as they did; the listed variables hold what the program's text lays. -/
import Derived.Test.YtpdfenpmnpoehaaGreatDoorRK
import Derived.Deep.LoopGhost
namespace Go.Proofs.YtpdfenpmnpoehaaGreatDoor
open Go.RowKit Go.Maps
set_option linter.unusedVariables false

theorem refdepth_any (K : Nat → Prop) : ∀ (c : Cd) (v : Value) (w : World), CdAt K w c v → depthW c ≤ 1000000 → Calls Tryz.prog 22 #[v] w fun e w' => e = .returned (.int .i64 (depthW c : Nat)) ∧ w = w'
  | .none, v, w, h, _ => by
    obtain rfl : v = .pointer none := h
    go_enter Tryz.func22, Tryz.ntmps22
    go_wp2
    go_ret
    exact ⟨rfl, rfl⟩
  | .node k l r col op vals, v, w, h, hb => by
    obtain ⟨g, o, L, R, V, rfl, _, _, c0, c1, c2, _, _, _, hl, hr, _⟩ := h
    have hd : depthW (.node k l r col op vals) = 1 + max (depthW l) (depthW r) := rfl
    have hb1 : depthW l ≤ 1000000 := by omega
    have hb2 : depthW r ≤ 1000000 := by omega
    have HL := Lib.hid (refdepth_any K l L w hl hb1)
    have HR := Lib.hid (refdepth_any K r R w hr hb2)
    have HD := Lib.hid hd
    obtain ⟨pl, rfl⟩ : ∃ p, L = .pointer p := (cdTo_of l 0 L hl).p
    obtain ⟨pr, rfl⟩ : ∃ p, R = .pointer p := (cdTo_of r 0 R hr).p
    obtain ⟨a, ha⟩ : ∃ a, depthW l = a := ⟨_, rfl⟩
    obtain ⟨b, hbb⟩ : ∃ b, depthW r = b := ⟨_, rfl⟩
    rw [ha, hbb] at HD
    rw [ha] at HL hb1
    rw [hbb] at HR hb2
    clear hl hr hd hb c0 ha hbb
    go_enter Tryz.func22, Tryz.ntmps22
    go_wp2_with fail
    refine HL.out.mono ?_
    rintro e w1 ⟨rfl, rfl⟩
    go_wp2_with fail
    refine HR.out.mono ?_
    rintro e w1 ⟨rfl, rfl⟩
    by_cases hab : a < b
    · have hab' : (a < b) = True := eq_true hab
      have e1 : IntKind.i64.wrap ((b : Int) + 1) = ((depthW (.node k l r col op vals) : Nat) : Int) := by rw [HD.out, IntWalk.i64_in _ (by omega)]; omega
      go_wp2_with fail
      go_ret
      exact ⟨by first | rfl | rw [e1] | simp [e1], rfl⟩
    · have hab' : (a < b) = False := eq_false hab
      have e1 : IntKind.i64.wrap ((a : Int) + 1) = ((depthW (.node k l r col op vals) : Nat) : Int) := by rw [HD.out, IntWalk.i64_in _ (by omega)]; omega
      go_wp2_with fail
      go_ret
      exact ⟨by first | rfl | rw [e1] | simp [e1], rfl⟩
def wordsD : List Tx := [[78, 79, 84, 32], [97, 32, 61, 32, 49, 32, 65, 78, 68, 32], [97, 32, 61, 32, 49, 32, 79, 82, 32]]
def headD : Tx := [83, 69, 76, 69, 67, 84, 32, 67, 79, 85, 78, 84, 40, 42, 41, 32, 70, 82, 79, 77, 32, 102, 97, 99, 116, 115, 32, 87, 72, 69, 82, 69, 32]
def deepT (w : Nat) : Nat → Tx
  | 0 => headD
  | k + 1 => deepT w k ++ wordsD.getD w []
def deepB (w k : Nat) : Bool := if 32 < k + 1 then decide (parseW (deepT w k ++ [98, 32, 61, 32, 50]) = (Qy0, 47, 0)) else decide ((parseW (deepT w k ++ [98, 32, 61, 32, 50])).2 = (0, 0)) && depthW (parseW (deepT w k ++ [98, 32, 61, 32, 50])).1.cond == k + 1
theorem deep0 : (List.range 61).all (deepB 0) = true := by decide +kernel
theorem deep1 : (List.range 61).all (deepB 1) = true := by decide +kernel
theorem deep2 : (List.range 61).all (deepB 2) = true := by decide +kernel
end Go.Proofs.YtpdfenpmnpoehaaGreatDoor
namespace Go.Proofs.YtpdfenpmnpoehaaGreatDoor
open Go.RowKit Go.Maps
set_option linter.unusedVariables false

theorem deepT_len (m : Nat) : ∀ k : Nat, (deepT m k).length ≤ 40 + 10 * k
  | 0 => by show headD.length ≤ _; decide
  | k + 1 => by
    have h := deepT_len m k
    have h2 : (wordsD.getD m []).length ≤ 10 := by
      match m with
      | 0 => decide
      | 1 => decide
      | 2 => decide
      | m + 3 => exact Nat.zero_le _
    show (deepT m k ++ wordsD.getD m []).length ≤ _
    rw [List.length_append]
    omega
theorem deepT_succ (m i : Nat) : (deepT m (i + 1)).length = (deepT m i).length + (wordsD.getD m []).length := by
  show (deepT m i ++ wordsD.getD m []).length = _
  rw [List.length_append]
theorem deep_all {m k : Nat} (hm : m ≤ 2) (hk : k ≤ 60) : deepB m k = true := by
  have hr : k ∈ List.range 61 := List.mem_range.2 (by omega)
  match m, hm with
  | 0, _ => exact List.all_eq_true.1 deep0 k hr
  | 1, _ => exact List.all_eq_true.1 deep1 k hr
  | 2, _ => exact List.all_eq_true.1 deep2 k hr
theorem tmod_pm (n : Int) (d : Nat) (hd : 0 < d) : ∃ k : Nat, k < d ∧ (n.tmod d = k ∨ (n.tmod d = -(k : Int) ∧ 0 < k)) := by
  have h1 := Int.tmod_lt_of_pos n (show (0 : Int) < d by omega)
  have h2 := Int.lt_tmod_of_pos n (show (0 : Int) < d by omega)
  refine ⟨(n.tmod d).natAbs, by omega, ?_⟩
  omega
set_option maxRecDepth 100000 in
set_option maxHeartbeats 8000000 in
theorem deep_any (n kd : Int) (hn : i64 n) (hk : i64 kd) (w : World) (hp : Pv w) : Calls Tryz.prog 11 #[.int .i64 n, .int .i64 kd] w (TellsB true w) := by
  have hgd := eqd26
  have heq := eql26
  have HAW := Lib.hid (awake_any w hp)
  have HPV : Hid (∀ w', Fr No w w' → Pv w') := Lib.hid fun w' f' => hp.no f'
  obtain ⟨k, hk60, hr⟩ : ∃ k : Nat, k < 61 ∧ (n.tmod 61 = k ∨ (n.tmod 61 = -(k : Int) ∧ 0 < k)) := tmod_pm n 61 (by decide)
  obtain ⟨m, hm3, hq⟩ : ∃ k : Nat, k < 3 ∧ (kd.tmod 3 = k ∨ (kd.tmod 3 = -(k : Int) ∧ 0 < k)) := tmod_pm kd 3 (by decide)
  have n0 : ((k : Int) < 0) = False := eq_false (by omega)
  have n1 : ((m : Int) < 0) = False := eq_false (by omega)
  have m0 : IntKind.i64.wrap (- -(k : Int)) = (k : Int) := by rw [IntWalk.i64_in _ (by omega)]; omega
  have m1 : IntKind.i64.wrap (- -(m : Int)) = (m : Int) := by rw [IntWalk.i64_in _ (by omega)]; omega
  have mm0 : IntKind.i64.wrap (k : Int) = (k : Int) := IntWalk.i64_in _ (by omega)
  have mm1 : IntKind.i64.wrap (m : Int) = (m : Int) := IntWalk.i64_in _ (by omega)
  have HB := Lib.hid (deep_all (m := m) (k := k) (by omega) (by omega))
  have HK := Lib.hid hk60
  have HM := Lib.hid hm3
  have hmi : (m : Int) < 3 := by omega
  clear hp hk60 hm3
  rcases hr with hr | ⟨hr, hk0⟩ <;> rcases hq with hq | ⟨hq, hm0⟩
  all_goals
    (try have q0 : (0 < (k : Int)) = True := eq_true (by omega))
    (try have q0' : (0 < k) = True := eq_true (by omega))
    (try have q1 : (0 < (m : Int)) = True := eq_true (by omega))
    (try have q1' : (0 < m) = True := eq_true (by omega))
    go_enter Tryz.func11, Tryz.ntmps11
    go_wp2_with fail
    refine HAW.out.mono ?_
    rintro e w1 ⟨rfl, f1⟩
    obtain ⟨b, hb⟩ : ∃ z, w1.heap.size = z := ⟨_, rfl⟩
    obtain ⟨w2, hw2⟩ : ∃ x, w1.alloc (.cells #[sv [78, 79, 84, 32], sv [97, 32, 61, 32, 49, 32, 65, 78, 68, 32], sv [97, 32, 61, 32, 49, 32, 79, 82, 32]] 9) = x := ⟨_, rfl⟩
    have f2 : Fr No w1 w2 := by rw [← hw2]; exact (Fr.refl No w1).alloc _
    have hb2 : Blk w2 b 9 #[sv [78, 79, 84, 32], sv [97, 32, 61, 32, 49, 32, 65, 78, 68, 32], sv [97, 32, 61, 32, 49, 32, 79, 82, 32]] := by rw [← hw2, ← hb]; exact Blk.new w1 9 _
    have F12 := Lib.hid (f1.trans f2 fun _ _ h => h)
    have HB2 := Lib.hid hb2
    have HBB := Lib.hid hb
    have HW2 := Lib.hid hw2
    clear f1 f2 hb2 hb hw2
    go_upto_region 10 with fail
    rw [HBB.out, HW2.out]
    have HWD : Hid (∀ wr, Fr No w2 wr → wr.cell? ⟨b, m, none⟩ = some (sv (wordsD.getD m []))) := Lib.hid fun wr fr => by
      have := (HB2.out.of (fr.block b HB2.out.lt id)).cell m
      rw [this]
      have hm := HM.out
      match m, hm with
      | 0, _ => rfl
      | 1, _ => rfl
      | 2, _ => rfl
    have HCAT : Hid (∀ i, i < 61 → ∀ w0, (Op.stringOp .add ⟨(deepT m i).toArray⟩ ⟨(wordsD.getD m []).toArray⟩).run Tryz.prog w0 = .ok (.string ⟨(deepT m (i + 1)).toArray⟩) w0) := Lib.hid fun i hi w0 => run_cat (deepT m i) (wordsD.getD m []) (by have h1 := deepT_len m (i + 1); have h2 := deepT_succ m i; unfold maxLen; omega) w0
    obtain ⟨WW, hWW⟩ : ∃ x, wordsD.getD m [] = x := ⟨_, rfl⟩
    rw [hWW] at HWD HCAT
    clear hWW
    go_wp2_with fail
    go_loopg [7, 10] k (fun g r7 r10 wr => Hid (∃ i : Nat, r10 = .int .i64 (i : Nat) ∧ i + g = k ∧ r7 = sv (deepT m i) ∧ Fr No w2 wr))
    case atStart => exact Lib.hid ⟨0, rfl, by omega, rfl, Fr.refl _ _⟩
    case round =>
      obtain ⟨i, rfl, hik, rfl, hf⟩ := hrel.out
      have HF := Lib.hid hf
      have HIK := Lib.hid hik
      have hc := HWD.out wr hf
      clear hrel hf
      by_cases hi : i < k
      · have hii : (i : Int) < (k : Int) := by omega
        have hcat := HCAT.out i (by have := HK.out; omega)
        obtain ⟨S0, hS0⟩ : ∃ x, deepT m i = x := ⟨_, rfl⟩
        obtain ⟨S1, hS1⟩ : ∃ x, deepT m (i + 1) = x := ⟨_, rfl⟩
        rw [hS0, hS1] at hcat
        rw [hS0]
        have HS1 := Lib.hid hS1
        have e9 : IntKind.i64.wrap ((i : Int) + 1) = ((i + 1 : Nat) : Int) := by rw [IntWalk.i64_in _ (by have := HK.out; omega)]; omega
        clear hS0 hS1
        go_wp2_with fail
        have hik2 := HIK.out
        obtain ⟨g1, rfl⟩ : ∃ g1, gk = g1 + 1 := ⟨gk - 1, by omega⟩
        go_roundg g1
        case rel => exact Lib.hid ⟨i + 1, rfl, by omega, by rw [HS1.out], HF.out⟩
        all_goals omega
      · have hii : (k : Int) ≤ (i : Int) := by omega
        obtain rfl : i = k := by have := HIK.out; omega
        have FW := Lib.hid (F12.out.trans HF.out fun _ _ h => h)
        have hl5 : (deepT m i ++ [98, 32, 61, 32, 50]).length ≤ 1000 := by have := deepT_len m i; have := HK.out; simp; omega
        have hcat : ∀ w0, (Op.stringOp .add ⟨(deepT m i).toArray⟩ ⟨#[98, 32, 61, 32, 50]⟩).run Tryz.prog w0 = .ok (.string ⟨(deepT m i ++ [98, 32, 61, 32, 50]).toArray⟩) w0 := fun w0 => run_cat (deepT m i) [98, 32, 61, 32, 50] (by simp at hl5; unfold maxLen; simp; omega) w0
        have hB := HB.out
        unfold deepB at hB
        obtain ⟨T, hT⟩ : ∃ x, deepT m i ++ [98, 32, 61, 32, 50] = x := ⟨_, rfl⟩
        rw [hT] at hB hcat hl5
        obtain ⟨S0, hS0⟩ : ∃ x, deepT m i = x := ⟨_, rfl⟩
        rw [hS0] at hcat ⊢
        have HL5 := Lib.hid hl5
        clear hT hS0 hl5 hc
        by_cases h32 : 32 < i + 1
        · rw [if_pos h32] at hB
          have hP := of_decide_eq_true hB
          have HP := Lib.hid (l_parse T wr (HPV.out wr FW.out) (by have := HL5.out; unfold maxLen; omega) hP)
          have e1 : IntKind.i64.wrap ((i : Int) + 1) = (i : Int) + 1 := IntWalk.i64_in _ (by have := HK.out; omega)
          have hgt : ((32 : Int) < (i : Int) + 1) = True := eq_true (by omega)
          clear hB hP h32
          go_wp2_with fail
          refine HP.out.mono ?_
          rintro e w3 ⟨A1, c1, px, A2, c2, rfl, hq3, f3⟩
          obtain rfl : px = none := by
            obtain ⟨_, _, _, e, _, _, hc, _⟩ := hq3
            cases e
            have hc : (Value.pointer px) = .pointer none := hc
            injection hc
          have hV : qyV Qy0 A1 c1 none A2 c2 = .agg #[.slice A1 0 c1, sv [], .pointer none, .bool false, .slice A2 0 c2] := rfl
          rw [hV]
          obtain ⟨y, hy⟩ : ∃ z, w3.heap.size = z := ⟨_, rfl⟩
          obtain ⟨w4, hw4⟩ : ∃ x, w3.alloc (.cells #[.slice A1 0 c1, sv [], .pointer none, .bool false, .slice A2 0 c2] 27) = x := ⟨_, rfl⟩
          have g4 : Fr No w3 w4 := by rw [← hw4]; exact (Fr.refl No w3).alloc _
          have b4 : Blk w4 y 27 #[.slice A1 0 c1, sv [], .pointer none, .bool false, .slice A2 0 c2] := by rw [← hw4, ← hy]; exact Blk.new w3 27 _
          have s4 : w4.heap.size = y + 1 := by rw [← hw4, ← hy]; simp
          obtain ⟨w5, hw5⟩ : ∃ x, w4.alloc (.cells #[.int .i64 47, .int .i64 0] 30) = x := ⟨_, rfl⟩
          have g5 : Fr No w4 w5 := by rw [← hw5]; exact (Fr.refl No w4).alloc _
          have b5 : Blk w5 (y + 1) 30 #[.int .i64 47, .int .i64 0] := by rw [← hw5, ← s4]; exact Blk.new w4 30 _
          have b45 := b4.of (g5.block y b4.lt id)
          have x0 : w5.cell? ⟨y, 2, none⟩ = some (.pointer none) := b45.cell 2
          have x1 : w5.cell? ⟨y + 1, 0, none⟩ = some (.int .i64 47) := b5.cell 0
          have x2 : w5.cell? ⟨y + 1, 1, none⟩ = some (.int .i64 0) := b5.cell 1
          have FE := Lib.hid (FW.out.trans ((f3.trans g4 fun _ _ h => h).trans g5 fun _ _ h => h) fun _ _ h => h)
          have HY := Lib.hid hy
          have HW4 := Lib.hid hw4
          have HW5 := Lib.hid hw5
          clear hq3 f3 hV hy hw4 g4 b4 s4 hw5 g5 b5 b45 HP
          go_upto_region 15 with fail
          rw [HY.out, HW4.out, HW5.out]
          go_wp2_with fail
          go_ret
          exact ⟨rfl, FE.out⟩
        · rw [if_neg h32] at hB
          simp only [Bool.and_eq_true, decide_eq_true_eq, beq_iff_eq] at hB
          obtain ⟨q, cc, pp, hP⟩ : ∃ q c p, parseW T = (q, c, p) := ⟨_, _, _, rfl⟩
          rw [hP] at hB
          obtain ⟨hB1, hB2⟩ := hB
          obtain ⟨rfl, rfl⟩ : cc = 0 ∧ pp = 0 := by simpa using hB1
          have HP := Lib.hid (l_parse T wr (HPV.out wr FW.out) (by have := HL5.out; unfold maxLen; omega) hP)
          have e1 : IntKind.i64.wrap ((i : Int) + 1) = (i : Int) + 1 := IntWalk.i64_in _ (by have := HK.out; omega)
          have hgt : ((32 : Int) < (i : Int) + 1) = False := eq_false (by omega)
          have HD : Hid (depthW q.cond = i + 1) := Lib.hid hB2
          clear hB1 hB2 hP h32
          go_wp2_with fail
          refine HP.out.mono ?_
          rintro e w3 ⟨A1, c1, px, A2, c2, rfl, hq3, f3⟩
          have hcd : CdAt (fun k => wr.heap.size ≤ k) w3 q.cond (.pointer px) := by
            obtain ⟨_, _, _, e, _, _, hc, _⟩ := hq3
            cases e
            exact hc
          unfold qyV
          obtain ⟨ni, hni⟩ : ∃ x, q.items.length = x := ⟨_, rfl⟩
          obtain ⟨ng, hng⟩ : ∃ x, q.groups.length = x := ⟨_, rfl⟩
          obtain ⟨tb, htb⟩ : ∃ x, q.table = x := ⟨_, rfl⟩
          obtain ⟨gd, hgdd⟩ : ∃ x, q.grouped = x := ⟨_, rfl⟩
          rw [hni, hng, htb, hgdd]
          clear hni hng htb hgdd
          obtain ⟨y, hy⟩ : ∃ z, w3.heap.size = z := ⟨_, rfl⟩
          obtain ⟨w4, hw4⟩ : ∃ x, w3.alloc (.cells #[.slice A1 ni c1, sv tb, .pointer px, .bool gd, .slice A2 ng c2] 27) = x := ⟨_, rfl⟩
          have g4 : Fr No w3 w4 := by rw [← hw4]; exact (Fr.refl No w3).alloc _
          have b4 : Blk w4 y 27 #[.slice A1 ni c1, sv tb, .pointer px, .bool gd, .slice A2 ng c2] := by rw [← hw4, ← hy]; exact Blk.new w3 27 _
          have s4 : w4.heap.size = y + 1 := by rw [← hw4, ← hy]; simp
          obtain ⟨w5, hw5⟩ : ∃ x, w4.alloc (.cells #[.int .i64 0, .int .i64 0] 30) = x := ⟨_, rfl⟩
          have g5 : Fr No w4 w5 := by rw [← hw5]; exact (Fr.refl No w4).alloc _
          have b5 : Blk w5 (y + 1) 30 #[.int .i64 0, .int .i64 0] := by rw [← hw5, ← s4]; exact Blk.new w4 30 _
          have b45 := b4.of (g5.block y b4.lt id)
          have g45 := g4.trans g5 fun _ _ h => h
          have hcd5 := hcd.mono (K' := fun k => wr.heap.size ≤ k) (w' := w5) fun k hk hkl => ⟨hk, g45.block k hkl id⟩
          have HRD := Lib.hid (refdepth_any _ q.cond _ w5 hcd5 (by have := HD.out; have := HK.out; omega))
          rw [HD.out] at HRD
          have x0 : w5.cell? ⟨y, 2, none⟩ = some (.pointer px) := b45.cell 2
          have x1 : w5.cell? ⟨y + 1, 0, none⟩ = some (.int .i64 0) := b5.cell 0
          have x2 : w5.cell? ⟨y + 1, 1, none⟩ = some (.int .i64 0) := b5.cell 1
          have FE := Lib.hid (FW.out.trans (f3.trans g45 fun _ _ h => h) fun _ _ h => h)
          have HY := Lib.hid hy
          have HW4 := Lib.hid hw4
          have HW5 := Lib.hid hw5
          clear hq3 f3 hcd hcd5 hy hw4 g4 b4 s4 hw5 g5 b5 b45 g45 HP
          go_upto_region 15 with fail
          rw [HY.out, HW4.out, HW5.out]
          go_wp2_with fail
          refine HRD.out.mono ?_
          rintro e w6 ⟨rfl, rfl⟩
          go_wp2_with fail
          go_ret
          exact ⟨rfl, FE.out⟩
end Go.Proofs.YtpdfenpmnpoehaaGreatDoor
namespace Go.Proofs.YtpdfenpmnpoehaaGreatDoor
open Go.RowKit Go.ChangeShapes Go.WideShapes Go.ChangeAt
open Go.ChangeMaps (open_string shut_string)
set_option linter.unusedVariables false

theorem witness_parsedeep (os : Os) {H : Type} (enc : TypeId × Value → H) :
    (OpenSpec.ofChange Rows.parseDeepSpec).preRow enc Tryz.prog Tryz.f11 Rows.parseDeepRow.domain false laidN ((layW os).forCall (fun _ _ => 0) ⟨#[], #[.int .i64 0, .int .i64 0], []⟩).memory #[.int .i64 0, .int .i64 0] := by
  have hw : (DataW.whole enc Tryz.prog ((layW os).forCall (fun _ _ => 0) ⟨#[], #[.int .i64 0, .int .i64 0], []⟩).memory Tryz.f11.params.toList (OpenSpec.ofChange Rows.parseDeepSpec).vars false #[Value.int .i64 0, Value.int .i64 0].toList 8).map (fun x => (x.1, x.2.1)) =
      some ([.lit (.int .i64 0), .lit (.int .i64 0)], []) := by kernel_rfl
  obtain ⟨⟨x1, x2, x3⟩, hx, hx1⟩ := Option.map_eq_some_iff.1 hw
  simp only [Prod.mk.injEq] at hx1
  obtain ⟨rfl, rfl⟩ := hx1
  exact OpenSpec.preRow_of_cond 8 hx (by kernel_rfl) (fun k hk => by cases hk) (by kernel_rfl) (door_met os _)
set_option maxRecDepth 100000 in
set_option maxHeartbeats 2000000 in
theorem parsedeep_lifted (os : Os) (started : os.Started) (H : Type) (enc : TypeId × Value → H) (F : Stop.Interp) :
    ReturnsInHanded {} Tryz.checked os 11 .any ((OpenSpec.ofChange Rows.parseDeepSpec).preRow enc Tryz.prog Tryz.f11 Rows.parseDeepRow.domain false laidN) (((OpenSpec.ofChange Rows.parseDeepSpec).at F).post enc Tryz.prog Tryz.f11 false true false false) := by
  refine returnsInHanded_of_row (C := Tryz.checked) (s := OpenSpec.ofChange Rows.parseDeepSpec) ownN started (by kernel_rfl) Tryz.func11
    (witness_row_atRef (enc := enc) (C := Tryz.checked) false (layW os) #[.int .i64 0, .int .i64 0] rfl (by kernel_rfl) (by kernel_rfl) (by kernel_rfl) (witness_parsedeep os enc)) ?_
  intro W base args ds gs before hval0 hW hcnd0 hkk _ hL hS _
  clear hcnd0 hkk
  have hval : ∀ (j : Nat) t v, Tryz.f11.params[j]? = some t → args[j]? = some v → Value.okWide Tryz.prog W .any base t v := hval0
  have hW1 : DataW.Whole enc Tryz.prog Tryz.f11.params.toList Rows.parseDeepSpec.vars false W args.toList ds gs before := hW
  clear hW
  have hW' := hW1
  obtain ⟨p, q, hA0, hV0, rfl, _, _⟩ := hW1
  have hA : DataW.TrodAll enc Tryz.prog W 0 (fun _ => true) true Tryz.f11.params.toList args.toList ds p := hA0
  rw [Tryz.params11] at hA hval
  obtain ⟨v0, v1, d0, d1, p0, p1, rfl, rfl, rfl, h0, h1⟩ := trodAll_two hA
  obtain ⟨rfl, rfl⟩ := trodVars_none hV0
  obtain ⟨n, rfl, rfl, rfl, wn⟩ := open_int Tryz.underlying3 (hval 0 3 v0 rfl rfl) h0
  obtain ⟨kd, rfl, rfl, rfl, wk⟩ := open_int Tryz.underlying3 (hval 1 3 v1 rfl rfl) h1
  clear hA0 hV0 hval0
  have hn : i64 n := by
    have e1 : IntKind.i64.min = -9223372036854775808 := rfl
    have e2 : IntKind.i64.max = 9223372036854775807 := rfl
    simp [Lit.wf, e1, e2] at wn
    exact ⟨by omega, by omega⟩
  have hk : i64 kd := by
    have e1 : IntKind.i64.min = -9223372036854775808 := rfl
    have e2 : IntKind.i64.max = 9223372036854775807 := rfl
    simp [Lit.wf, e1, e2] at wk
    exact ⟨by omega, by omega⟩
  refine (deep_any n kd hn hk W (pv_of_laid hL hS)).mono ?_
  rintro e W' ⟨rfl, hf⟩
  have bel := hf.below
  refine ⟨_, rfl, _, _, _, [], [], [], hW', ?_, ?_, ?_, bel.frame _, fun h => by cases h⟩
  · exact trodAll_mk1 (shut_bool Tryz.underlying4 true)
  · exact trodAll_mk2 (shut_int Tryz.underlying3 wn) (shut_int Tryz.underlying3 wk)
  · rfl
theorem parsedeep_holds : Rows.ParseDeepSaid :=
  OpenClaim.holds_of_cond 11 Tryz.f11 rfl rfl rfl rfl rfl rfl rfl ⟨rfl, rfl, rfl, rfl, rfl⟩ rfl rfl rfl rfl rfl (by kernel_rfl) Tryz.func11 (by kernel_rfl)
    (of_decide_eq_true (by kernel_rfl)) (by unfold Func.isWrapper; first | (rw [if_pos (by decide +kernel)]; kernel_rfl) | (rw [if_neg (by decide +kernel)]; exact ⟨rfl, rfl⟩))
    (fun os started H enc _ F => by rw [OpenClaim.pre_eq_preRow]; exact parsedeep_lifted os started H enc F)
theorem parsedeep_card : Rows.ParseDeepCardSaid :=
  Claim7.holds_tied_plain_at .later [] [.data, .data, .data, .data, .sentinel, .sentinel, .data, .data, .wider, .wider, .pinned] true (true, "bbe92bef838cc2fcf518eb7476c5f49b84a86a6f48aa8d19fb30516257843c97") true
    parsedeep_holds (fun _ h => by cases h) (by kernel_rfl) (fun _ h => by cases h) parseDeep_row_tie rfl ⟨rfl, rfl⟩ (by kernel_rfl) rfl
    (fun f fn hf hfn => by
      obtain rfl : f = 11 := Option.some.inj ((show Tryz.prog.funcNamed "caisson/caissonlaw10.ParseDeep" = some 11 by kernel_rfl).symm.trans hf) |>.symm
      obtain rfl : fn = Tryz.f11 := (Option.some.inj (Tryz.func11.symm.trans hfn)).symm
      exact ⟨by kernel_rfl, fun j t ht => by
        rw [Tryz.params11] at ht
        have h3 : t = 3 := by
          rcases j with _ | _ | j
          · simpa using ht.symm
          · simpa using ht.symm
          · simp at ht
        rcases h3 with rfl
        exact (show Tryz.prog.wantsStandIn 3 = false by kernel_rfl)⟩)
    (by kernel_rfl)
end Go.Proofs.YtpdfenpmnpoehaaGreatDoor
