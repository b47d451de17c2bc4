/- The document's Right: conditions. -/
import Derived.Test.YtkcnbmgaeompjaaGreatDoorY2
import Derived.Deep.DeepCutAuto
namespace Go.Proofs.YtkcnbmgaeompjaaGreatDoor
open Go.RowKit Go.Maps
set_option linter.unusedVariables false

def DRP (b : Nat) (x : Option Nat) (w : World) (e : Ending) (w' : World) : Prop := e = .returned (.bool x.isSome) ∧ Fr (fun k => k = b) w w' ∧ ∀ m : Nat, x = some m → Blk w' b 70 #[.int .i64 (m : Nat)]
def DRI (K : Nat → Prop) (b d : Nat) : Prop := ∀ (c : Cd) (v : Value) (w : World) (deep n : Nat) (di : Int), di = (deep : Nat) → deep ≤ d → CdTo K w d c v → Blk w b 70 #[.int .i64 (n : Nat)] → n ≤ 100000 → deep ≤ 1000 →
    Calls Tryz.prog 45 #[v, .int .i64 di, .pointer (some ⟨b, 0, none⟩)] w (DRP b (rightC c deep n) w)
set_option maxRecDepth 100000 in
/-- The conditions that are refused at once. -/
theorem dr_none (b : Nat) (w : World) (deep n : Nat) (di : Int) : Calls Tryz.prog 45 #[.pointer none, .int .i64 di, .pointer (some ⟨b, 0, none⟩)] w (DRP b (rightC .none deep n) w) := by
  rw [right_none]
  go_enter Tryz.func45, Tryz.ntmps45
  go_wp2_with fail
  go_ret
  exact ⟨rfl, Fr.refl _ _, fun m h => by cases h⟩
set_option maxRecDepth 100000 in
theorem dr_deep (b g o : Nat) (w : World) : Calls Tryz.prog 45 #[.pointer (some ⟨g, o, none⟩), .int .i64 0, .pointer (some ⟨b, 0, none⟩)] w (DRP b none w) := by
  go_enter Tryz.func45, Tryz.ntmps45
  go_wp2_with fail
  go_ret
  exact ⟨rfl, Fr.refl _ _, fun m h => by cases h⟩
set_option maxRecDepth 100000 in
theorem dr_left (b g o : Nat) (w : World) (di : Int) (hd : (di == 0) = false) (hb : Blk w b 70 #[.int .i64 0]) : Calls Tryz.prog 45 #[.pointer (some ⟨g, o, none⟩), .int .i64 di, .pointer (some ⟨b, 0, none⟩)] w (DRP b none w) := by
  have c0 : w.cell? ⟨b, 0, none⟩ = some (.int .i64 0) := hb.cell 0
  clear hb
  go_enter Tryz.func45, Tryz.ntmps45
  go_wp2_with fail
  go_ret
  exact ⟨rfl, Fr.refl _ _, fun m h => by cases h⟩
theorem bare_false {col : Tx} {op : Int} {vals : List Vl} (h : bareC col op vals = false) : col ≠ [] ∨ (col = [] ∧ op ≠ 0) ∨ (col = [] ∧ op = 0 ∧ vals ≠ []) := by
  by_cases h1 : col = []
  · by_cases h2 : op = 0
    · refine .inr (.inr ⟨h1, h2, ?_⟩)
      rintro rfl
      subst h1 h2
      exact absurd h (by decide)
    · exact .inr (.inl ⟨h1, h2⟩)
  · exact .inl h1
theorem bare_true {col : Tx} {op : Int} {vals : List Vl} (h : bareC col op vals = true) : col = [] ∧ op = 0 ∧ vals = [] := by
  unfold bareC at h
  simp only [Bool.and_eq_true, List.isEmpty_iff, beq_iff_eq] at h
  exact ⟨h.1.1, h.1.2, h.2⟩
theorem eql_empty {t : Tx} (h : t ≠ []) (w : World) : (binOp .eql 9 (sv t) (.string ⟨#[]⟩)).run Tryz.prog w = .ok (.bool false) w := by
  have := eql_str t [] w
  rw [decide_eq_false h] at this
  exact this
set_option maxRecDepth 100000 in
set_option maxHeartbeats 16000000 in
theorem dr_node {K : Nat → Prop} {b d deep n : Nat} {k : Int} {l r : Cd} {col : Tx} {op : Int} {vals : List Vl} {v : Value} {w : World} {di : Int} (hKb : ∀ k, K k → k ≠ b) (hIH : DRI K b d) (hdi : di = ((deep + 1 : Nat) : Int)) (hd : deep ≤ d) (hA : CdTo K w (d + 1) (.node k l r col op vals) v) (hb : Blk w b 70 #[.int .i64 ((n + 1 : Nat) : Int)]) (hn : n + 1 ≤ 100000) (hdd : deep ≤ 1000) :
    Calls Tryz.prog 45 #[v, .int .i64 di, .pointer (some ⟨b, 0, none⟩)] w (DRP b (rightC (.node k l r col op vals) (deep + 1) (n + 1)) w) := by
  obtain ⟨g, o, L, R, V, rfl, hK, hg, hN, hl, hr, hv, hcl, _, _⟩ := hA
  have hgb := hKb g hK
  have HAT : Hid (∀ w2, Fr (fun k => k = b) w w2 → NodeC w2 g o k L R col op V ∧ CdTo K w2 d l L ∧ CdTo K w2 d r R ∧ RowE K w2 3 (vlG K w2) V vals) := Lib.hid fun w2 f2 =>
    have hk : ∀ k, K k → k < w.heap.size → K k ∧ w2.heap[k]? = w.heap[k]? := fun k h1 h2 => ⟨h1, f2.block k h2 (hKb k h1)⟩
    ⟨hN.of (f2.block g hg hgb), hl.mono hk, hr.mono hk, hv.mono hk fun _ _ h => h⟩
  have HEND : Hid (∀ (x : Option Nat) e w', rightC (.node k l r col op vals) (deep + 1) (n + 1) = x → e = .returned (.bool x.isSome) → Fr (fun k => k = b) w w' → (∀ m : Nat, x = some m → Blk w' b 70 #[.int .i64 (m : Nat)]) → DRP b (rightC (.node k l r col op vals) (deep + 1) (n + 1)) w e w') := Lib.hid fun x e w' h1 h2 h3 h4 => by rw [h1]; exact ⟨h2, h3, h4⟩
  have hz : (di == 0) = false := by simp; omega
  have HDI := Lib.hid hdi
  have HIH := Lib.hid hIH
  have HD := Lib.hid (show deep ≤ d ∧ deep ≤ 1000 ∧ n + 1 ≤ 100000 from ⟨hd, hdd, hn⟩)
  have hwrap : IntKind.i64.wrap (((n + 1 : Nat) : Int) - 1) = (n : Int) := by rw [IntWalk.i64_in _ (by omega)]; omega
  have hn0 : (((n + 1 : Nat) : Int) == 0) = false := by simp; omega
  have hwn : IntKind.i64.wrap (n : Int) = (n : Int) := IntWalk.i64_in _ (by omega)
  have hdw : IntKind.i64.wrap (di - 1) = (deep : Int) := by rw [hdi, IntWalk.i64_in _ (by omega)]; omega
  have c0 : w.cell? ⟨b, 0, none⟩ = some (.int .i64 ((n + 1 : Nat) : Int)) := hb.cell 0
  have x0 : w.frozen? ⟨b, 0, none⟩ = false := hb.frozen 0
  obtain ⟨ws, hws⟩ : ∃ ws, w.setCell ⟨b, 0, none⟩ (.int .i64 (n : Int)) = ws := ⟨_, rfl⟩
  have fs : Fr (fun k => k = b) w ws := by rw [← hws]; exact fr_set (Fr.refl _ w)
  have bs : Blk ws b 70 #[.int .i64 (n : Int)] := by rw [← hws]; exact hb.set_ 0 _
  obtain ⟨pl, rfl⟩ : ∃ p, L = .pointer p := hl.p
  obtain ⟨pr, rfl⟩ : ∃ p, R = .pointer p := hr.p
  obtain ⟨A, c, rfl⟩ : ∃ A c, V = .slice A vals.length c := by obtain ⟨A, c, e, _⟩ := hv; exact ⟨_, _, e⟩
  have hvl : vals.length ≤ 9223372036854775807 := by
    obtain ⟨A', c', e, h1, h2, _⟩ := hv
    unfold maxLen at h2
    injection e with _ e2 e3
    omega
  have HFS := Lib.hid fs
  have HBS := Lib.hid bs
  have HWS := Lib.hid hws
  have HCL := Lib.hid hcl
  clear hN hl hr hv hb hK hgb fs bs hws hIH hcl hdi hd hn hdd
  obtain ⟨q0, q1, q2, q3, q4, q5⟩ := (HAT.out ws HFS.out).1
  go_enter Tryz.func45, Tryz.ntmps45
  go_upto_region 4 with fail
  rw [HWS.out]
  clear c0 x0 hwrap hn0 hz
  go_cut [7] (fun rv wx => rv = .bool (bareC col op vals) ∧ ws = wx)
  case first =>
    cases hbb : bareC col op vals with
    | true =>
      obtain ⟨rfl, rfl, rfl⟩ := bare_true hbb
      go_wp2_with fail
      go_meet
      exact ⟨rfl, rfl⟩
    | false =>
      rcases bare_false hbb with h1 | ⟨rfl, h1⟩ | ⟨rfl, rfl, h1⟩
      · have hs := eql_empty h1
        have hie : col.isEmpty = false := by
          cases col with
          | nil => exact absurd rfl h1
          | cons a l => rfl
        go_wp2_with fail
        go_meet
        exact ⟨by rw [hbb], rfl⟩
      · have h1b : (op == 0) = false := by simpa using h1
        go_wp2_with fail
        go_meet
        exact ⟨by rw [hbb], rfl⟩
      · have h1b : ((vals.length : Int) == 0) = false := by
          cases vals with
          | nil => exact absurd rfl h1
          | cons x l => simp; omega
        go_wp2_with fail
        go_meet
        exact ⟨by rw [hbb], rfl⟩
  case rest =>
    obtain ⟨rfl, rfl⟩ := hcut
    obtain ⟨pb, hpb⟩ : ∃ pb, bareC col op vals = pb := ⟨_, rfl⟩
    rw [hpb]
    have HPB := Lib.hid hpb
    clear hpb
    have HNO : Hid (∀ e w', rightC (.node k l r col op vals) (deep + 1) (n + 1) = none → e = .returned (.bool false) → Fr (fun k => k = b) w w' → DRP b (rightC (.node k l r col op vals) (deep + 1) (n + 1)) w e w') := Lib.hid fun e w' h1 h2 h3 => HEND.out none e w' h1 h2 h3 (fun m h => by cases h)
    by_cases k12 : k = 1 ∨ k = 2
    · have htwo := rc_two k12 l r col op vals deep n
      rw [HPB.out] at htwo
      cases pb with
      | false =>
        have HV := Lib.hid htwo
        clear htwo
        rcases k12 with rfl | rfl
        all_goals
          go_wp2_with fail
          go_ret
          exact HNO.out _ _ (HV.out.trans rfl) rfl HFS.out
      | true =>
        have HV : Hid (rightC (.node k l r col op vals) (deep + 1) (n + 1) = (rightC l deep n).bind fun m => rightC r deep m) := Lib.hid htwo
        have HL := Lib.hid (HIH.out l _ ws deep n _ rfl HD.out.1 (HAT.out ws HFS.out).2.1 HBS.out (by have := HD.out.2.2; omega) HD.out.2.1)
        obtain ⟨xl, hxl⟩ : ∃ x, rightC l deep n = x := ⟨_, rfl⟩
        have hle : ∀ m, xl = some m → m ≤ n := fun m e => right_le l deep n m (hxl.trans e)
        rw [hxl] at HL HV
        have HLE := Lib.hid hle
        clear htwo hxl hle
        rcases k12 with rfl | rfl
        all_goals
          go_wp2_with fail
          refine HL.out.mono ?_
          clear HL
          rintro e w3 ⟨rfl, f3, hb3⟩
          have HF3 := Lib.hid (HFS.out.trans f3 fun _ _ h => h)
          have HB3 := Lib.hid hb3
          clear f3 hb3
          obtain ⟨p0, p1, p2, p3, p4, p5⟩ := (HAT.out w3 HF3.out).1
          cases xl with
          | none =>
            go_wp2_with fail
            go_ret
            exact HNO.out _ _ (HV.out.trans rfl) rfl HF3.out
          | some m =>
            have HR := Lib.hid (HIH.out r _ w3 deep m _ rfl HD.out.1 (HAT.out w3 HF3.out).2.2.1 (HB3.out m rfl) (by have := HD.out.2.2; have := HLE.out m rfl; omega) HD.out.2.1)
            have HV2 : Hid (rightC (.node _ l r col op vals) (deep + 1) (n + 1) = rightC r deep m) := Lib.hid (HV.out.trans rfl)
            obtain ⟨xr, hxr⟩ : ∃ x, rightC r deep m = x := ⟨_, rfl⟩
            rw [hxr] at HR HV2
            clear hxr
            go_wp2_with fail
            refine HR.out.mono ?_
            clear HR
            rintro e w4 ⟨rfl, f4, hb4⟩
            have HF4 := Lib.hid (HF3.out.trans f4 fun _ _ h => h)
            have HB4 := Lib.hid hb4
            clear f4 hb4
            go_wp2_with fail
            go_ret
            exact HEND.out _ _ _ HV2.out rfl HF4.out HB4.out
    · have k1 : (k == 1) = false := by simp; omega
      have k2 : (k == 2) = false := by simp; omega
      by_cases k3 : k = 3
      · subst k3
        have hnot := rc_not l r col op vals deep n
        rw [HPB.out] at hnot
        cases pb with
        | false =>
          have HV : Hid (rightC (.node 3 l r col op vals) (deep + 1) (n + 1) = none) := Lib.hid (hnot.trans (if_neg (fun h => by cases h.1)))
          clear hnot
          go_wp2_with fail
          go_ret
          exact HNO.out _ _ HV.out rfl HFS.out
        | true =>
          rcases (HAT.out ws HFS.out).2.2.1.ptr with ⟨hr0, e0⟩ | ⟨hr0, gr, or, e0⟩
          · obtain rfl : pr = none := by injection e0
            have HV : Hid (rightC (.node 3 l r col op vals) (deep + 1) (n + 1) = rightC l deep n) := Lib.hid (hnot.trans (if_pos ⟨rfl, hr0⟩))
            have HL := Lib.hid (HIH.out l _ ws deep n _ rfl HD.out.1 (HAT.out ws HFS.out).2.1 HBS.out (by have := HD.out.2.2; omega) HD.out.2.1)
            obtain ⟨xl, hxl⟩ : ∃ x, rightC l deep n = x := ⟨_, rfl⟩
            rw [hxl] at HL HV
            clear hnot hxl hr0 e0
            go_wp2_with fail
            refine HL.out.mono ?_
            clear HL
            rintro e w3 ⟨rfl, f3, hb3⟩
            have HF3 := Lib.hid (HFS.out.trans f3 fun _ _ h => h)
            have HB3 := Lib.hid hb3
            clear f3 hb3
            go_wp2_with fail
            go_ret
            exact HEND.out _ _ _ HV.out rfl HF3.out HB3.out
          · obtain rfl : pr = some ⟨gr, or, none⟩ := by injection e0
            have HV : Hid (rightC (.node 3 l r col op vals) (deep + 1) (n + 1) = none) := Lib.hid (hnot.trans (if_neg (fun h => hr0 h.2)))
            clear hnot hr0 e0
            go_wp2_with fail
            go_ret
            exact HNO.out _ _ HV.out rfl HFS.out
      · have k3' : (k == 3) = false := by simpa using k3
        have HT : Hid (rightC (.node k l r col op vals) (deep + 1) (n + 1) = if l = .none ∧ r = .none ∧ testR k col op vals = true then some n else none) := Lib.hid (rc_test (fun h => k12 (.inl h)) (fun h => k12 (.inr h)) k3 l r col op vals deep n)
        by_cases k45 : k = 4 ∨ k = 5
        · have HNM := Lib.hid (dname_any col ws HCL.out)
          have HROW := Lib.hid (HAT.out ws HFS.out).2.2.2
          have hlp := (HAT.out ws HFS.out).2.1.ptr
          have hrp := (HAT.out ws HFS.out).2.2.1.ptr
          have HNT : Hid (testR k col op vals = false → rightC (.node k l r col op vals) (deep + 1) (n + 1) = none) := Lib.hid fun h => by rw [HT.out, if_neg (fun hh => by rw [h] at hh; exact absurd hh.2.2 (by decide))]
          have HNL : Hid (l ≠ .none ∨ r ≠ .none → rightC (.node k l r col op vals) (deep + 1) (n + 1) = none) := Lib.hid fun h => by rw [HT.out, if_neg (fun hh => h.elim (fun a => a hh.1) (fun a => a hh.2.1))]
          have HTN : Hid (isNameB col = false → testR k col op vals = false) := Lib.hid fun h => by
            rcases k45 with rfl | rfl
            · unfold testR; rw [if_pos rfl, h]; rfl
            · unfold testR; rw [if_neg (by decide), if_pos rfl, h]; rfl
          have HTL : Hid (¬ (1 ≤ vals.length ∧ vals.length ≤ 64) → testR k col op vals = false) := Lib.hid fun h => by
            rcases k45 with rfl | rfl
            · unfold testR rightL; rw [if_pos rfl]
              by_cases h1 : 1 ≤ vals.length
              · rw [decide_eq_false (show ¬ vals.length ≤ 1 by omega)]; simp
              · rw [decide_eq_false h1]; simp
            · unfold testR rightL; rw [if_neg (by decide), if_pos rfl]
              by_cases h1 : 1 ≤ vals.length
              · rw [decide_eq_false (show ¬ vals.length ≤ 64 by omega)]; simp
              · rw [decide_eq_false h1]; simp
          have HT4 : Hid (k = 4 → isNameB col = true → testR k col op vals = (decide (1 ≤ op) && decide (op ≤ 6) && rightL vals 1 1 rightV)) := Lib.hid fun h h2 => by subst h; unfold testR; rw [if_pos rfl, h2]; rfl
          have HT5 : Hid (k = 5 → isNameB col = true → testR k col op vals = (op == 0 && rightL vals 1 64 rightV)) := Lib.hid fun h h2 => by subst h; unfold testR; rw [if_neg (by decide), if_pos rfl, h2]; rfl
          have HSOME : Hid (l = .none → r = .none → testR k col op vals = true → rightC (.node k l r col op vals) (deep + 1) (n + 1) = some n) := Lib.hid fun h1 h2 h3 => by rw [HT.out, if_pos ⟨h1, h2, h3⟩]
          rcases k45 with rfl | rfl
          · clear HT k1 k2 k3'
            go_wp2_with fail
            refine HNM.out.mono ?_
            clear HNM
            rintro e w3 ⟨rfl, f3⟩
            have HF3 := Lib.hid (HFS.out.trans f3.any fun _ _ h => h)
            have HF3N := Lib.hid f3
            have HB3 := Lib.hid (HBS.out.of (f3.block b HBS.out.lt id))
            clear f3
            obtain ⟨p0, p1, p2, p3, p4, p5⟩ := (HAT.out w3 HF3.out).1
            cases hnm : isNameB col with
            | false =>
              have HV := Lib.hid (HNT.out (HTN.out hnm))
              clear hnm hlp hrp
              go_wp2_with fail
              go_ret
              exact HNO.out _ _ HV.out rfl HF3.out
            | true =>
            rcases hlp with ⟨hl0, e0⟩ | ⟨hl0, gl, ol, e0⟩
            case inr =>
              obtain rfl : pl = some ⟨gl, ol, none⟩ := by injection e0
              have HV := Lib.hid (HNL.out (.inl hl0))
              clear hnm hl0 e0 hrp
              go_wp2_with fail
              go_ret
              exact HNO.out _ _ HV.out rfl HF3.out
            obtain rfl : pl = none := by injection e0
            rcases hrp with ⟨hr0, e1⟩ | ⟨hr0, gr, or, e1⟩
            case inr =>
              obtain rfl : pr = some ⟨gr, or, none⟩ := by injection e1
              have HV := Lib.hid (HNL.out (.inr hr0))
              clear hnm hl0 hr0 e0 e1
              go_wp2_with fail
              go_ret
              exact HNO.out _ _ HV.out rfl HF3.out
            obtain rfl : pr = none := by injection e1
            have HSM := Lib.hid (HSOME.out hl0 hr0)
            have HNM := Lib.hid hnm
            clear hl0 hr0 e0 e1 hnm
            obtain ⟨N, hN⟩ : ∃ N, vals.length = N := ⟨_, rfl⟩
            rw [hN] at p5 hvl HTL
            have HLN := Lib.hid hN
            clear hN
            by_cases h1 : 1 ≤ N
            case neg =>
              have HV := Lib.hid (HNT.out (HTL.out (by omega)))
              have h1i : ((N : Int) < 1) = True := eq_true (by omega)
              go_wp2_with fail
              go_ret
              exact HNO.out _ _ HV.out rfl HF3.out
            by_cases h2 : N ≤ 64
            case neg =>
              have HV := Lib.hid (HNT.out (HTL.out (by omega)))
              have h1i : ((N : Int) < 1) = False := eq_false (by omega)
              have h2i : ((64 : Int) < (N : Int)) = True := eq_true (by omega)
              go_wp2_with fail
              go_ret
              exact HNO.out _ _ HV.out rfl HF3.out
            have h1i : ((N : Int) < 1) = False := eq_false (by omega)
            have h2i : ((64 : Int) < (N : Int)) = False := eq_false (by omega)
            by_cases o1 : 1 ≤ op
            case neg =>
              have HV := Lib.hid (HNT.out (by rw [HT4.out (by first | rfl | trivial) HNM.out, decide_eq_false o1]; rfl))
              have o1i : (op < 1) = True := eq_true (by omega)
              go_wp2_with fail
              go_ret
              exact HNO.out _ _ HV.out rfl HF3.out
            by_cases o2 : op ≤ 6
            case neg =>
              have HV := Lib.hid (HNT.out (by rw [HT4.out (by first | rfl | trivial) HNM.out, decide_eq_false o2, Bool.and_false, Bool.false_and]))
              have o1i : (op < 1) = False := eq_false (by omega)
              have o2i : (6 < op) = True := eq_true (by omega)
              go_wp2_with fail
              go_ret
              exact HNO.out _ _ HV.out rfl HF3.out
            have o1i : (op < 1) = False := eq_false (by omega)
            have o2i : (6 < op) = False := eq_false (by omega)
            by_cases h3 : N = 1
            case neg =>
              have HV := Lib.hid (HNT.out (by rw [HT4.out (by first | rfl | trivial) HNM.out]; unfold rightL; rw [HLN.out, decide_eq_false (show ¬ N ≤ 1 by omega)]; simp))
              have h3i : ((N : Int) == 1) = false := by simp; omega
              go_wp2_with fail
              go_ret
              exact HNO.out _ _ HV.out rfl HF3.out
            have h3i : ((N : Int) == 1) = true := by simp; omega
            have h3j : ((N : Int) = 1) = True := eq_true (by omega)
            have HALL : Hid (testR 4 col op vals = vals.all rightV) := Lib.hid (by rw [HT4.out (by first | rfl | trivial) HNM.out]; unfold rightL; rw [HLN.out, decide_eq_true o1, decide_eq_true o2, decide_eq_true h1, decide_eq_true (show N ≤ 1 by omega)]; rfl)
            clear h3
            go_upto_region 17 with fail
            go_cut [181] (fun rv wx => rv = .bool false ∧ w3 = wx)
            case first =>
              go_wp2_with fail
              go_meet
              exact ⟨by show Value.bool (!((N : Int) == 1)) = _; rw [h3i]; rfl, rfl⟩
            case rest =>
            obtain ⟨rfl, rfl⟩ := hcut
            clear h3i h3j o1i o2i
            go_wp2_with fail
            go_loopg [10, 11] N (fun g r10 r11 wr => Hid (∃ j : Nat, r10 = .int .i64 (j : Nat) ∧ j + g = N ∧ Fr No w3 wr ∧ (vals.take j).all rightV = true))
            case atStart => exact Lib.hid ⟨0, rfl, by omega, Fr.refl _ _, rfl⟩
            case round =>
            obtain ⟨j, rfl, hjn, hf, hall⟩ := hrel.out
            have HAJ := Lib.hid hall
            have HFR := Lib.hid (HF3.out.trans hf.any fun _ _ h => h)
            have HFN := Lib.hid hf
            obtain ⟨s0, s1, s2, s3, s4, s5⟩ := (HAT.out wr HFR.out).1
            rw [HLN.out] at s5
            clear hrel hall hf
            by_cases hj : j < N
            · have hji : (j : Int) < (N : Int) := by omega
              have hjl : j < vals.length := by rw [HLN.out]; exact hj
              obtain ⟨A', c', e, _, _, hrow⟩ := (HAT.out wr HFR.out).2.2.2
              obtain ⟨ga, off, rfl, hK, hg, hel⟩ := hrow (by omega)
              have e1 : A = some ⟨ga, off, none⟩ ∧ c = c' := by injection e with e1 e2 e3; exact ⟨e1, e3⟩
              obtain ⟨rfl, rfl⟩ := e1
              obtain ⟨cs, hcl, hcs, hE⟩ := hel j hjl
              obtain ⟨x, hx⟩ : ∃ x, vals[j] = x := ⟨_, rfl⟩
              have HX := Lib.hid hx
              rw [hx] at hE
              have hE := hE.1
              have t0 : wr.cell? ⟨ga, off + j * 3, none⟩ = some (.bool x.isText) := by have := hcs 0 (by decide); rw [hE] at this; simpa using this
              have t1 : wr.cell? ⟨ga, off + j * 3 + 1, none⟩ = some (sv x.text) := by have := hcs 1 (by decide); rw [hE] at this; simpa using this
              have t2 : wr.cell? ⟨ga, off + j * 3 + 2, none⟩ = some (.int .i64 x.int) := by have := hcs 2 (by decide); rw [hE] at this; simpa using this
              have HC := Lib.hid (dvalue_any x wr)
              clear hcs hcl hel hK hrow e hE hx
              go_wp2_with fail
              refine HC.out.mono ?_
              rintro e w5 ⟨rfl, f5⟩
              have HF5 := Lib.hid (HFN.out.trans f5 fun _ _ h => h)
              have HF5B := Lib.hid (HFR.out.trans f5.any fun _ _ h => h)
              clear f5
              cases hb : rightV x with
              | true =>
                have HTK : Hid ((vals.take (j + 1)).all rightV = true) := Lib.hid (by rw [take_all hjl HAJ.out, HX.out, hb])
                clear hb
                go_wp2_with fail
                obtain ⟨g1, rfl⟩ : ∃ g1, gk = g1 + 1 := ⟨gk - 1, by omega⟩
                go_roundg g1
                case rel => exact Lib.hid ⟨j + 1, by go_num, by omega, HF5.out, HTK.out⟩
                all_goals omega
              | false =>
                have HV := Lib.hid (HNT.out (by rw [HALL.out]; exact take_bad hjl (by rw [HX.out]; exact hb)))
                clear hb
                go_wp2_with fail
                go_ret
                exact HNO.out _ _ HV.out rfl HF5B.out
            · have hji : (N : Int) ≤ (j : Int) := by omega
              have HV := Lib.hid (HSM.out (by rw [HALL.out]; have := HAJ.out; rwa [List.take_of_length_le (by rw [HLN.out]; omega)] at this))
              have HBR := Lib.hid (HB3.out.of (HFN.out.block b HB3.out.lt id))
              go_wp2_with fail
              go_ret
              exact HEND.out _ _ _ HV.out rfl HFR.out (fun m h => by cases h; exact HBR.out)
          · clear HT k1 k2 k3'
            go_wp2_with fail
            refine HNM.out.mono ?_
            clear HNM
            rintro e w3 ⟨rfl, f3⟩
            have HF3 := Lib.hid (HFS.out.trans f3.any fun _ _ h => h)
            have HF3N := Lib.hid f3
            have HB3 := Lib.hid (HBS.out.of (f3.block b HBS.out.lt id))
            clear f3
            obtain ⟨p0, p1, p2, p3, p4, p5⟩ := (HAT.out w3 HF3.out).1
            cases hnm : isNameB col with
            | false =>
              have HV := Lib.hid (HNT.out (HTN.out hnm))
              clear hnm hlp hrp
              go_wp2_with fail
              go_ret
              exact HNO.out _ _ HV.out rfl HF3.out
            | true =>
            rcases hlp with ⟨hl0, e0⟩ | ⟨hl0, gl, ol, e0⟩
            case inr =>
              obtain rfl : pl = some ⟨gl, ol, none⟩ := by injection e0
              have HV := Lib.hid (HNL.out (.inl hl0))
              clear hnm hl0 e0 hrp
              go_wp2_with fail
              go_ret
              exact HNO.out _ _ HV.out rfl HF3.out
            obtain rfl : pl = none := by injection e0
            rcases hrp with ⟨hr0, e1⟩ | ⟨hr0, gr, or, e1⟩
            case inr =>
              obtain rfl : pr = some ⟨gr, or, none⟩ := by injection e1
              have HV := Lib.hid (HNL.out (.inr hr0))
              clear hnm hl0 hr0 e0 e1
              go_wp2_with fail
              go_ret
              exact HNO.out _ _ HV.out rfl HF3.out
            obtain rfl : pr = none := by injection e1
            have HSM := Lib.hid (HSOME.out hl0 hr0)
            have HNM := Lib.hid hnm
            clear hl0 hr0 e0 e1 hnm
            obtain ⟨N, hN⟩ : ∃ N, vals.length = N := ⟨_, rfl⟩
            rw [hN] at p5 hvl HTL
            have HLN := Lib.hid hN
            clear hN
            by_cases h1 : 1 ≤ N
            case neg =>
              have HV := Lib.hid (HNT.out (HTL.out (by omega)))
              have h1i : ((N : Int) < 1) = True := eq_true (by omega)
              go_wp2_with fail
              go_ret
              exact HNO.out _ _ HV.out rfl HF3.out
            by_cases h2 : N ≤ 64
            case neg =>
              have HV := Lib.hid (HNT.out (HTL.out (by omega)))
              have h1i : ((N : Int) < 1) = False := eq_false (by omega)
              have h2i : ((64 : Int) < (N : Int)) = True := eq_true (by omega)
              go_wp2_with fail
              go_ret
              exact HNO.out _ _ HV.out rfl HF3.out
            have h1i : ((N : Int) < 1) = False := eq_false (by omega)
            have h2i : ((64 : Int) < (N : Int)) = False := eq_false (by omega)
            by_cases o1 : op = 0
            case neg =>
              have HV := Lib.hid (HNT.out (by rw [HT5.out (by first | rfl | trivial) HNM.out, show (op == 0) = false by simpa using o1]; rfl))
              have o1i : (op == 0) = false := by simpa using o1
              go_wp2_with fail
              go_ret
              exact HNO.out _ _ HV.out rfl HF3.out
            subst o1
            have HALL : Hid (testR 5 col 0 vals = vals.all rightV) := Lib.hid (by rw [HT5.out (by first | rfl | trivial) HNM.out]; unfold rightL; rw [HLN.out, decide_eq_true h1, decide_eq_true h2]; rfl)
            go_wp2_with fail
            go_loopg [10, 11] N (fun g r10 r11 wr => Hid (∃ j : Nat, r10 = .int .i64 (j : Nat) ∧ j + g = N ∧ Fr No w3 wr ∧ (vals.take j).all rightV = true))
            case atStart => exact Lib.hid ⟨0, rfl, by omega, Fr.refl _ _, rfl⟩
            case round =>
            obtain ⟨j, rfl, hjn, hf, hall⟩ := hrel.out
            have HAJ := Lib.hid hall
            have HFR := Lib.hid (HF3.out.trans hf.any fun _ _ h => h)
            have HFN := Lib.hid hf
            obtain ⟨s0, s1, s2, s3, s4, s5⟩ := (HAT.out wr HFR.out).1
            rw [HLN.out] at s5
            clear hrel hall hf
            by_cases hj : j < N
            · have hji : (j : Int) < (N : Int) := by omega
              have hjl : j < vals.length := by rw [HLN.out]; exact hj
              obtain ⟨A', c', e, _, _, hrow⟩ := (HAT.out wr HFR.out).2.2.2
              obtain ⟨ga, off, rfl, hK, hg, hel⟩ := hrow (by omega)
              have e1 : A = some ⟨ga, off, none⟩ ∧ c = c' := by injection e with e1 e2 e3; exact ⟨e1, e3⟩
              obtain ⟨rfl, rfl⟩ := e1
              obtain ⟨cs, hcl, hcs, hE⟩ := hel j hjl
              obtain ⟨x, hx⟩ : ∃ x, vals[j] = x := ⟨_, rfl⟩
              have HX := Lib.hid hx
              rw [hx] at hE
              have hE := hE.1
              have t0 : wr.cell? ⟨ga, off + j * 3, none⟩ = some (.bool x.isText) := by have := hcs 0 (by decide); rw [hE] at this; simpa using this
              have t1 : wr.cell? ⟨ga, off + j * 3 + 1, none⟩ = some (sv x.text) := by have := hcs 1 (by decide); rw [hE] at this; simpa using this
              have t2 : wr.cell? ⟨ga, off + j * 3 + 2, none⟩ = some (.int .i64 x.int) := by have := hcs 2 (by decide); rw [hE] at this; simpa using this
              have HC := Lib.hid (dvalue_any x wr)
              clear hcs hcl hel hK hrow e hE hx
              go_wp2_with fail
              refine HC.out.mono ?_
              rintro e w5 ⟨rfl, f5⟩
              have HF5 := Lib.hid (HFN.out.trans f5 fun _ _ h => h)
              have HF5B := Lib.hid (HFR.out.trans f5.any fun _ _ h => h)
              clear f5
              cases hb : rightV x with
              | true =>
                have HTK : Hid ((vals.take (j + 1)).all rightV = true) := Lib.hid (by rw [take_all hjl HAJ.out, HX.out, hb])
                clear hb
                go_wp2_with fail
                obtain ⟨g1, rfl⟩ : ∃ g1, gk = g1 + 1 := ⟨gk - 1, by omega⟩
                go_roundg g1
                case rel => exact Lib.hid ⟨j + 1, by go_num, by omega, HF5.out, HTK.out⟩
                all_goals omega
              | false =>
                have HV := Lib.hid (HNT.out (by rw [HALL.out]; exact take_bad hjl (by rw [HX.out]; exact hb)))
                clear hb
                go_wp2_with fail
                go_ret
                exact HNO.out _ _ HV.out rfl HF5B.out
            · have hji : (N : Int) ≤ (j : Int) := by omega
              have HV := Lib.hid (HSM.out (by rw [HALL.out]; have := HAJ.out; rwa [List.take_of_length_le (by rw [HLN.out]; omega)] at this))
              have HBR := Lib.hid (HB3.out.of (HFN.out.block b HB3.out.lt id))
              go_wp2_with fail
              go_ret
              exact HEND.out _ _ _ HV.out rfl HFR.out (fun m h => by cases h; exact HBR.out)
        · have hk4 : (k == 4) = false := by simp; omega
          have hk5 : (k == 5) = false := by simp; omega
          have HV : Hid (rightC (.node k l r col op vals) (deep + 1) (n + 1) = none) := Lib.hid (by
            rw [HT.out, if_neg]
            rintro ⟨_, _, h⟩
            have h4 : ¬ k = 4 := fun h => k45 (.inl h)
            have h5 : ¬ k = 5 := fun h => k45 (.inr h)
            unfold testR at h
            rw [if_neg h4, if_neg h5] at h
            cases h)
          clear HT
          go_wp2_with fail
          go_ret
          exact HNO.out _ _ HV.out rfl HFS.out
theorem dright_any (K : Nat → Prop) (b : Nat) (hKb : ∀ k, K k → k ≠ b) : ∀ d, DRI K b d
  | 0 => fun c v w deep n di hdi hd hA hb hn hdd => by
    obtain rfl : deep = 0 := by omega
    obtain rfl : di = 0 := hdi
    rcases hA.ptr with ⟨rfl, rfl⟩ | ⟨hc, g, o, rfl⟩
    · exact dr_none b w 0 n 0
    · have e : rightC c 0 n = none := by
        cases c with
        | none => rfl
        | node => unfold rightC; rw [if_pos (.inl rfl)]
      rw [e]
      exact dr_deep b g o w
  | d + 1 => fun c v w deep n di hdi hd hA hb hn hdd => by
    rcases hA.ptr with ⟨rfl, rfl⟩ | ⟨hc, g, o, rfl⟩
    · exact dr_none b w deep n di
    · cases c with
      | none => exact absurd rfl hc
      | node k l r col op vals =>
        cases deep with
        | zero =>
          obtain rfl : di = 0 := hdi
          have e : rightC (.node k l r col op vals) 0 n = none := by unfold rightC; rw [if_pos (.inl rfl)]
          rw [e]
          exact dr_deep b g o w
        | succ deep =>
          cases n with
          | zero =>
            rw [rc_zero]
            exact dr_left b g o w di (by simp; omega) hb
          | succ n => exact dr_node hKb (dright_any K b hKb d) hdi (by omega) hA hb hn (by omega)
end Go.Proofs.YtkcnbmgaeompjaaGreatDoor
