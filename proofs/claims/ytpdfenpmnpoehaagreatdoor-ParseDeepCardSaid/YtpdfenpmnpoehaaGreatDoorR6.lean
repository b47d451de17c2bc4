/- Whether a condition may be. -/
import Derived.Test.YtpdfenpmnpoehaaGreatDoorR5
namespace Go.Proofs.YtpdfenpmnpoehaaGreatDoor
open Go.RowKit Go.Maps
set_option linter.unusedVariables false

/-- A condition, down to so deep. -/
def CdTo (K : Nat → Prop) (w : World) : Nat → Cd → Value → Prop
  | _, .none, v => v = .pointer none
  | 0, .node .., v => ∃ g o, v = .pointer (some ⟨g, o, none⟩)
  | d + 1, .node k l r col op vals, v => ∃ g o L R V, v = .pointer (some ⟨g, o, none⟩) ∧ K g ∧ g < w.heap.size ∧ NodeC w g o k L R col op V ∧ CdTo K w d l L ∧ CdTo K w d r R ∧ RowE K w 3 (vlG K w) V vals ∧ col.length ≤ maxLen ∧ i64 k ∧ i64 op
theorem cdTo_of {K : Nat → Prop} {w : World} : ∀ (c : Cd) (d : Nat) (v : Value), CdAt K w c v → CdTo K w d c v
  | .none, 0, v, h => h
  | .none, d + 1, v, h => h
  | .node .., 0, v, h => by obtain ⟨g, o, _, _, _, e, _⟩ := h; exact ⟨g, o, e⟩
  | .node k l r col op vals, d + 1, v, h => by
    obtain ⟨g, o, L, R, V, h1, h2, h3, c0, c1, c2, c3, c4, c5, hl, hr, hv, h4, h5, h6⟩ := h
    exact ⟨g, o, L, R, V, h1, h2, h3, ⟨c0, c1, c2, c3, c4, c5⟩, cdTo_of l d L hl, cdTo_of r d R hr, hv, h4, h5, h6⟩
theorem CdTo.mono {K K' : Nat → Prop} {w w' : World} (hk : ∀ k, K k → k < w.heap.size → K' k ∧ w'.heap[k]? = w.heap[k]?) : ∀ {d : Nat} {c : Cd} {v : Value}, CdTo K w d c v → CdTo K' w' d c v
  | 0, .none, v, h => h
  | d + 1, .none, v, h => h
  | 0, .node .., v, h => h
  | d + 1, .node k l r col op vals, v, h => by
    obtain ⟨g, o, L, R, V, h1, h2, h3, hn, hl, hr, hv, h4⟩ := h
    obtain ⟨k1, k2⟩ := hk g h2 h3
    refine ⟨g, o, L, R, V, h1, k1, ?_, hn.of k2, CdTo.mono hk hl, CdTo.mono hk hr, hv.mono hk fun _ _ h => h, h4⟩
    rcases Nat.lt_or_ge g w'.heap.size with h5 | h5
    · exact h5
    · rw [Array.getElem?_eq_none h5, Array.getElem?_eq_getElem h3] at k2; cases k2
theorem CdTo.ptr {K : Nat → Prop} {w : World} {d : Nat} {c : Cd} {v : Value} (h : CdTo K w d c v) : (c = .none ∧ v = .pointer none) ∨ (c ≠ .none ∧ ∃ g o, v = .pointer (some ⟨g, o, none⟩)) := by
  cases c with
  | none => cases d <;> exact .inl ⟨rfl, h⟩
  | node k l r col op vals =>
    cases d with
    | zero => exact .inr ⟨(by intro e; cases e), h⟩
    | succ d => obtain ⟨g, o, _, _, _, e, _⟩ := h; exact .inr ⟨(by intro e; cases e), g, o, e⟩
/-- What counting down comes to. -/
def RightP (b : Nat) (x : Option Nat) (w : World) (e : Ending) (w' : World) : Prop := e = .returned (.bool x.isSome) ∧ Fr (fun k => k = b) w w' ∧ ∀ m : Nat, x = some m → Blk w' b 77 #[.int .i64 (m : Nat)]
theorem right_le : ∀ (c : Cd) (deep n m : Nat), rightC c deep n = some m → m ≤ n
  | .none, _, _, _, h => by cases h
  | .node k l r col op vals, deep, n, m, h => by
    unfold rightC at h
    split at h
    · cases h
    split at h
    · split at h
      · obtain ⟨a, h1, h2⟩ := Option.bind_eq_some_iff.1 h
        have := right_le l _ _ _ h1
        have := right_le r _ _ _ h2
        omega
      · cases h
    split at h
    · split at h
      · have := right_le l _ _ _ h
        omega
      · cases h
    split at h
    · cases h; omega
    · cases h
theorem right_none (deep n : Nat) : rightC .none deep n = none := by unfold rightC; rfl
theorem rc_zero (k : Int) (l r : Cd) (col : Tx) (op : Int) (vals : List Vl) (deep : Nat) : rightC (.node k l r col op vals) deep 0 = none := by unfold rightC; rw [if_pos (.inr rfl)]
theorem rc_two {k : Int} (hk : k = 1 ∨ k = 2) (l r : Cd) (col : Tx) (op : Int) (vals : List Vl) (deep n : Nat) : rightC (.node k l r col op vals) (deep + 1) (n + 1) = if bareC col op vals then (rightC l deep n).bind fun m => rightC r deep m else none := by
  conv => lhs; unfold rightC
  rw [if_neg (by omega), if_pos hk]; rfl
theorem rc_not (l r : Cd) (col : Tx) (op : Int) (vals : List Vl) (deep n : Nat) : rightC (.node 3 l r col op vals) (deep + 1) (n + 1) = if bareC col op vals ∧ r = .none then rightC l deep n else none := by
  conv => lhs; unfold rightC
  rw [if_neg (by omega), if_neg (by decide), if_pos rfl]; rfl
theorem rc_test {k : Int} (h1 : k ≠ 1) (h2 : k ≠ 2) (h3 : k ≠ 3) (l r : Cd) (col : Tx) (op : Int) (vals : List Vl) (deep n : Nat) : rightC (.node k l r col op vals) (deep + 1) (n + 1) = if l = .none ∧ r = .none ∧ testR k col op vals = true then some n else none := by
  conv => lhs; unfold rightC
  rw [if_neg (by omega), if_neg (by omega), if_neg h3]; rfl
set_option maxRecDepth 100000 in
set_option maxHeartbeats 4000000 in
theorem right_any (K : Nat → Prop) (b : Nat) (hKb : ∀ k, K k → k ≠ b) (hb6 : 6 ≤ b) : ∀ (d : Nat) (c : Cd) (v : Value) (w : World) (deep n : Nat) (di : Int), di = (deep : Nat) → deep ≤ d → c ≠ .none → CdTo K w d c v → Lr w → Blk w b 77 #[.int .i64 (n : Nat)] → n ≤ 100000 → deep ≤ 1000 →
    Calls Tryz.prog 41 #[.pointer (some ⟨b, 0, none⟩), v, .int .i64 di] w (RightP b (rightC c deep n) w)
  | d, c, v, w, 0, n, di, hdi, hd, hc, hA, hp, hb, hn, hdd => by
    obtain ⟨g, o, rfl⟩ : ∃ g o, v = .pointer (some ⟨g, o, none⟩) := by
      rcases hA.ptr with h | h
      · exact absurd h.1 hc
      · exact h.2
    obtain rfl : di = 0 := hdi
    have HV : Hid (rightC c 0 n = none) := Lib.hid (by
      cases c with
      | none => exact absurd rfl hc
      | node => unfold rightC; rw [if_pos (.inl rfl)])
    clear hA hp hb hn hc
    go_enter Tryz.func41, Tryz.ntmps41
    go_wp2_with fail
    go_ret
    exact ⟨by rw [HV.out]; rfl, Fr.refl _ _, fun m h => by rw [HV.out] at h; cases h⟩
  | d, .none, v, w, deep + 1, n, di, hdi, hd, hc, hA, hp, hb, hn, hdd => absurd rfl hc
  | 0, .node .., v, w, deep + 1, n, di, hdi, hd, hc, hA, hp, hb, hn, hdd => by omega
  | d + 1, .node k l r col op vals, v, w, deep + 1, n, di, hdi, hd, hc, hA, hp, hb, hn, hdd => by
    obtain ⟨g, o, L, R, V, rfl, hK, hg, hN, hl, hr, hv, hcl, _, _⟩ := hA
    have hgb := hKb g hK
    have HONE := Lib.hid (one_any hb (by omega) (by omega))
    have hz : (di == 0) = false := by simp; omega
    have HDI : Hid (di = ((deep + 1 : Nat) : Int)) := Lib.hid hdi
    have HN := Lib.hid hN
    have HL := Lib.hid hl
    have HR := Lib.hid hr
    have HV := Lib.hid hv
    have HP := Lib.hid hp
    have HG := Lib.hid hg
    have HGB := Lib.hid hgb
    have HCL := Lib.hid hcl
    clear hb hN hl hr hv hp hg hgb hcl hdi hK
    go_enter Tryz.func41, Tryz.ntmps41
    go_wp2_with fail
    refine HONE.out.mono ?_
    rintro e w1 ⟨rfl, hb1, f1⟩
    have HB1 := Lib.hid hb1
    have HF1 := Lib.hid f1
    have HN1 := Lib.hid (HN.out.of (f1.block g HG.out HGB.out))
    clear hb1 f1 HONE
    have HAT : Hid (∀ w2, Fr (fun k => k = b) w w2 → Lr w2 ∧ NodeC w2 g o k L R col op V ∧ CdTo K w2 d l L ∧ CdTo K w2 d r R ∧ RowE K w2 3 (vlG K w2) V vals ∧ g < w2.heap.size) := Lib.hid fun w2 f2 =>
      have hk : ∀ k, K k → k < w.heap.size → K k ∧ w2.heap[k]? = w.heap[k]? := fun k h1 h2 => ⟨h1, f2.block k h2 (hKb k h1)⟩
      ⟨HP.out.keep (B := 6) (by omega) (f2.below_of (by have := HP.out.lt; omega) fun k e => by have e : k = b := e; omega), HN.out.of (f2.block g HG.out HGB.out), HL.out.mono hk, HR.out.mono hk, HV.out.mono hk fun _ _ h => h, Nat.lt_of_lt_of_le HG.out f2.size⟩
    have HEND : Hid (∀ (x : Option Nat) e w', rightC (.node k l r col op vals) (deep + 1) n = x → e = .returned (.bool x.isSome) → Fr (fun k => k = b) w w' → (∀ m : Nat, x = some m → Blk w' b 77 #[.int .i64 (m : Nat)]) → RightP b (rightC (.node k l r col op vals) (deep + 1) n) w e w') := Lib.hid fun x e w' h1 h2 h3 h4 => by rw [h1]; exact ⟨h2, h3, h4⟩
    have HFX := HF1
    cases n with
    | zero =>
      have hn1 : (1 : Int) ≤ ((0 : Nat) : Int) ↔ False := by simp
      go_wp2_with fail
      go_ret
      exact HEND.out none _ _ (rc_zero _ _ _ _ _ _ _) rfl HFX.out (fun m h => by cases h)
    | succ n =>
    have hn1 : ((1 : Int) ≤ (n : Int) + 1) = True := eq_true (by omega)
    have e1 : (((n + 1 : Nat) : Int) - 1) = ((n : Nat) : Int) := by omega
    rw [e1] at HB1
    clear e1
    obtain ⟨A, c, rfl⟩ : ∃ A c, V = .slice A vals.length c := by obtain ⟨A, c, e, _⟩ := HV.out; exact ⟨_, _, e⟩
    have HBARE := Lib.hid (fun w2 f2 => bare_any ((HAT.out w2 f2).2.1))
    have d0 := HN1.out.c0
    have d1 := HN1.out.c1
    have d2 := HN1.out.c2
    have HDD : Hid (deep ≤ d ∧ deep ≤ 1000 ∧ n ≤ 100000) := Lib.hid (by omega)
    have hdi : IntKind.i64.wrap (di - 1) = ((deep : Nat) : Int) := by rw [HDI.out, IntWalk.i64_in _ (by omega)]; omega
    by_cases k1 : k = 1
    · subst k1
      go_wp2_with fail
      refine (HBARE.out w1 HF1.out).mono ?_
      rintro e w2 ⟨rfl, f2⟩
      have HF2 := Lib.hid (HF1.out.trans f2.any fun _ _ h => h)
      have HB2 := Lib.hid (HB1.out.of (f2.block b HB1.out.lt id))
      have HFX := HF2
      obtain ⟨hp2, hn2, hl2, hr2, hv2, hg2⟩ := HAT.out w2 HF2.out
      have d0 := hn2.c0
      have d1 := hn2.c1
      have d2 := hn2.c2
      have HL2 := Lib.hid hl2
      have HP2 := Lib.hid hp2
      clear f2 hp2 hn2 hl2 hr2 hv2 hg2
      cases hbb : bareC col op vals with
      | false =>
        go_wp2_with fail
        go_ret
        exact HEND.out none _ _ (by rw [rc_two (.inl rfl), hbb]; rfl) rfl HFX.out (fun m h => by cases h)
      | true =>
      rcases HL.out.ptr with ⟨hl0, rfl⟩ | ⟨hl0, gl, ol, rfl⟩
      · have HV2 : Hid (rightC (.node 1 l r col op vals) (deep + 1) (n + 1) = none) := Lib.hid (by rw [rc_two (.inl rfl), hbb, hl0, right_none]; rfl)
        clear hl0
        go_wp2_with fail
        go_ret
        exact HEND.out none _ _ (HV2.out) rfl HFX.out (fun m h => by cases h)
      rcases HR.out.ptr with ⟨hr0, rfl⟩ | ⟨hr0, gr, or, rfl⟩
      · have HV2 : Hid (rightC (.node 1 l r col op vals) (deep + 1) (n + 1) = none) := Lib.hid (by rw [rc_two (.inl rfl), hbb, hr0]; cases rightC l deep n with | none => rfl | some m => exact right_none deep m)
        clear hr0
        go_wp2_with fail
        go_ret
        exact HEND.out none _ _ (HV2.out) rfl HFX.out (fun m h => by cases h)
      have HIH := Lib.hid (right_any K b hKb hb6 d l _ w2 deep n _ rfl HDD.out.1 hl0 HL2.out HP2.out HB2.out HDD.out.2.2 HDD.out.2.1)
      have HR0 := Lib.hid hr0
      have HL0 := Lib.hid hl0
      clear hl0 hr0
      go_wp2_with fail
      refine HIH.out.mono ?_
      clear HIH
      rintro e w3 ⟨rfl, f3, hb3⟩
      have HF3 := Lib.hid (HF2.out.trans f3 fun _ _ h => h)
      have HFX := HF3
      obtain ⟨hp3, hn3, hl3, hr3, hv3, hg3⟩ := HAT.out w3 HF3.out
      have d0 := hn3.c0
      have d1 := hn3.c1
      have d2 := hn3.c2
      cases hx : rightC l deep n with
      | none =>
        have HV2 : Hid (rightC (.node 1 l r col op vals) (deep + 1) (n + 1) = none) := Lib.hid (by rw [rc_two (.inl rfl), hbb, hx]; rfl)
        clear f3 hb3 hp3 hn3 hl3 hr3 hv3 hg3 hx
        go_wp2_with fail
        go_ret
        exact HEND.out none _ _ (HV2.out) rfl HFX.out (fun m h => by cases h)
      | some m =>
        have HV2 : Hid (rightC (.node 1 l r col op vals) (deep + 1) (n + 1) = rightC r deep m) := Lib.hid (by rw [rc_two (.inl rfl), hbb, hx]; rfl)
        have hm := right_le l _ _ _ hx
        have HIH := Lib.hid (right_any K b hKb hb6 d r _ w3 deep m _ rfl HDD.out.1 HR0.out hr3 hp3 (hb3 m hx) (by have := HDD.out.2.2; omega) HDD.out.2.1)
        clear f3 hb3 hp3 hn3 hl3 hr3 hv3 hg3 hx
        go_wp2_with fail
        refine HIH.out.mono ?_
        clear HIH
        rintro e w4 ⟨rfl, f4, hb4⟩
        have HF4 := Lib.hid (HF3.out.trans f4 fun _ _ h => h)
        have HB4 := Lib.hid hb4
        clear f4 hb4
        go_wp2_with fail
        go_ret
        exact HEND.out _ _ _ HV2.out rfl HF4.out HB4.out
    have k1' : (k == 1) = false := by simpa using k1
    by_cases k2 : k = 2
    · subst k2
      go_wp2_with fail
      refine (HBARE.out w1 HF1.out).mono ?_
      rintro e w2 ⟨rfl, f2⟩
      have HF2 := Lib.hid (HF1.out.trans f2.any fun _ _ h => h)
      have HB2 := Lib.hid (HB1.out.of (f2.block b HB1.out.lt id))
      have HFX := HF2
      obtain ⟨hp2, hn2, hl2, hr2, hv2, hg2⟩ := HAT.out w2 HF2.out
      have d0 := hn2.c0
      have d1 := hn2.c1
      have d2 := hn2.c2
      have HL2 := Lib.hid hl2
      have HP2 := Lib.hid hp2
      clear f2 hp2 hn2 hl2 hr2 hv2 hg2
      cases hbb : bareC col op vals with
      | false =>
        go_wp2_with fail
        go_ret
        exact HEND.out none _ _ (by rw [rc_two (.inr rfl), hbb]; rfl) rfl HFX.out (fun m h => by cases h)
      | true =>
      rcases HL.out.ptr with ⟨hl0, rfl⟩ | ⟨hl0, gl, ol, rfl⟩
      · have HV2 : Hid (rightC (.node 2 l r col op vals) (deep + 1) (n + 1) = none) := Lib.hid (by rw [rc_two (.inr rfl), hbb, hl0, right_none]; rfl)
        clear hl0
        go_wp2_with fail
        go_ret
        exact HEND.out none _ _ (HV2.out) rfl HFX.out (fun m h => by cases h)
      rcases HR.out.ptr with ⟨hr0, rfl⟩ | ⟨hr0, gr, or, rfl⟩
      · have HV2 : Hid (rightC (.node 2 l r col op vals) (deep + 1) (n + 1) = none) := Lib.hid (by rw [rc_two (.inr rfl), hbb, hr0]; cases rightC l deep n with | none => rfl | some m => exact right_none deep m)
        clear hr0
        go_wp2_with fail
        go_ret
        exact HEND.out none _ _ (HV2.out) rfl HFX.out (fun m h => by cases h)
      have HIH := Lib.hid (right_any K b hKb hb6 d l _ w2 deep n _ rfl HDD.out.1 hl0 HL2.out HP2.out HB2.out HDD.out.2.2 HDD.out.2.1)
      have HR0 := Lib.hid hr0
      have HL0 := Lib.hid hl0
      clear hl0 hr0
      go_wp2_with fail
      refine HIH.out.mono ?_
      clear HIH
      rintro e w3 ⟨rfl, f3, hb3⟩
      have HF3 := Lib.hid (HF2.out.trans f3 fun _ _ h => h)
      have HFX := HF3
      obtain ⟨hp3, hn3, hl3, hr3, hv3, hg3⟩ := HAT.out w3 HF3.out
      have d0 := hn3.c0
      have d1 := hn3.c1
      have d2 := hn3.c2
      cases hx : rightC l deep n with
      | none =>
        have HV2 : Hid (rightC (.node 2 l r col op vals) (deep + 1) (n + 1) = none) := Lib.hid (by rw [rc_two (.inr rfl), hbb, hx]; rfl)
        clear f3 hb3 hp3 hn3 hl3 hr3 hv3 hg3 hx
        go_wp2_with fail
        go_ret
        exact HEND.out none _ _ (HV2.out) rfl HFX.out (fun m h => by cases h)
      | some m =>
        have HV2 : Hid (rightC (.node 2 l r col op vals) (deep + 1) (n + 1) = rightC r deep m) := Lib.hid (by rw [rc_two (.inr rfl), hbb, hx]; rfl)
        have hm := right_le l _ _ _ hx
        have HIH := Lib.hid (right_any K b hKb hb6 d r _ w3 deep m _ rfl HDD.out.1 HR0.out hr3 hp3 (hb3 m hx) (by have := HDD.out.2.2; omega) HDD.out.2.1)
        clear f3 hb3 hp3 hn3 hl3 hr3 hv3 hg3 hx
        go_wp2_with fail
        refine HIH.out.mono ?_
        clear HIH
        rintro e w4 ⟨rfl, f4, hb4⟩
        have HF4 := Lib.hid (HF3.out.trans f4 fun _ _ h => h)
        have HB4 := Lib.hid hb4
        clear f4 hb4
        go_wp2_with fail
        go_ret
        exact HEND.out _ _ _ HV2.out rfl HF4.out HB4.out
    have k2' : (k == 2) = false := by simpa using k2
    by_cases k3 : k = 3
    · subst k3
      go_wp2_with fail
      refine (HBARE.out w1 HF1.out).mono ?_
      rintro e w2 ⟨rfl, f2⟩
      have HF2 := Lib.hid (HF1.out.trans f2.any fun _ _ h => h)
      have HB2 := Lib.hid (HB1.out.of (f2.block b HB1.out.lt id))
      have HFX := HF2
      obtain ⟨hp2, hn2, hl2, hr2, hv2, hg2⟩ := HAT.out w2 HF2.out
      have d0 := hn2.c0
      have d1 := hn2.c1
      have d2 := hn2.c2
      have HL2 := Lib.hid hl2
      have HP2 := Lib.hid hp2
      clear f2 hp2 hn2 hl2 hr2 hv2 hg2
      cases hbb : bareC col op vals with
      | false =>
        go_wp2_with fail
        go_ret
        exact HEND.out none _ _ (by rw [rc_not, hbb]; rfl) rfl HFX.out (fun m h => by cases h)
      | true =>
      rcases HL.out.ptr with ⟨hl0, rfl⟩ | ⟨hl0, gl, ol, rfl⟩
      · have HV2 : Hid (rightC (.node 3 l r col op vals) (deep + 1) (n + 1) = none) := Lib.hid (by rw [rc_not, hl0, right_none]; split <;> rfl)
        clear hl0
        go_wp2_with fail
        go_ret
        exact HEND.out none _ _ (HV2.out) rfl HFX.out (fun m h => by cases h)
      rcases HR.out.ptr with ⟨hr0, rfl⟩ | ⟨hr0, gr, or, rfl⟩
      · have HV2 : Hid (rightC (.node 3 l r col op vals) (deep + 1) (n + 1) = rightC l deep n) := Lib.hid (by rw [rc_not, if_pos ⟨hbb, hr0⟩])
        have HIH := Lib.hid (right_any K b hKb hb6 d l _ w2 deep n _ rfl HDD.out.1 hl0 HL2.out HP2.out HB2.out HDD.out.2.2 HDD.out.2.1)
        clear hl0 hr0
        go_wp2_with fail
        refine HIH.out.mono ?_
        clear HIH
        rintro e w4 ⟨rfl, f4, hb4⟩
        have HF4 := Lib.hid (HF2.out.trans f4 fun _ _ h => h)
        have HB4 := Lib.hid hb4
        clear f4 hb4
        go_wp2_with fail
        go_ret
        exact HEND.out _ _ _ HV2.out rfl HF4.out HB4.out
      · have HV2 : Hid (rightC (.node 3 l r col op vals) (deep + 1) (n + 1) = none) := Lib.hid (by rw [rc_not, if_neg (fun h => hr0 h.2)])
        clear hl0 hr0
        go_wp2_with fail
        go_ret
        exact HEND.out none _ _ (HV2.out) rfl HFX.out (fun m h => by cases h)
    have k3' : (k == 3) = false := by simpa using k3
    rcases HL.out.ptr with ⟨hl0, rfl⟩ | ⟨hl0, gl, ol, rfl⟩
    · rcases HR.out.ptr with ⟨hr0, rfl⟩ | ⟨hr0, gr, or, rfl⟩
      · have HV2 : Hid (rightC (.node k l r col op vals) (deep + 1) (n + 1) = if testR k col op vals = true then some n else none) := Lib.hid (by rw [rc_test k1 k2 k3]; simp only [hl0, hr0, true_and])
        obtain ⟨hp2, hn2, hl2, hr2, hv2, hg2⟩ := HAT.out w1 HF1.out
        have HRT := Lib.hid (rtest_any hp2 hn2 hv2 hg2 HCL.out)
        clear hl0 hr0 hp2 hn2 hl2 hr2 hv2 hg2
        go_wp2_with fail
        refine HRT.out.mono ?_
        clear HRT
        rintro e w4 ⟨rfl, f4⟩
        have HF4 := Lib.hid (HF1.out.trans f4.any fun _ _ h => h)
        have HB4 := Lib.hid (HB1.out.of (f4.block b HB1.out.lt id))
        clear f4
        cases ht : testR k col op vals with
        | true =>
          rw [ht, if_pos rfl] at HV2
          go_wp2_with fail
          go_ret
          exact HEND.out _ _ _ HV2.out rfl HF4.out (fun m h => by cases h; exact HB4.out)
        | false =>
          rw [ht, if_neg (by decide)] at HV2
          go_wp2_with fail
          go_ret
          exact HEND.out _ _ _ HV2.out rfl HF4.out (fun m h => by cases h)
      · have HV2 : Hid (rightC (.node k l r col op vals) (deep + 1) (n + 1) = none) := Lib.hid (by rw [rc_test k1 k2 k3, if_neg (fun h => hr0 h.2.1)])
        clear hl0 hr0
        go_wp2_with fail
        go_ret
        exact HEND.out none _ _ (HV2.out) rfl HFX.out (fun m h => by cases h)
    · have HV2 : Hid (rightC (.node k l r col op vals) (deep + 1) (n + 1) = none) := Lib.hid (by rw [rc_test k1 k2 k3, if_neg (fun h => hl0 h.1)])
      clear hl0
      go_wp2_with fail
      go_ret
      exact HEND.out none _ _ (HV2.out) rfl HFX.out (fun m h => by cases h)
end Go.Proofs.YtpdfenpmnpoehaaGreatDoor
