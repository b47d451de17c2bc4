/- Expand. -/
import Derived.Test.YthejnkpnpckmbaaB9
import Derived.Test.YthejnkpnpckmbaaP3
namespace Go.Proofs.Ythejnkpnpckmbaa
open Go.RowKit Go.Maps
set_option linter.unusedVariables false

/-- What Expand tells. -/
def ExP (r : List Nat × Int) (w : World) (e : Ending) (w' : World) : Prop :=
  ∃ v, e = .returned (.tuple #[v, .int .i64 r.2]) ∧ RowE (fun k => w.heap.size ≤ k) w' 1 (natG (fun k => w.heap.size ≤ k) w') v r.1 ∧ Fr No w w'
theorem ExP.none_ {w w' : World} (n : Int) (f : Fr No w w') : ExP ([], n) w (.returned (.tuple #[.slice none 0 0, .int .i64 n])) w' := ⟨_, rfl, RowE.nil _ _ _ _, f⟩
set_option maxRecDepth 100000 in
set_option maxHeartbeats 2000000 in
theorem expand_any {K K2 : Nat → Prop} {dims : List Tx} {gs : List Gp} {dv v : Value} (w : World) (hD : RowE K2 w 1 (strG K2 w) dv dims) (h : RowE K w 3 (gpG K w) v gs) (hF : ∀ g ∈ gs, GpF g) (hl : gs.length ≤ 4194304) :
    Calls Try.prog 15 #[dv, v] w (ExP (expandL dims gs) w) := by
  obtain ⟨A0, cd, hdv, hdl, hdm⟩ := row_len hD
  subst hdv
  obtain ⟨y, hy⟩ : ∃ y, w.heap.size = y := ⟨_, rfl⟩
  obtain ⟨w1, hw1⟩ : ∃ w1, w.alloc (.cells #[.slice A0 dims.length cd] 23) = w1 := ⟨_, rfl⟩
  have f1 : Fr No w w1 := by rw [← hw1]; exact (Fr.refl No w).alloc _
  have hb : Blk w1 y 23 #[.slice A0 dims.length cd] := by rw [← hw1, ← hy]; exact Blk.new w 23 _
  have hD1 := hD.at_ strG_elem f1
  have hbox : BoxAt K2 w1 y dims := ⟨A0, cd, hb, hD1⟩
  have hG1 := h.at_ gpG_elem f1
  have HWR := Lib.hid (cxw w1 hG1)
  have F1 := Lib.hid f1
  have HB := Lib.hid hb
  have HD1 := Lib.hid hD1
  have HG1 := Lib.hid hG1
  have HBOX := Lib.hid hbox
  have HF := Lib.hid hF
  have HL := Lib.hid hl
  have HDM : Hid (dims.length ≤ maxLen) := Lib.hid (by omega)
  obtain ⟨A, c, rfl, _, _⟩ := row_len h
  have d0 : w1.cell? ⟨y, 0, none⟩ = some (.slice A0 dims.length cd) := hb.cell 0
  have HEX : Hid (expandL dims gs = if 6 < dims.length ∨ gs.any wrongB = true then ([], 1) else if gs.any (strangeB dims) = true then ([], 42) else if 64 < sizeL gs then ([], 46) else if sizeL gs = 0 then ([], 0) else (crossL dims gs, 0)) := Lib.hid rfl
  have HW1 := Lib.hid hw1
  have HY := Lib.hid hy
  have hmf : ∀ (fn : Fn) (first cap : Array Value) (w : World), (Instr.makeFunc fn first cap).run Try.prog w = .ok (.func fn first cap) w := fun _ _ _ _ => rfl
  generalize hE : expandL dims gs = R at *
  clear hE
  obtain ⟨dn, hdn⟩ : ∃ dn, dims.length = dn := ⟨_, rfl⟩
  have HDN := Lib.hid hdn
  rw [hdn] at d0 hdl HW1 ⊢
  unfold maxLen at hdm
  clear hD h hF hl hw1 f1 hb hD1 hbox hG1 hy hdn
  go_enter Try.func15, Try.ntmps15
  go_upto_region 1 with fail
  rw [HW1.out, HY.out]
  by_cases h6 : dn ≤ 6
  · have h6i : ¬ (6 : Int) < (dn : Int) := by omega
    have h6b : decide ((6 : Int) < (dn : Int)) = false := decide_eq_false h6i
    go_wp2_with fail
    refine HWR.out.mono ?_
    rintro e w2 ⟨rfl, f2⟩
    have HF2 := Lib.hid (F1.out.trans f2 fun _ _ h => h)
    have d2 : w2.cell? ⟨y, 0, none⟩ = some (.slice A0 dn cd) := (cell_of_heap (f2.block y HB.out.lt id)).trans d0
    have HBX2 := Lib.hid (HBOX.out.at_ f2)
    have HD2 := Lib.hid (HD1.out.at_ strG_elem f2)
    have HG2 := Lib.hid (HG1.out.at_ gpG_elem f2)
    obtain ⟨b, hb⟩ : ∃ b, gs.any wrongB = b := ⟨_, rfl⟩
    have HWB := Lib.hid hb
    rw [hb]
    clear hb f2 d0 HWR
    cases b with
    | true =>
      have HV : Hid (R = ([], 1)) := Lib.hid (by rw [HEX.out, if_pos (.inr HWB.out)])
      go_wp2_with fail
      go_ret2
      rw [HV.out]
      exact ExP.none_ 1 HF2.out
    | false =>
      have hn1 : ¬ (6 < dims.length ∨ gs.any wrongB = true) := by rw [HWB.out, HDN.out]; simp; omega
      have HE1 := Lib.hid HEX.out
      rw [if_neg hn1] at HE1
      have HC := Lib.hid (cxg w2 HG2.out HBX2.out)
      clear HEX hn1
      go_wp2_with fail
      refine HC.out.mono ?_
      rintro e w3 ⟨rfl, f3⟩
      have HF3 := Lib.hid (HF2.out.trans f3 fun _ _ h => h)
      have d3 : w3.cell? ⟨y, 0, none⟩ = some (.slice A0 dn cd) := by
        obtain ⟨A9, c9, hb9, _⟩ := HBX2.out.at_ f3
        exact (cell_of_heap (f3.block y (World.block_lt_of_cell? _ _ d2) id)).trans d2
      have HD3 := Lib.hid (HD2.out.at_ strG_elem f3)
      have HG3 := Lib.hid (HG2.out.at_ gpG_elem f3)
      obtain ⟨b, hb⟩ : ∃ b, gs.any (strangeB dims) = b := ⟨_, rfl⟩
      have HSB := Lib.hid hb
      rw [hb]
      clear hb f3 d2 HC
      cases b with
      | true =>
        have HV : Hid (R = ([], 42)) := Lib.hid (by rw [HE1.out, if_pos HSB.out])
        go_wp2_with fail
        go_ret2
        rw [HV.out]
        exact ExP.none_ 42 HF3.out
      | false =>
        have HE2 := Lib.hid HE1.out
        rw [if_neg (by rw [HSB.out]; decide)] at HE2
        have HC := Lib.hid (size_any w3 HG3.out HF.out)
        clear HE1
        go_wp2_with fail
        refine HC.out.mono ?_
        rintro e w4 ⟨rfl, f4⟩
        have HF4 := Lib.hid (HF3.out.trans f4 fun _ _ h => h)
        have d4 : w4.cell? ⟨y, 0, none⟩ = some (.slice A0 dn cd) := (cell_of_heap (f4.block y (World.block_lt_of_cell? _ _ d3) id)).trans d3
        have HD4 := Lib.hid (HD3.out.at_ strG_elem f4)
        have HG4 := Lib.hid (HG3.out.at_ gpG_elem f4)
        obtain ⟨n, hn⟩ : ∃ n, sizeL gs = n := ⟨_, rfl⟩
        have HN := Lib.hid hn
        rw [hn]
        rw [hn] at HE2
        clear hn f4 d3 HC
        by_cases h64 : n ≤ 64
        · have h64i : ¬ (64 : Int) < (n : Int) := by omega
          rw [if_neg (by omega)] at HE2
          by_cases h0 : n = 0
          · subst h0
            have HV : Hid (R = ([], 0)) := Lib.hid (by rw [HE2.out, if_pos rfl])
            go_wp2_with fail
            go_ret2
            rw [HV.out]
            exact ExP.none_ 0 HF4.out
          · have h0b : ((n : Int) == 0) = false := by simp; omega
            rw [if_neg h0] at HE2
            have hsm := (esize_small gs 1 (by have := HN.out; unfold sizeL at this; omega) (by have := HN.out; unfold sizeL at this; omega)).2
            have hlen : (crossL dims gs).length ≤ 1000000 := by
              rw [cross_len]
              have := size_prod (dims := dims) HWB.out
              rw [HN.out] at this
              omega
            have HC := Lib.hid (cross_any w4 HD4.out HG4.out HDM.out (fun g hg => ⟨HF.out g hg, hsm g hg⟩) HL.out hlen)
            rw [HDN.out] at HC
            clear hsm hlen
            go_wp2_with fail
            refine HC.out.mono ?_
            rintro e w5 hq
            have HQ := Lib.hid (hq.up natG_elem HF4.out)
            obtain ⟨v5, rfl, hr5, f5⟩ := hq
            obtain ⟨A5, c5, rfl, _, _⟩ := row_len hr5
            have HV : Hid (ExP R w (.returned (.tuple #[.slice A5 (crossL dims gs).length c5, .int .i64 0])) w5) := Lib.hid (by
              obtain ⟨v, h1, h2, h3⟩ := HQ.out
              rw [HE2.out]
              refine ⟨_, rfl, ?_, h3⟩
              injection h1 with h1
              rw [h1]; exact h2)
            generalize (crossL dims gs).length = m at *
            clear hr5 f5 HQ HC
            go_wp2_with fail
            go_ret2
            exact HV.out
        · have h64i : (64 : Int) < (n : Int) := by omega
          have HV : Hid (R = ([], 46)) := Lib.hid (by rw [HE2.out, if_pos (by omega)])
          go_wp2_with fail
          go_ret2
          rw [HV.out]
          exact ExP.none_ 46 HF4.out
  · have h6i : (6 : Int) < (dn : Int) := by omega
    have HV : Hid (R = ([], 1)) := Lib.hid (by rw [HEX.out, if_pos (.inl (by rw [HDN.out]; omega))])
    go_wp2_with fail
    go_ret2
    rw [HV.out]
    exact ExP.none_ 1 F1.out
end Go.Proofs.Ythejnkpnpckmbaa
