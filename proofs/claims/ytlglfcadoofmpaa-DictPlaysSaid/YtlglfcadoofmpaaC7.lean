/- A call of both: Text and Rank; a copy. -/
import Derived.Test.YtlglfcadoofmpaaC6
namespace Go.Proofs.Ytlglfcadoofmpaa
open Go.RowKit Go.Maps Go.Proofs
set_option linter.unusedVariables false

def CopyX (L : List Tx) (w : World) (e : Ending) (w' : World) : Prop := ∃ c, e = .returned (.pointer (some ⟨c, 0, none⟩)) ∧ Dt w' (Bel w.heap.size) c L ∧ Fr No w w'
theorem m_copy {w : World} {X : Nat → Prop} {d : Nat} {L : List Tx} (h : Dt w X d L) : Calls Try.prog 20 #[.pointer (some ⟨d, 0, none⟩)] w (CopyX L w) := by
  obtain ⟨S, R, rfl, hW, a, x⟩ := h.at_
  exact copy_any d R S w a hW
theorem fr_bel {w w1 w2 : World} (h1 : Fr No w w1) (h2 : Fr (NX (Bel w.heap.size)) w1 w2) : Fr No w w2 :=
  h1.trans h2 fun j hj hn => hn hj

section
variable {w0 w : World} {B d r bx : Nat} {L : List Tx} {X : Nat → Prop} {lv : Value} {k n : Int} {a b : Tx}
set_option maxRecDepth 100000 in
set_option maxHeartbeats 4000000 in
theorem does_text (W : World) (hW : W.alloc (.cells (opC k n a b) 32) = w) (hb : W.heap.size = bx) (h : In w0 B d r bx L X lv k n a b w) (t : Int) (ht : k.tmod 6 = t) (h1 : t = 4 ∨ t = -4) :
    Calls Try.prog 10 #[.pointer (some ⟨d, 0, none⟩), .pointer (some ⟨r, 0, none⟩), .agg (opC k n a b)] W (DoesQ w0 B d r L) := by
  have HC := Lib.hid h.cells
  have HIN := Lib.hid h
  have HW := Lib.hid hW
  have HB := Lib.hid hb
  have HT := Lib.hid ht
  have hL4 := h.len
  by_cases hn : 0 ≤ n ∧ n < (L.length : Int)
  · obtain ⟨m, rfl⟩ : ∃ m : Nat, n = m := ⟨n.toNat, by omega⟩
    have hm : m < L.length := by omega
    have HD1 := Lib.hid (m_text h.dt m hm)
    have HR1 := Lib.hid (r_text h.ref (by omega) m hm)
    have HD2 := Lib.hid (m_rank h.dt m hm)
    have HM := Lib.hid hm
    clear h hb hW ht hn hm
    unfold opC
    unfold opC at HW
    unfold encT at *
    generalize txt L m = tv at *
    go_enter Try.func10, Try.ntmps10
    go_upto_region 1 with fail
    rw [HW.out, HB.out]
    obtain ⟨c0, c1, -, -⟩ := HC.out
    have ht := HT.out
    rcases h1 with rfl | rfl
    all_goals (
      go_upto_region 21 with fail
      clear ht c0
      go_wp2_with (first
        | (go_at_call 17; refine HD1.out.mono ?_; rintro e w' ⟨rfl, rfl⟩)
        | (go_at_call 23; refine HR1.out.mono ?_; rintro e w' ⟨rfl, rfl⟩))
      refine HD2.out.mono ?_
      rintro e w3 ⟨T, p, rfl, hO, hp, hd3, f3⟩
      have HI3 := Lib.hid (HIN.out.step hd3 f3 fun _ hj => hj)
      have hrk := r_rank HI3.out.ref HI3.out.len HI3.out.tx m HM.out
      rw [rank_at hO hp] at hrk
      have HRK := Lib.hid hrk
      have c1 := HI3.out.cells.2.1
      clear hO hp hd3 f3 hrk HD2
      go_wp2_with fail
      refine HRK.out.mono ?_
      rintro e w4 ⟨rfl, hd⟩
      have HI4 := Lib.hid (HI3.out.keep (drewN_fr hd))
      clear hd c1
      go_wp2
      go_ret
      exact HI4.out.both)
  · have ho : n < 0 ∨ (L.length : Int) ≤ n := by omega
    have HD1 := Lib.hid (m_text_out h.dt n ho)
    have HR1 := Lib.hid (r_text_out h.ref (by omega) n ho)
    have HD2 := Lib.hid (m_rank_out h.dt n ho)
    have HR2 := Lib.hid (r_rank_out h.ref (by omega) n ho)
    clear h hb hW ht hn ho
    unfold opC
    unfold opC at HW
    go_enter Try.func10, Try.ntmps10
    go_upto_region 1 with fail
    rw [HW.out, HB.out]
    obtain ⟨c0, c1, -, -⟩ := HC.out
    have ht := HT.out
    rcases h1 with rfl | rfl
    all_goals (
      go_upto_region 21 with fail
      clear ht c0
      go_wp2_with (first
        | (go_at_call 17; refine HD1.out.mono ?_; rintro e w' ⟨rfl, rfl⟩)
        | (go_at_call 23; refine HR1.out.mono ?_; rintro e w' ⟨rfl, rfl⟩)
        | (go_at_call 18; refine HD2.out.mono ?_; rintro e w' ⟨rfl, rfl⟩)
        | (go_at_call 24; refine HR2.out.mono ?_; rintro e w' ⟨rfl, rfl⟩))
      go_ret
      exact HIN.out.both)

/-! ### a copy -/
set_option maxRecDepth 100000 in
set_option maxHeartbeats 4000000 in
theorem does_copy (W : World) (hW : W.alloc (.cells (opC k n a b) 32) = w) (hb : W.heap.size = bx) (h : In w0 B d r bx L X lv k n a b w) (ha : a.length ≤ 140737488355328) (t : Int) (ht : k.tmod 6 = t) (h1 : t = 5 ∨ t = -5) :
    Calls Try.prog 10 #[.pointer (some ⟨d, 0, none⟩), .pointer (some ⟨r, 0, none⟩), .agg (opC k n a b)] W (DoesQ w0 B d r L) := by
  have HC := Lib.hid h.cells
  have HIN := Lib.hid h
  have HW := Lib.hid hW
  have HB := Lib.hid hb
  have HT := Lib.hid ht
  have HCP := Lib.hid (m_copy h.dt)
  have HCAT : Hid (∀ w0, (Op.stringOp .add ⟨#[111, 116, 104, 101, 114, 32]⟩ ⟨a.toArray⟩).run Try.prog w0 = .ok (.string ⟨([111, 116, 104, 101, 114, 32] ++ a).toArray⟩) w0) := Lib.hid fun w0 => by
    have := run_string_add_sum (P := Try.prog) w0 ⟨#[111, 116, 104, 101, 114, 32]⟩ ⟨a.toArray⟩ (by simp [ByteArray.size]; omega)
    rw [this]
    congr 2
  have HAL : Hid (([111, 116, 104, 101, 114, 32] ++ a : List UInt8).length ≤ maxLen) := Lib.hid (by unfold maxLen; simp; omega)
  clear h hb hW ht ha
  unfold opC
  unfold opC at HW
  generalize [111, 116, 104, 101, 114, 32] ++ a = oa at *
  go_enter Try.func10, Try.ntmps10
  go_upto_region 1 with fail
  rw [HW.out, HB.out]
  obtain ⟨c0, -, c2, -⟩ := HC.out
  have ht := HT.out
  rcases h1 with rfl | rfl
  all_goals (
    go_upto_region 28 with fail
    clear ht c0
    go_wp2_with fail
    refine HCP.out.mono ?_
    rintro e w2 ⟨c, rfl, hc2, f2⟩
    have HI2 := Lib.hid (HIN.out.keep f2)
    have HL1 := Lib.hid (m_len hc2)
    have HL2 := Lib.hid (m_len HI2.out.dt)
    have HC2 := Lib.hid hc2
    have HF2 := Lib.hid f2
    have c2 := HI2.out.cells.2.2.1
    have HPU := Lib.hid (m_put hc2 oa HAL.out)
    clear hc2 f2 HCP
    have hcat := HCAT.out
    go_wp2_with (first
      | (go_at_call 11; (with_reducible refine HL1.out.mono ?_); rintro e w' ⟨rfl, rfl⟩)
      | (go_at_call 11; (with_reducible refine HL2.out.mono ?_); rintro e w' ⟨rfl, rfl⟩))
    refine HPU.out.mono ?_
    rintro e w3 ⟨rfl, hc3, f3⟩
    have HF3 := Lib.hid (fr_bel HF2.out f3)
    have HC3 := Lib.hid hc3
    obtain ⟨T, hT⟩ := ord_exists hc3.facts.1
    have HO := Lib.hid hT
    have HLT : Hid (T.length ≤ 4096) := Lib.hid (by rw [hT.len]; exact hc3.facts.2.1)
    have HCP2 := Lib.hid (m_copy hc3)
    clear hc3 f3 hT hcat HPU HL1 HL2 HC2
    go_wp2_with fail
    refine HCP2.out.mono ?_
    rintro e w4 ⟨c', rfl, hc4, f4⟩
    have HF4 := Lib.hid (HF3.out.trans f4 fun _ _ h => h)
    have HC34 := Lib.hid (HC3.out.keep f4)
    have HF34 := Lib.hid f4
    have HS4 := Lib.hid (st_sorted hc4 HO.out)
    clear hc4 f4 HCP2
    go_wp2_with fail
    refine HS4.out.mono ?_
    rintro e w5 ⟨v1, rfl, ho1, hd5, f5⟩
    have f35 : Fr No w3 w5 := fr_bel HF34.out f5
    have hc5 : Dt w5 (OwnX (Bel w.heap.size) v1) c _ := HC3.out.more f35 fun j hj => by
      rcases hj with hj | hj
      · exact .inl hj
      · exact .inr ⟨Nat.le_trans HF34.out.size (ho1.lt j hj).1, (ho1.lt j hj).2⟩
    have HF5 := Lib.hid (HF3.out.trans f35 fun _ _ h => h)
    have HS5 := Lib.hid (st_sorted hc5 HO.out)
    have HR1 := Lib.hid ho1
    clear ho1 hd5 f5 f35 hc5 HS4 HC34 HF4 HF34
    go_wp2_with fail
    refine HS5.out.mono ?_
    rintro e w6 ⟨v2, rfl, ho2, hd6, f6⟩
    have hr1 := row_keep HR1.out (fun j hj => .inr hj) f6
    have HF6 := Lib.hid (fr_bel HF5.out (f6.mono fun j _ hj hx => hj (.inl hx)))
    have HSA := Lib.hid (same_true v1 v2 T w6 (LAt.own hr1 (by have := HLT.out; omega)) (LAt.own ho2 (by have := HLT.out; omega)))
    clear ho2 hd6 f6 hr1 HS5
    go_wp2_with (go_at_call 12; refine HSA.out.mono ?_; rintro e w7 ⟨rfl, f7⟩)
    go_ret
    exact (HIN.out.keep (HF6.out.trans f7 fun _ _ h => h)).both)
end
end Go.Proofs.Ytlglfcadoofmpaa
