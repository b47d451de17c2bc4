/- The document's dictionary: where it lies; Less, Find, Text, Rank. -/
import Derived.Test.YtlglfcadoofmpaaB5
import Derived.Test.YtlglfcadoofmpaaP4
namespace Go.Proofs.Ytlglfcadoofmpaa
open Go.RowKit Go.Maps Go.Proofs
set_option linter.unusedVariables false

structure Rt (B r : Nat) (lv : Value) (L : List Tx) (w : World) : Prop where
  blk : Blk w r 29 #[lv]
  row : w.ownsRow B 9 1 lv L.length (L.map encT)
theorem Rt.keep {B r : Nat} {lv : Value} {L : List Tx} {w w' : World} (h : Rt B r lv L w) (hf : Fr No w w') : Rt B r lv L w' :=
  ⟨h.blk.of (hf.block r h.blk.lt id), own_of h.row fun k hk => hf.block k (h.row.lt k hk).2 id⟩
theorem Rt.cells {B r : Nat} {lv : Value} {L : List Tx} {w : World} (h : Rt B r lv L w) (hL : 0 < L.length) : ∃ g c, lv = .slice (some ⟨g, 0, none⟩) L.length c ∧ w.cell? ⟨r, 0, none⟩ = some (.slice (some ⟨g, 0, none⟩) L.length c) ∧ ∀ i, i < L.length → w.cell? ⟨g, i, none⟩ = some (encT (txt L i)) := by
  obtain ⟨g, c, e, _, hc⟩ := own_cells h.row hL
  refine ⟨g, c, e, by rw [← e]; exact h.blk.cell 0, fun i hi => (hc i hi).1.trans ?_⟩
  rw [txt_get hi]; simp [hi]
theorem Rt.cell {B r : Nat} {lv : Value} {L : List Tx} {w : World} (h : Rt B r lv L w) : ∃ A c, lv = .slice A L.length c ∧ w.cell? ⟨r, 0, none⟩ = some (.slice A L.length c) := by
  obtain ⟨A, c, e⟩ := own_form h.row
  exact ⟨A, c, e, by rw [← e]; exact h.blk.cell 0⟩

theorem eqb (a b : Nat) : ((a : Int) == (b : Int)) = decide (a = b) := by
  by_cases h : a = b
  · subst h; simp
  · have : ¬ (a : Int) = (b : Int) := by omega
    simp [h, this]
def LessQ (b : Bool) (w : World) (e : Ending) (w' : World) : Prop := e = .returned (.bool b) ∧ ∃ q, w' = w.drewN q
theorem drewN_trans {w w1 w2 : World} (h1 : ∃ q, w1 = w.drewN q) (h2 : ∃ q, w2 = w1.drewN q) : ∃ q, w2 = w.drewN q := by
  obtain ⟨a, rfl⟩ := h1
  obtain ⟨b, rfl⟩ := h2
  exact ⟨a + b, by rw [World.drewN_drewN]⟩
theorem drewN_fr {w w' : World} (h : ∃ q, w' = w.drewN q) : Fr No w w' := by
  obtain ⟨q, rfl⟩ := h
  exact (Fr.refl No w).drewN q

set_option maxHeartbeats 2000000 in
theorem less_any (s1 s2 : ByteArray) (w : World) (h1 : s1.size ≤ maxLen) (h2 : s2.size ≤ maxLen) : Calls Try.prog 34 #[.string s1, .string s2] w (LessQ (Op.bytesLess s1.data.toList s2.data.toList) w) := by
  unfold maxLen at h1 h2
  obtain ⟨x, hx⟩ : ∃ x, Op.bytesLess s1.data.toList s2.data.toList = x := ⟨_, rfl⟩
  rw [hx]
  have HX := Lib.hid hx
  clear hx
  go_enter Try.func34, Try.ntmps34
  go_wp2
  go_loopw [5] (fun iv wr => ∃ k : Nat, iv = .int .i64 k ∧ k ≤ s1.size ∧ k ≤ s2.size ∧ Hid (Op.bytesLess (s1.data.toList.drop k) (s2.data.toList.drop k) = x) ∧ Hid (∃ q, wr = w.drewN q)) (fun iv _ => s1.size - (intOf iv).toNat)
  case atStart => exact ⟨0, rfl, Nat.zero_le _, Nat.zero_le _, HX, Lib.hid ⟨0, rfl⟩⟩
  case round =>
    obtain ⟨k, rfl, hk1, hk2, HK, HW⟩ := hrel
    by_cases hlt : k < s1.size ∧ k < s2.size
    · obtain ⟨l1, l2⟩ := hlt
      have g1 : k < s1.data.toList.length := by simpa using l1
      have g2 : k < s2.data.toList.length := by simpa using l2
      by_cases he : s1.data.toList[k] = s2.data.toList[k]
      · have hk := HK.out
        rw [less_same g1 g2 he] at hk
        have HK' := Lib.hid hk
        have he' : s1[k] = s2[k] := he
        have hn : (s1[k].toNat : Int) = (s2[k].toNat : Int) := by rw [he']
        have hb : ((s1[k].toNat : Int) == (s2[k].toNat : Int)) = true := by simpa using hn
        clear hk he he' hn HK
        go_upto_region 4 with fail
        go_quiet (fail)
        go_wp2
        go_roundw
        case rel => exact ⟨k + 1, by go_num, by omega, by omega, HK', Lib.hid (drewN_trans HW.out ⟨_, rfl⟩)⟩
        case measure => simp [intOf]; omega
      · have hk := HK.out
        rw [less_ne g1 g2 he] at hk
        have HK' : Hid (decide (s1[k].toNat < s2[k].toNat) = x) := Lib.hid hk
        have he' : ¬ s1[k] = s2[k] := he
        have hb : ((s1[k].toNat : Int) == (s2[k].toNat : Int)) = false := by
          rw [eqb]; simp only [decide_eq_false_iff_not]
          exact fun e => he' (UInt8.toNat_inj.1 e)
        clear hk he he' HK HX
        go_upto_region 4 with fail
        go_quiet (fail)
        go_upto_region 5 with fail
        obtain ⟨w5, hw5⟩ : ∃ w5, wr.drewN nq = w5 := ⟨_, rfl⟩
        have HW5 : Hid (∃ q, w5 = w.drewN q) := Lib.hid (drewN_trans HW.out ⟨nq, hw5.symm⟩)
        rw [hw5]
        clear hw5 HW hb
        go_quiet (fail)
        go_wp2
        go_ret
        exact ⟨ret_bool (by rw [← HK'.out]), drewN_trans HW5.out ⟨_, rfl⟩⟩
    · have hor : k = s1.size ∨ k = s2.size := by omega
      have hk := HK.out
      rw [less_end (hor.imp (fun e => by rw [e]; simp) (fun e => by rw [e]; simp)) (by simpa using hk1) (by simpa using hk2)] at hk
      have HK' : Hid (decide (s1.size < s2.size) = x) := Lib.hid (by simpa using hk)
      clear hk HK HX hlt
      rcases hor with rfl | rfl
      · go_wp2
        go_ret
        exact ⟨ret_bool (by rw [← HK'.out]), HW.out⟩
      · by_cases hl : s2.size < s1.size
        · go_wp2
          go_ret
          exact ⟨ret_bool (by rw [← HK'.out]), HW.out⟩
        · go_wp2
          go_ret
          exact ⟨ret_bool (by rw [← HK'.out]), HW.out⟩
end Go.Proofs.Ytlglfcadoofmpaa
