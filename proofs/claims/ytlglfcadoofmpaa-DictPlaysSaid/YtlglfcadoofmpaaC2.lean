/- The document's dictionary: Find, Text, Rank, Put. -/
import Derived.Test.YtlglfcadoofmpaaC1
namespace Go.Proofs.Ytlglfcadoofmpaa
open Go.RowKit Go.Maps Go.Proofs
set_option linter.unusedVariables false

theorem num_first {L : List Tx} {t : Tx} {k : Nat} (hk : k < L.length) (h : txt L k = t) (hb : ∀ i, i < k → txt L i ≠ t) : num L t = some k := by
  unfold num
  rw [List.findIdx?_eq_some_iff_getElem]
  rw [txt_get hk] at h
  refine ⟨hk, by simpa using h, fun j hj => ?_⟩
  have := hb j hj
  rw [txt_get (by omega)] at this
  simpa using this
theorem num_nowhere {L : List Tx} {t : Tx} (hb : ∀ i, i < L.length → txt L i ≠ t) : num L t = none := by
  rw [num_none]
  intro hm
  obtain ⟨i, hi, e⟩ := List.getElem_of_mem hm
  exact hb i hi (by rw [txt_get hi]; exact e)

section
variable {B r : Nat} {lv : Value} {L : List Tx} {w : World}
set_option maxHeartbeats 1600000 in
theorem r_find (h : Rt B r lv L w) (hL : L.length ≤ 1000000) (t : Tx) : Calls Try.prog 21 #[.pointer (some ⟨r, 0, none⟩), .string ⟨t.toArray⟩] w (TextP (.int .i64 (onI (num L t))) (num L t).isSome w) := by
  obtain ⟨A, c, e, c0⟩ := h.cell
  have HH := Lib.hid h
  obtain ⟨n, hn⟩ : ∃ n, L.length = n := ⟨_, rfl⟩
  rw [hn] at c0 hL
  have HN := Lib.hid hn
  have HE := Lib.hid e
  clear h hn e
  go_enter Try.func21, Try.ntmps21
  go_wp2
  go_loop [6] (fun iv => ∃ k : Nat, iv = .int .i64 k ∧ k ≤ n ∧ Hid (∀ i, i < k → txt L i ≠ t)) (fun iv => n - (intOf iv).toNat)
  case atStart => exact ⟨0, rfl, Nat.zero_le _, Lib.hid fun i hi => absurd hi (Nat.not_lt_zero _)⟩
  case round =>
    obtain ⟨k, rfl, hk, HB⟩ := hrel
    by_cases hlt : k < n
    · obtain ⟨g, c', e', -, hc⟩ := HH.out.cells (by rw [HN.out]; omega)
      rw [HE.out] at e'
      injection e' with e1 _ _
      subst e1
      have ck := hc k (by rw [HN.out]; exact hlt)
      unfold encT at ck
      by_cases he : txt L k = t
      · have hnum := num_first (by rw [HN.out]; exact hlt) he HB.out
        have HNU := Lib.hid hnum
        rw [he] at ck
        clear hc hnum he
        go_wp2
        go_ret2
        unfold TextP
        rw [HNU.out]
        exact ⟨rfl, rfl⟩
      · have hb : (txt L k == t) = false := by simpa using he
        have HB' : Hid (∀ i, i < k + 1 → txt L i ≠ t) := Lib.hid fun i hi => by
          rcases Nat.lt_or_ge i k with q | q
          · exact HB.out i q
          · obtain rfl : i = k := by omega
            exact he
        clear hc he HB
        generalize txt L k = y at *
        go_wp2
        go_round
        case rel => exact ⟨k + 1, by go_num, by omega, HB'⟩
        case measure => simp [intOf]; omega
    · obtain rfl : k = n := by omega
      have hnum := num_nowhere (L := L) (t := t) (by rw [HN.out]; exact HB.out)
      have HNU := Lib.hid hnum
      clear hnum
      go_wp2
      go_ret2
      unfold TextP
      rw [HNU.out]
      exact ⟨rfl, rfl⟩

theorem r_text (h : Rt B r lv L w) (hL : L.length ≤ 1000000) (n : Nat) (hn : n < L.length) : Calls Try.prog 23 #[.pointer (some ⟨r, 0, none⟩), .int .i64 n] w (TextP (encT (txt L n)) true w) := by
  obtain ⟨g, c, e, c0, hc⟩ := h.cells (by omega)
  have ck := hc n hn
  clear hc h e
  generalize encT (txt L n) = v at *
  go_enter Try.func23, Try.ntmps23
  go_wp2
  go_ret2
  exact ⟨rfl, rfl⟩
theorem r_text_out (h : Rt B r lv L w) (hL : L.length ≤ 1000000) (n : Int) (hn : n < 0 ∨ (L.length : Int) ≤ n) : Calls Try.prog 23 #[.pointer (some ⟨r, 0, none⟩), .int .i64 n] w (TextP (.string ⟨#[]⟩) false w) := by
  obtain ⟨A, c, e, c0⟩ := h.cell
  clear h e
  by_cases h0 : n < 0
  · clear hn
    go_enter Try.func23, Try.ntmps23
    go_wp2
    go_ret2
    exact ⟨rfl, rfl⟩
  · have h1 : (L.length : Int) ≤ n := by omega
    clear hn
    go_enter Try.func23, Try.ntmps23
    go_wp2
    go_ret2
    exact ⟨rfl, rfl⟩
theorem r_rank_out (h : Rt B r lv L w) (hL : L.length ≤ 1000000) (n : Int) (hn : n < 0 ∨ (L.length : Int) ≤ n) : Calls Try.prog 24 #[.pointer (some ⟨r, 0, none⟩), .int .i64 n] w (TextP (.int .i64 0) false w) := by
  obtain ⟨A, c, e, c0⟩ := h.cell
  clear h e
  by_cases h0 : n < 0
  · clear hn
    go_enter Try.func24, Try.ntmps24
    go_wp2
    go_ret2
    exact ⟨rfl, rfl⟩
  · have h1 : (L.length : Int) ≤ n := by omega
    clear hn
    go_enter Try.func24, Try.ntmps24
    go_wp2
    go_ret2
    exact ⟨rfl, rfl⟩

def RRankQ (k : Nat) (w : World) (e : Ending) (w' : World) : Prop := e = .returned (.tuple #[.int .i64 k, .bool true]) ∧ ∃ q, w' = w.drewN q
set_option maxRecDepth 100000 in
set_option maxHeartbeats 1600000 in
theorem r_rank (h : Rt B r lv L w) (hL : L.length ≤ 4096) (htx : ∀ t ∈ L, t.length ≤ 64) (n : Nat) (hn : n < L.length) : Calls Try.prog 24 #[.pointer (some ⟨r, 0, none⟩), .int .i64 n] w (RRankQ (rankN L n) w) := by
  obtain ⟨g, c, e, c0, hc⟩ := h.cells (by omega)
  have HC := Lib.hid hc
  have HT := Lib.hid htx
  obtain ⟨m, hm⟩ : ∃ m, L.length = m := ⟨_, rfl⟩
  have hnm : n < m := by omega
  rw [hm] at c0 hL
  have HM := Lib.hid hm
  have HR : Hid (rankN L n = (L.take m).countP fun t => Op.bytesLess t (txt L n)) := Lib.hid (by rw [← hm, List.take_length]; rfl)
  have cn0 := hc n hn
  have HLN : Hid ((txt L n).length ≤ 64) := Lib.hid (by rw [txt_get hn]; exact htx _ (List.getElem_mem hn))
  have HCN := Lib.hid cn0
  clear h hc htx hm e hn cn0
  go_enter Try.func24, Try.ntmps24
  go_wp2
  go_loopw [6, 7] (fun cv iv wr => ∃ k : Nat, iv = .int .i64 k ∧ k ≤ m ∧ cv = .int .i64 ((L.take k).countP (fun t => Op.bytesLess t (txt L n)) : Nat) ∧ Hid (∃ q, wr = w.drewN q)) (fun _ iv _ => m - (intOf iv).toNat)
  case atStart => exact ⟨0, rfl, Nat.zero_le _, rfl, Lib.hid ⟨0, rfl⟩⟩
  case round =>
    obtain ⟨k, rfl, hk, rfl, HW⟩ := hrel
    have c0' : wr.cell? ⟨r, 0, none⟩ = some (.slice (some ⟨g, 0, none⟩) m c) := by obtain ⟨q, rfl⟩ := HW.out; exact c0
    by_cases hlt : k < m
    · have hkl : k < L.length := by rw [HM.out]; exact hlt
      have ck : wr.cell? ⟨g, k, none⟩ = some (.string ⟨(txt L k).toArray⟩) := by obtain ⟨q, rfl⟩ := HW.out; exact HC.out k hkl
      have cn : wr.cell? ⟨g, n, none⟩ = some (.string ⟨(txt L n).toArray⟩) := by obtain ⟨q, rfl⟩ := HW.out; exact HCN.out
      have hcnt : (L.take (k + 1)).countP (fun t => Op.bytesLess t (txt L n)) = (L.take k).countP (fun t => Op.bytesLess t (txt L n)) + if Op.bytesLess (txt L k) (txt L n) = true then 1 else 0 := by
        rw [List.take_succ_eq_append_getElem hkl, List.countP_append, ← txt_get hkl]
        simp
      have hle : (L.take k).countP (fun t => Op.bytesLess t (txt L n)) ≤ k := Nat.le_trans List.countP_le_length (by rw [List.length_take]; omega)
      have HLK : Hid ((txt L k).length ≤ 64) := Lib.hid (by rw [txt_get hkl]; exact HT.out _ (List.getElem_mem hkl))
      have hcall : ∀ q, Calls Try.prog 34 #[.string ⟨(txt L k).toArray⟩, .string ⟨(txt L n).toArray⟩] (wr.drewN q) (LessQ (Op.bytesLess (txt L k) (txt L n)) (wr.drewN q)) := fun q => less_any ⟨(txt L k).toArray⟩ ⟨(txt L n).toArray⟩ _ (by have := HLK.out; exact size_le (by unfold maxLen; omega)) (by have := HLN.out; exact size_le (by unfold maxLen; omega))
      have HCL := Lib.hid hcall
      have HCT := Lib.hid hcnt
      clear hcall hkl hcnt c0
      generalize (L.take k).countP (fun t => Op.bytesLess t (txt L n)) = cnt at *
      generalize txt L k = tk at *
      generalize hb : Op.bytesLess tk (txt L n) = b at *
      generalize txt L n = tn at *
      clear hb
      go_upto_region 7 with fail
      go_quiet ((go_at_call 34; exact Calls.quiet_of (HCL.out _)))
      cases b with
      | true =>
        go_wp2
        go_roundw
        case rel => exact ⟨k + 1, by go_num, by omega, by rw [HCT.out, if_pos rfl]; go_num, Lib.hid (drewN_trans HW.out ⟨_, rfl⟩)⟩
        case measure => simp [intOf]; omega
      | false =>
        go_wp2
        go_roundw
        case rel => exact ⟨k + 1, by go_num, by omega, by rw [HCT.out, if_neg (by decide)]; rfl, Lib.hid (drewN_trans HW.out ⟨_, rfl⟩)⟩
        case measure => simp [intOf]; omega
    · obtain rfl : k = m := by omega
      clear c0
      go_wp2
      go_ret2
      exact ⟨by rw [HR.out]; rfl, HW.out⟩
end
end Go.Proofs.Ytlglfcadoofmpaa
