/- Keywords: the keyword that a text is. -/
import Derived.Test.YtpdfenpmnpoehaaGreatDoorXA4
namespace Go.Proofs.YtpdfenpmnpoehaaGreatDoor
open Go.RowKit Go.Maps
set_option linter.unusedVariables false

def kwsV : Array Value := (kws.map fun k => Value.string ⟨k.toArray⟩).toArray
theorem kwsV_at : ∀ {k : Nat}, k < 17 → kwsV[k]? = some (.string ⟨(kwN k).toArray⟩) := by
  intro k hk
  have h : k = 0 ∨ k = 1 ∨ k = 2 ∨ k = 3 ∨ k = 4 ∨ k = 5 ∨ k = 6 ∨ k = 7 ∨ k = 8 ∨ k = 9 ∨ k = 10 ∨ k = 11 ∨ k = 12 ∨ k = 13 ∨ k = 14 ∨ k = 15 ∨ k = 16 := by omega
  rcases h with rfl | rfl | rfl | rfl | rfl | rfl | rfl | rfl | rfl | rfl | rfl | rfl | rfl | rfl | rfl | rfl | rfl <;> rfl
theorem index_agg (cs : Array Value) (k : Nat) (v : Value) (hk : k < 17) (hv : cs[k]? = some v) (w : World) : (Instr.index 155 (.agg cs) (.int .i64 (k : Nat))).run Tryz.prog w = .ok v w := by
  have h1 : ¬ 17 ≤ k := by omega
  simp [Instr.index, asIntOf, run_underlying Tryz.underlying155, part, h1, hv, go_sem]
def cells17 (a : Addr) : Sem (Array Value) := loadCellsFrom a 0 17 #[]
theorem to17 (a : Addr) : loadCellsFrom a 0 17 #[] = cells17 a := rfl
theorem to17' (a : Addr) : loadCells a 17 = cells17 a := rfl
theorem load17 (w : World) (hL : Lr w) : (cells17 ⟨2, 0, none⟩).run Tryz.prog w = .ok kwsV w := by
  have h2 := run_loadCellsFrom (P := Tryz.prog) w ⟨2, 0, none⟩ (fun j => (kwsV[j]?).getD undef) 17 0 #[] (fun j hj => by
    rw [Nat.zero_add, kwsV_at hj]
    rw [show (⟨2, 0, none⟩ : Addr).add j = ⟨2, j, none⟩ by simp [Addr.add]; exact fun e => e.symm]
    exact hL.kws j hj)
  unfold cells17
  rw [h2]
  rfl
attribute [local go_sem ↓] to17 to17'
def KwP (s : ByteArray) (w : World) (e : Ending) (w' : World) : Prop := e = .returned (.string ⟨(kwOf s.data.toList).toArray⟩) ∧ ∃ n, w' = w.drewN n
theorem kw_yes {s : ByteArray} {k : Nat} (hk : k < 17) (h : s.data.toList.map capB = kwN k) : kwOf s.data.toList = kwN k := by
  unfold kwOf
  rw [h, if_pos (kwN_mem k hk)]
theorem kw_no {s : ByteArray} (h : ∀ k (hk : k < 17), s.data.toList.map capB ≠ kwN k) : kwOf s.data.toList = [] := by
  rw [kwOf_nil_iff]
  intro hm
  obtain ⟨k, hk, e⟩ := mem_kwN hm
  exact h k hk e.symm
set_option maxRecDepth 100000 in
set_option maxHeartbeats 2000000 in
theorem keywordOf_any (s : ByteArray) (w : World) (hL : Lr w) (hs : s.size ≤ maxLen) : Calls Tryz.prog 109 #[.string s] w (KwP s w) := by
  have hload := load17 w hL
  have HIX : Hid (∀ (k : Nat) (hk : k < 17) (w' : World), (Instr.index 155 (.agg kwsV) (.int .i64 (k : Nat))).run Tryz.prog w' = .ok (.string ⟨(kwN k).toArray⟩) w') := Lib.hid fun k hk w' => index_agg _ k _ hk (kwsV_at hk) w'
  generalize kwsV = K at *
  have HS := Lib.hid hs
  clear hL hs
  go_enter Tryz.func109, Tryz.ntmps109
  go_wp2
  clear hload
  go_loopw [4, 6] (fun _ iv wr => ∃ k : Nat, k ≤ 17 ∧ iv = .int .i64 k ∧ Hid (∀ j (hj : j < 17), j < k → s.data.toList.map capB ≠ kwN j) ∧ ∃ q, wr = w.drewN q) (fun _ iv _ => 17 - (intOf iv).toNat)
  case atStart => exact ⟨0, Nat.zero_le _, rfl, Lib.hid (fun j h hj => by omega), 0, rfl⟩
  case round =>
    obtain ⟨k, hk, rfl, HN, q, rfl⟩ := hrel
    by_cases hlt : k < 17
    · obtain ⟨wr, hwr⟩ : ∃ wr, w.drewN q = wr := ⟨_, rfl⟩
      rw [hwr]
      have HWR := Lib.hid hwr
      have hix := HIX.out k hlt wr
      have HSP := Lib.hid (spells_any s ⟨(kwN k).toArray⟩ wr HS.out (by
        have h1 := (kws_len _ (kwN_mem k hlt)).2
        rw [← len_data]
        unfold maxLen
        show (kwN k).length ≤ 9223372036854775807
        omega))
      have HY : Hid (s.data.toList.map capB = kwN k → kwOf s.data.toList = kwN k) := Lib.hid (kw_yes hlt)
      have HNX : Hid ((s.data.toList.map capB == kwN k) = false → ∀ j (hj : j < 17), j < k + 1 → s.data.toList.map capB ≠ kwN j) := Lib.hid fun h j hj hjk => by
        rcases Nat.lt_or_eq_of_le (Nat.le_of_lt_succ hjk) with h3 | rfl
        · exact HN.out j hj h3
        · simpa using h
      clear hwr HN
      generalize kwN k = t at *
      go_wp2_with fail
      refine HSP.out.mono ?_
      rintro e w' ⟨rfl, q', rfl⟩
      obtain ⟨b, hb⟩ : ∃ b, (s.data.toList.map capB == t) = b := ⟨_, rfl⟩
      rw [show ((s.data.toList.map capB == (⟨t.toArray⟩ : ByteArray).data.toList)) = b from hb]
      have HB := Lib.hid hb
      clear hix hb
      cases b with
      | true =>
        have HE : Hid (kwOf s.data.toList = t) := Lib.hid (HY.out (by simpa using HB.out))
        go_wp2
        go_ret
        exact ⟨by rw [HE.out]; rfl, _, by rw [← HWR.out, World.drewN_drewN]⟩
      | false =>
        go_wp2
        go_roundw
        case rel => exact ⟨k + 1, by omega, by go_num, Lib.hid (HNX.out HB.out), _, by rw [← HWR.out, World.drewN_drewN]⟩
        case measure => simp [intOf]; omega
    · obtain rfl : k = 17 := by omega
      have HE : Hid (kwOf s.data.toList = []) := Lib.hid (kw_no fun j hj => HN.out j hj hj)
      go_wp2
      go_ret
      exact ⟨by rw [HE.out]; rfl, _, rfl⟩
end Go.Proofs.YtpdfenpmnpoehaaGreatDoor
