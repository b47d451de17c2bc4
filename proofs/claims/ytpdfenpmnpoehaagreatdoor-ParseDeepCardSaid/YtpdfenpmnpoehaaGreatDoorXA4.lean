/- Keywords: spells, keywordOf, IsKeyword. -/
import Derived.Test.YtpdfenpmnpoehaaGreatDoorXA3
namespace Go.Proofs.YtpdfenpmnpoehaaGreatDoor
open Go.RowKit Go.Maps
set_option linter.unusedVariables false

/-- The first k bytes of s, in capitals, are those of t. -/
def SpTo (s t : ByteArray) (k : Nat) : Prop := ∀ j (h : j < s.size) (h2 : j < t.size), j < k → capB s[j] = t[j]
theorem spell_no {s t : ByteArray} {k : Nat} (hk : k < s.size) (hk2 : k < t.size) (h : capB s[k] ≠ t[k]) : s.data.toList.map capB ≠ t.data.toList := by
  intro e
  apply h
  have h1 : (s.data.toList.map capB)[k]? = some (capB s[k]) := by
    rw [List.getElem?_map, List.getElem?_eq_getElem (by rw [len_data]; exact hk)]; rfl
  have h2 : t.data.toList[k]? = some t[k] := by rw [List.getElem?_eq_getElem (by rw [len_data]; exact hk2)]; rfl
  rw [e, h2] at h1
  exact (Option.some.inj h1).symm
theorem spell_yes {s t : ByteArray} (hl : s.size = t.size) (H : SpTo s t s.size) : s.data.toList.map capB = t.data.toList := by
  apply List.ext_getElem
  · rw [List.length_map, len_data, len_data, hl]
  · intro j h1 h2
    rw [List.getElem_map]
    have hj : j < s.size := by rw [List.length_map, len_data] at h1; exact h1
    exact H j hj (by omega) hj
def SpellP (s t : ByteArray) (w : World) (e : Ending) (w' : World) : Prop := e = .returned (.bool (s.data.toList.map capB == t.data.toList)) ∧ ∃ n, w' = w.drewN n
set_option maxHeartbeats 2000000 in
theorem spells_any (s t : ByteArray) (w : World) (hs : s.size ≤ maxLen) (ht : t.size ≤ maxLen) : Calls Tryz.prog 146 #[.string s, .string t] w (SpellP s t w) := by
  unfold maxLen at hs ht
  by_cases hl : s.size = t.size
  · have HNO : Hid (∀ k (h : k < s.size) (h2 : k < t.size), capB s[k] ≠ t[k] → (s.data.toList.map capB == t.data.toList) = false) := Lib.hid fun k h h2 h3 => by simpa using spell_no h h2 h3
    have HYES : Hid (SpTo s t s.size → (s.data.toList.map capB == t.data.toList) = true) := Lib.hid fun h => by simpa using spell_yes hl h
    obtain ⟨n, hn⟩ : ∃ n, s.size = n := ⟨_, rfl⟩
    have hn2 : t.size = n := by omega
    have HN := Lib.hid hn
    have HN2 := Lib.hid hn2
    rw [hn] at hs
    have hls : s.size = n := hn
    clear hl ht hn hn2
    go_enter Tryz.func146, Tryz.ntmps146
    have hlt2 : t.size = n := HN2.out
    go_wp2
    clear hls hlt2
    go_loopw [5, 13] (fun _ iv wr => ∃ k : Nat, k ≤ n ∧ iv = .int .i64 k ∧ Hid (SpTo s t k) ∧ ∃ q, wr = w.drewN q) (fun _ iv _ => n - (intOf iv).toNat)
    case atStart => exact ⟨0, Nat.zero_le _, rfl, Lib.hid (fun j h h2 hj => by omega), 0, rfl⟩
    case round =>
      obtain ⟨k, hk, rfl, HSP, q, rfl⟩ := hrel
      by_cases hlt : k < n
      · have h1 : k < s.size := by have := HN.out; omega
        have h2 : k < t.size := by have := HN2.out; omega
        have hb := u8_lt s[k]
        have hc := u8_lt t[k]
        obtain ⟨wr, hwr⟩ : ∃ wr, w.drewN q = wr := ⟨_, rfl⟩
        rw [hwr]
        have HWR := Lib.hid hwr
        have HC := fun q' => Lib.hid (Calls.quiet_of_same (P := Tryz.prog) (w := wr) (n := q') ((capital_any s[k] (wr.drewN q')).mono fun e w'' ⟨h1, h2⟩ => ⟨h1, h2.symm⟩))
        by_cases hce : capB s[k] = t[k]
        · have hbe : (((capB s[k]).toNat : Int) != (t[k].toNat : Int)) = false := by rw [hce]; simp
          have HSN : Hid (SpTo s t (k + 1)) := Lib.hid fun j hj hj2 hjk => by
            rcases Nat.lt_or_eq_of_le (Nat.le_of_lt_succ hjk) with h3 | rfl
            · exact HSP.out j hj hj2 h3
            · exact hce
          clear hce hwr
          go_upto_region 6 with fail
          go_quiet ((go_at_call 157; exact (HC _).out))
          all_goals go_wp2
          all_goals go_roundw
          all_goals first
            | (case rel => exact ⟨k + 1, by omega, by go_num, HSN, _, by rw [← HWR.out, World.drewN_drewN]⟩)
            | (case measure => simp [intOf]; omega)
        · have hbe : (((capB s[k]).toNat : Int) != (t[k].toNat : Int)) = true := by
            have : (capB s[k]).toNat ≠ t[k].toNat := fun e => hce (UInt8.toNat_inj.1 e)
            simp; omega
          have HV := Lib.hid (HNO.out k h1 h2 hce)
          clear hce hwr
          go_upto_region 6 with fail
          go_quiet ((go_at_call 157; exact (HC _).out))
          all_goals go_wp2
          all_goals go_ret
          all_goals exact ⟨ret_bool HV.out.symm, _, by rw [← HWR.out, World.drewN_drewN]⟩
      · obtain rfl : k = n := by omega
        go_wp2
        go_ret
        exact ⟨ret_bool (HYES.out (by rw [HN.out]; exact HSP.out)).symm, _, rfl⟩
  · have hne : (s.data.toList.map capB == t.data.toList) = false := by
      have : s.data.toList.map capB ≠ t.data.toList := fun e => hl (by have := congrArg List.length e; rw [List.length_map, len_data, len_data] at this; exact this)
      simpa using this
    have hn : ((s.size : Int) != (t.size : Int)) = true := by simp; omega
    have HV := Lib.hid hne
    clear hl hne
    unfold SpellP
    rw [HV.out]
    go_enter Tryz.func146, Tryz.ntmps146
    go_wp2
    go_ret
    exact ⟨rfl, 0, rfl⟩
end Go.Proofs.YtpdfenpmnpoehaaGreatDoor
