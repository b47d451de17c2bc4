/- The document's comparison of two conditions. -/
import Derived.Test.YtkcnbmgaeompjaaGreatDoorW5A
import Derived.Test.YtkcnbmgaeompjaaGreatDoorW5B
namespace Go.Proofs.YtkcnbmgaeompjaaGreatDoor
open Go.RowKit Go.Maps
set_option linter.unusedVariables false

set_option maxRecDepth 100000 in
set_option maxHeartbeats 16000000 in
theorem dcond_any (K K2 : Nat → Prop) (b : Nat) (hKb : ∀ k, K k → k ≠ b) (hKb2 : ∀ k, K2 k → k ≠ b) : ∀ (d : Nat) (c c2 : Cd) (v v2 : Value) (w : World) (n : Nat), n ≤ d → CdTo K w d c v → CdTo K2 w d c2 v2 → Blk w b 70 #[.int .i64 (n : Nat)] → n ≤ 100000 →
    Calls Tryz.prog 33 #[v, v2, .pointer (some ⟨b, 0, none⟩)] w (DcP b (sameC c c2 n) w)
  | d, .none, .none, v, v2, w, n, hd, hA, hB, hb, hn => by
    obtain rfl : v = .pointer none := by cases d <;> exact hA
    obtain rfl : v2 = .pointer none := by cases d <;> exact hB
    have HB := Lib.hid hb
    clear hA hB hb
    go_enter Tryz.func33, Tryz.ntmps33
    go_wp2_with fail
    go_ret
    exact ⟨by unfold sameC; rfl, Fr.refl _ _, fun m h => by unfold sameC at h; cases h; exact HB.out⟩
  | d, .none, .node .., v, v2, w, n, hd, hA, hB, hb, hn => by
    obtain rfl : v = .pointer none := by cases d <;> exact hA
    obtain ⟨g, o, rfl⟩ : ∃ g o, v2 = .pointer (some ⟨g, o, none⟩) := by
      rcases hB.ptr with h | h
      · cases h.1
      · exact h.2
    clear hA hB hb
    go_enter Tryz.func33, Tryz.ntmps33
    go_wp2_with fail
    go_ret
    exact ⟨by unfold sameC; rfl, Fr.refl _ _, fun m h => by unfold sameC at h; cases h⟩
  | d, .node .., .none, v, v2, w, n, hd, hA, hB, hb, hn => by
    obtain rfl : v2 = .pointer none := by cases d <;> exact hB
    obtain ⟨g, o, rfl⟩ : ∃ g o, v = .pointer (some ⟨g, o, none⟩) := by
      rcases hA.ptr with h | h
      · cases h.1
      · exact h.2
    clear hA hB hb
    go_enter Tryz.func33, Tryz.ntmps33
    go_wp2_with fail
    go_ret
    exact ⟨by unfold sameC; rfl, Fr.refl _ _, fun m h => by unfold sameC at h; cases h⟩
  | d, .node k l r col op vals, .node k2 l2 r2 col2 op2 vals2, v, v2, w, 0, hd, hA, hB, hb, hn => by
    obtain ⟨g, o, rfl⟩ : ∃ g o, v = .pointer (some ⟨g, o, none⟩) := by
      rcases hA.ptr with h | h
      · cases h.1
      · exact h.2
    obtain ⟨g2, o2, rfl⟩ : ∃ g o, v2 = .pointer (some ⟨g, o, none⟩) := by
      rcases hB.ptr with h | h
      · cases h.1
      · exact h.2
    have c0 : w.cell? ⟨b, 0, none⟩ = some (.int .i64 0) := hb.cell 0
    clear hA hB hb
    go_enter Tryz.func33, Tryz.ntmps33
    go_wp2_with fail
    go_ret
    exact ⟨by unfold sameC; rfl, Fr.refl _ _, fun m h => by unfold sameC at h; cases h⟩
  | 0, .node .., .node .., v, v2, w, n + 1, hd, hA, hB, hb, hn => by omega
  | d + 1, .node k l r col op vals, .node k2 l2 r2 col2 op2 vals2, v, v2, w, n + 1, hd, hA, hB, hb, hn => by
    have hIH : DcIH K K2 b d := fun c c2 v v2 w n h1 h2 h3 h4 h5 => dcond_any K K2 b hKb hKb2 d c c2 v v2 w n h1 h2 h3 h4 h5
    cases hnb : nodeB k col op vals k2 col2 op2 vals2 with
    | false => exact dcond_no hKb hKb2 hIH hd hA hB hb hn hnb
    | true =>
      cases hsl : sameC l l2 n with
      | none => exact dcond_left hKb hKb2 hIH hd hA hB hb hn hnb hsl
      | some m => exact dcond_both hKb hKb2 hIH hd hA hB hb hn hnb hsl
end Go.Proofs.YtkcnbmgaeompjaaGreatDoor
