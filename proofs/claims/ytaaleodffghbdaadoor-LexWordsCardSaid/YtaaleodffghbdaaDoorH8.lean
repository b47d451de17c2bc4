/- LexWords, walked. -/
import Derived.Test.YtaaleodffghbdaaDoorH7
namespace Go.Proofs.YtaaleodffghbdaaDoor
open Go.RowKit Go.Maps
set_option linter.unusedVariables false

set_option maxRecDepth 100000 in
set_option maxHeartbeats 2000000 in
theorem refWords_long (s : ByteArray) (w : World) (hs : s.size ≤ maxLen) (h4 : 4096 < s.size) : Calls Tryd.prog 10 #[.string s] w (RWs [] 45 0 w) := by
  have HF : Hid (Fr No w (w.alloc (.cells #[.int .i64 45, .int .i64 0] 26))) := Lib.hid ((Fr.refl No w).alloc _)
  unfold maxLen at hs
  go_enter Tryd.func10, Tryd.ntmps10
  go_wp2
  refine bodyPost_ret (v := .tuple #[.slice none 0 0, .agg #[.int .i64 45, .int .i64 0]]) (by simp [results, Tryd.results10, go_sem]) rfl ?_
  exact ⟨_, rfl, LW.nil _, HF.out⟩
theorem refWords_any (s : ByteArray) (w : World) (hs : s.size ≤ maxLen) {ws : List Wd} {c f : Nat} (hw : wordsB s.data.toList = (ws, c, f)) : Calls Tryd.prog 10 #[.string s] w (RWs ws c f w) := by
  by_cases h4 : 4096 < s.size
  · have h1 : wordsB s.data.toList = ([], 45, 0) := by unfold wordsB; rw [len_data, if_pos h4]
    rw [h1] at hw
    simp only [Prod.mk.injEq] at hw
    obtain ⟨rfl, rfl, rfl⟩ := hw
    exact refWords_long s w hs h4
  · exact refWords_some s w (by omega) hw

/-- A row of words that may be written to. -/
structure RowAt (B : Nat) (w : World) (A : Option Addr) (n : Nat) : Prop where
  at_ : 0 < n → ∃ g cs, A = some ⟨g, 0, none⟩ ∧ Blk w g 31 cs ∧ n * 3 ≤ cs.size ∧ B ≤ g
theorem RowAt.of_row {B n c : Nat} {w : World} {A : Option Addr} {l : List Wd} (h : RowW B w (.slice A n c) l) : RowAt B w A n := by
  refine ⟨fun hn => ?_⟩
  obtain ⟨h1, h2⟩ := h
  rcases h2 with ⟨h2, h0⟩ | ⟨g, cap, cur, e1, hb, hh, hnc, hcm, hs, ht⟩
  · injection h2 with a b c
    omega
  · injection e1 with e1 e2 e3
    refine ⟨g, cur, e1, hh, ?_, hb⟩
    have : l.length ≤ cap := hnc
    rw [hs]
    exact Nat.mul_le_mul_right 3 (by omega)
theorem RowAt.frame {B n : Nat} {w w' : World} {A : Option Addr} (h : RowAt B w A n) (hf : Fr No w w') : RowAt B w' A n :=
  ⟨fun hn => by
    obtain ⟨g, cs, h1, h2, h3, h4⟩ := h.at_ hn
    exact ⟨g, cs, h1, h2.of (hf.block g h2.lt id), h3, h4⟩⟩
end Go.Proofs.YtaaleodffghbdaaDoor
