/- The chapter's examples. -/
import Derived.Test.YtlpglijikmnopaaGreatDoorUG2
namespace Go.Proofs.YtlpglijikmnopaaGreatDoor
open Go.RowKit Go.Maps Go.Sort Go.Proofs
set_option linter.unusedVariables false

theorem FR.lt_ {K : Nat → Prop} {w : World} {v : Value} {l : List Fc} (h : FR K w v l) : FR (fun k => k < w.heap.size) w v l :=
  RowE.mono h (fun k hk hl => ⟨hl, rfl⟩) fun x cs hx => fcG_elem.mono _ _ _ _ _ _ hx fun k hk hl => ⟨hl, rfl⟩
theorem RR.lt_ {K : Nat → Prop} {w : World} {v : Value} {l : List Rw} (h : RR K w v l) : RR (fun k => k < w.heap.size) w v l :=
  RowE.mono h (fun k hk hl => ⟨hl, rfl⟩) fun x cs hx => rwG_elem.mono _ _ _ _ _ _ hx fun k hk hl => ⟨hl, rfl⟩
theorem KR.blk1 {w : World} {g : Nat} {t : TypeId} {a : Tx} (h : Blk w g t #[sv a]) (ha : a.length ≤ maxLen) : KR (fun k => k = g) w (.slice (some ⟨g, 0, none⟩) 1 1) [a] :=
  ⟨_, _, rfl, Nat.le_refl _, by decide, fun _ => ⟨g, 0, rfl, rfl, h.lt, fun j hj => by
    obtain rfl : j = 0 := by simpa using hj
    exact ⟨[sv a], rfl, fun i hi => by obtain rfl : i = 0 := by omega
                                       exact h.cell 0, rfl, ha⟩⟩⟩
theorem KR.blk2 {w : World} {g : Nat} {t : TypeId} {a b : Tx} (h : Blk w g t #[sv a, sv b]) (ha : a.length ≤ maxLen) (hb : b.length ≤ maxLen) : KR (fun k => k = g) w (.slice (some ⟨g, 0, none⟩) 2 2) [a, b] :=
  ⟨_, _, rfl, Nat.le_refl _, by decide, fun _ => ⟨g, 0, rfl, rfl, h.lt, fun j hj => by
    have hj' : j = 0 ∨ j = 1 := by simp at hj; omega
    rcases hj' with rfl | rfl
    · exact ⟨[sv a], rfl, fun i hi => by obtain rfl : i = 0 := by omega
                                         exact h.cell 0, rfl, ha⟩
    · exact ⟨[sv b], rfl, fun i hi => by obtain rfl : i = 0 := by omega
                                         exact h.cell 1, rfl, hb⟩⟩⟩
theorem IR.blk1 {w : World} {g : Nat} {t : TypeId} {a : Int} (h : Blk w g t #[.int .i64 a]) (ha : i64 a) : IR (fun k => k = g) w (.slice (some ⟨g, 0, none⟩) 1 1) [a] :=
  ⟨_, _, rfl, Nat.le_refl _, by decide, fun _ => ⟨g, 0, rfl, rfl, h.lt, fun j hj => by
    obtain rfl : j = 0 := by simpa using hj
    exact ⟨[.int .i64 a], rfl, fun i hi => by obtain rfl : i = 0 := by omega
                                              exact h.cell 0, rfl, ha⟩⟩⟩
def smallF : List Fc := [⟨[[120], [112]], [1]⟩, ⟨[[121], [112]], [2]⟩, ⟨[[120], [113]], [3]⟩]
def TellsF (l : List Fc) (w : World) (e : Ending) (w' : World) : Prop := ∃ A n c, e = .returned (.slice A n c) ∧ n = l.length ∧ FR (fun k => k < w'.heap.size) w' (.slice A n c) l ∧ Fr No w w'
theorem FR.blk3 {w : World} {g : Nat} {a b c : Fc} {av am bv bm cv cm : Value} (h : Blk w g 63 #[av, am, bv, bm, cv, cm]) {K : Nat → Prop} (ha : KR K w av a.dims) (ha2 : IR K w am a.meas) (hb : KR K w bv b.dims) (hb2 : IR K w bm b.meas) (hc : KR K w cv c.dims) (hc2 : IR K w cm c.meas) (hg : K g) :
    FR K w (.slice (some ⟨g, 0, none⟩) 3 3) [a, b, c] :=
  ⟨_, _, rfl, Nat.le_refl _, by decide, fun _ => ⟨g, 0, rfl, hg, h.lt, fun j hj => by
    have hj' : j = 0 ∨ j = 1 ∨ j = 2 := by simp at hj; omega
    rcases hj' with rfl | rfl | rfl
    · exact ⟨[av, am], rfl, fun i hi => by
        have hi' : i = 0 ∨ i = 1 := by omega
        rcases hi' with rfl | rfl
        · exact h.cell 0
        · exact h.cell 1, av, am, rfl, ha, ha2⟩
    · exact ⟨[bv, bm], rfl, fun i hi => by
        have hi' : i = 0 ∨ i = 1 := by omega
        rcases hi' with rfl | rfl
        · exact h.cell 2
        · exact h.cell 3, bv, bm, rfl, hb, hb2⟩
    · exact ⟨[cv, cm], rfl, fun i hi => by
        have hi' : i = 0 ∨ i = 1 := by omega
        rcases hi' with rfl | rfl
        · exact h.cell 4
        · exact h.cell 5, cv, cm, rfl, hc, hc2⟩⟩⟩
theorem KR.lt_ {K : Nat → Prop} {w : World} {v : Value} {l : List Tx} (h : KR K w v l) : KR (fun k => k < w.heap.size) w v l := RowE.mono h (fun k hk hl => ⟨hl, rfl⟩) fun _ _ h => h
theorem IR.lt_ {K : Nat → Prop} {w : World} {v : Value} {l : List Int} (h : IR K w v l) : IR (fun k => k < w.heap.size) w v l := RowE.mono h (fun k hk hl => ⟨hl, rfl⟩) fun _ _ h => h
theorem small_end {w w1 w2 w3 w4 w5 w6 w7 : World} {b0 b1 b2 b3 b4 b5 b6 : Nat} (h1 : w.alloc (.cells #[sv [120], sv [112]] 9) = w1) (h2 : w1.alloc (.cells #[.int .i64 1] 2) = w2) (h3 : w2.alloc (.cells #[sv [121], sv [112]] 9) = w3) (h4 : w3.alloc (.cells #[.int .i64 2] 2) = w4) (h5 : w4.alloc (.cells #[sv [120], sv [113]] 9) = w5) (h6 : w5.alloc (.cells #[.int .i64 3] 2) = w6)
    (h7 : w6.alloc (.cells #[.slice (some ⟨b0, 0, none⟩) 2 2, .slice (some ⟨b1, 0, none⟩) 1 1, .slice (some ⟨b2, 0, none⟩) 2 2, .slice (some ⟨b3, 0, none⟩) 1 1, .slice (some ⟨b4, 0, none⟩) 2 2, .slice (some ⟨b5, 0, none⟩) 1 1] 63) = w7)
    (e0 : w.heap.size = b0) (e1 : w1.heap.size = b1) (e2 : w2.heap.size = b2) (e3 : w3.heap.size = b3) (e4 : w4.heap.size = b4) (e5 : w5.heap.size = b5) (e6 : w6.heap.size = b6) :
    TellsF smallF w (.returned (.slice (some ⟨b6, 0, none⟩) 3 3)) w7 := by
  have f7 : Fr No w6 w7 := by rw [← h7]; exact (Fr.refl _ _).alloc _
  have f6 : Fr No w5 w6 := by rw [← h6]; exact (Fr.refl _ _).alloc _
  have f5 : Fr No w4 w5 := by rw [← h5]; exact (Fr.refl _ _).alloc _
  have f4 : Fr No w3 w4 := by rw [← h4]; exact (Fr.refl _ _).alloc _
  have f3 : Fr No w2 w3 := by rw [← h3]; exact (Fr.refl _ _).alloc _
  have f2 : Fr No w1 w2 := by rw [← h2]; exact (Fr.refl _ _).alloc _
  have f1 : Fr No w w1 := by rw [← h1]; exact (Fr.refl _ _).alloc _
  have t : ∀ {a b c : World}, Fr No a b → Fr No b c → Fr No a c := fun h k => h.trans k fun _ _ h => h
  have g6 := t f6 f7
  have g5 := t f5 g6
  have g4 := t f4 g5
  have g3 := t f3 g4
  have g2 := t f2 g3
  have B0 : Blk w7 b0 9 #[sv [120], sv [112]] := by rw [← e0]; refine Blk.no ?_ g2; rw [← h1]; exact Blk.new _ _ _
  have B1 : Blk w7 b1 2 #[.int .i64 1] := by rw [← e1]; refine Blk.no ?_ g3; rw [← h2]; exact Blk.new _ _ _
  have B2 : Blk w7 b2 9 #[sv [121], sv [112]] := by rw [← e2]; refine Blk.no ?_ g4; rw [← h3]; exact Blk.new _ _ _
  have B3 : Blk w7 b3 2 #[.int .i64 2] := by rw [← e3]; refine Blk.no ?_ g5; rw [← h4]; exact Blk.new _ _ _
  have B4 : Blk w7 b4 9 #[sv [120], sv [113]] := by rw [← e4]; refine Blk.no ?_ g6; rw [← h5]; exact Blk.new _ _ _
  have B5 : Blk w7 b5 2 #[.int .i64 3] := by rw [← e5]; refine Blk.no ?_ f7; rw [← h6]; exact Blk.new _ _ _
  have B6 : Blk w7 b6 63 #[.slice (some ⟨b0, 0, none⟩) 2 2, .slice (some ⟨b1, 0, none⟩) 1 1, .slice (some ⟨b2, 0, none⟩) 2 2, .slice (some ⟨b3, 0, none⟩) 1 1, .slice (some ⟨b4, 0, none⟩) 2 2, .slice (some ⟨b5, 0, none⟩) 1 1] := by rw [← e6, ← h7]; exact Blk.new _ _ _
  refine ⟨_, 3, 3, rfl, rfl, ?_, t f1 g2⟩
  exact FR.blk3 B6 (KR.blk2 B0 (by decide) (by decide)).lt_ (IR.blk1 B1 (by unfold i64 i64'; decide)).lt_ (KR.blk2 B2 (by decide) (by decide)).lt_ (IR.blk1 B3 (by unfold i64 i64'; decide)).lt_ (KR.blk2 B4 (by decide) (by decide)).lt_ (IR.blk1 B5 (by unfold i64 i64'; decide)).lt_ B6.lt
theorem small_any (w : World) : Calls Tryz.prog 30 #[] w (TellsF smallF w) := by
  go_enter Tryz.func30, Tryz.ntmps30
  go_wp2_with fail
  go_ret
  exact small_end rfl rfl rfl rfl rfl rfl rfl rfl (by simp) (by simp) (by simp) (by simp) (by simp) (by simp)
end Go.Proofs.YtlpglijikmnopaaGreatDoor
