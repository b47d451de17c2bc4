/- From a walk to a row: opening arguments, and shutting. -/
import Derived.Test.YtlopbhamlhmpbaaC7
import Derived.ProofKit
namespace Go.Proofs.Ytlopbhamlhmpbaa
open Go.RowKit Go.ChangeShapes Go.WideShapes Go.ChangeAt
set_option linter.unusedVariables false

theorem Try.own : ownKnob Try.prog.godebug = none := by kernel_rfl
theorem Try.laidOut : laidOutB Try.prog = true := by kernel_rfl

/-- A list of strings, lying in block g. -/
structure StrsAt (w : World) (g : Nat) (A : Option Addr) (n c : Nat) (ss : List (List UInt8)) : Prop where
  len : n = ss.length
  cap : n ≤ c ∧ c ≤ maxLen
  small : ∀ s ∈ ss, s.length ≤ maxLen
  lt : 0 < n → g < w.heap.size
  at_ : 0 < n → ∃ off, A = some ⟨g, off, none⟩ ∧ ∀ j (hj : j < ss.length), w.cell? ⟨g, off + j, none⟩ = some (.string ⟨ss[j].toArray⟩)
theorem StrsAt.below {w w' : World} {g : Nat} {A : Option Addr} {n c : Nat} {ss : List (List UInt8)} (h : StrsAt w g A n c ss) {B : Nat} (hb : Below B w w') (hB : 0 < n → g < B) (hs : w.heap.size ≤ w'.heap.size) : StrsAt w' g A n c ss :=
  ⟨h.len, h.cap, h.small, fun hn => Nat.lt_of_lt_of_le (h.lt hn) hs, fun hn => by
    obtain ⟨off, e, hc⟩ := h.at_ hn
    exact ⟨off, e, fun j hj => (hb.cell (hB hn)).trans (hc j hj)⟩⟩

theorem getD_of {α : Type} (zs : List α) (d : α) (j : Nat) (h : j < zs.length) : zs.getD j d = zs[j] := by simp [List.getD, List.getElem?_eq_getElem h]
theorem Try.c3 : Try.prog.cellsOf 3 = 1 := by set_option maxRecDepth 100000 in kernel_rfl
theorem Try.c9 : Try.prog.cellsOf 9 = 1 := by set_option maxRecDepth 100000 in kernel_rfl

section
variable {H : Type} {enc : TypeId × Value → H}

theorem wf_i64_bd {n : Int} (h : (Lit.int .i64 n).wf = true) : -9223372036854775808 ≤ n ∧ n ≤ 9223372036854775807 := by
  simp only [Lit.wf, Bool.and_eq_true, decide_eq_true_eq] at h
  simp [IntKind.min, IntKind.max, IntKind.signed, IntKind.bits] at h
  omega

set_option maxRecDepth 100000 in
theorem open_picks {W : World} {v : Value} {d : DataW H} {ps : List MemPlace} (hval : Value.okWide Try.prog W .any 0 28 v) (h : DataW.Trod enc Try.prog W 0 (fun _ => true) true 28 v d ps) :
    ∃ A n c g zs, v = .slice A n c ∧ PicksAt W g A n c zs := by
  obtain ⟨a0, len, cap, rfl⟩ := okWide_slice Try.underlying28 hval
  obtain ⟨fuel, hf⟩ := h
  rcases open_ints Try.underlying28 Try.underlying3 Try.c3 hf with ⟨hcs, hx⟩ | ⟨a, len', cap', zs, hcs, _, hl, hm, hz, hx, hcell, hwz⟩
  · simp [Value.cells] at hcs
    obtain ⟨rfl, rfl, rfl⟩ := hcs
    exact ⟨_, _, _, 0, [], rfl, PicksAt.nil (by omega)⟩
  · simp [Value.cells] at hcs
    obtain ⟨rfl, rfl, rfl⟩ := hcs
    simp only [if_true] at hz
    refine ⟨_, _, _, a.block, zs.take len, rfl, ⟨by rw [List.length_take]; omega, ⟨hl, by unfold maxLen at hm; omega⟩, fun p hp => wf_i64_bd (hwz p (List.mem_of_mem_take hp)), fun hn => ?_⟩⟩
    obtain ⟨b, off, spot⟩ := a
    have hspot : spot = none := by simpa [Addr.add] using World.cell?_spot (hcell 0 (by omega))
    subst hspot
    refine ⟨off, rfl, fun j hj => ?_⟩
    rw [List.length_take] at hj
    have hc := hcell j (by omega)
    have add : ((⟨b, off, none⟩ : Addr).add j) = ⟨b, off + j, none⟩ := by unfold Addr.add; split <;> simp_all
    rw [add] at hc
    rw [hc, List.getElem_take, getD_of zs 0 j (by omega)]

set_option maxRecDepth 100000 in
theorem open_strs {W : World} {v : Value} {d : DataW H} {ps : List MemPlace} (hval : Value.okWide Try.prog W .any 0 38 v) (h : DataW.Trod enc Try.prog W 0 (fun _ => true) true 38 v d ps) :
    ∃ A n c g zs, v = .slice A n c ∧ StrsAt W g A n c zs := by
  obtain ⟨a0, len, cap, rfl⟩ := okWide_slice Try.underlying38 hval
  obtain ⟨fuel, hf⟩ := h
  rcases open_strings Try.underlying38 Try.underlying9 Try.c9 hf with ⟨hcs, hx⟩ | ⟨a, len', cap', zs, hcs, _, hl, hm, hz, hx, hcell, hwz⟩
  · simp [Value.cells] at hcs
    obtain ⟨rfl, rfl, rfl⟩ := hcs
    exact ⟨_, _, _, 0, [], rfl, ⟨rfl, ⟨Nat.le_refl _, Nat.zero_le _⟩, by simp, fun h => absurd h (by omega), fun h => absurd h (by omega)⟩⟩
  · simp [Value.cells] at hcs
    obtain ⟨rfl, rfl, rfl⟩ := hcs
    simp only [if_true] at hz
    refine ⟨_, _, _, a.block, (zs.take len).map (fun s => s.data.toList), rfl, ⟨by rw [List.length_map, List.length_take]; omega, ⟨hl, hm⟩, fun s hs => ?_, fun hn => ?_, fun hn => ?_⟩⟩
    · obtain ⟨b, hb, rfl⟩ := List.mem_map.1 hs
      have := hwz b (List.mem_of_mem_take hb)
      exact (Array.length_toList (xs := b.data)).symm ▸ this
    · have := hcell 0 (by omega)
      simp only [Addr.add, if_true] at this
      exact World.block_lt_of_cell? W _ this
    · obtain ⟨b, off, spot⟩ := a
      have hspot : spot = none := by simpa [Addr.add] using World.cell?_spot (hcell 0 (by omega))
      subst hspot
      refine ⟨off, rfl, fun j hj => ?_⟩
      rw [List.length_map, List.length_take] at hj
      have hc := hcell j (by omega)
      have add : ((⟨b, off, none⟩ : Addr).add j) = ⟨b, off + j, none⟩ := by unfold Addr.add; split <;> simp_all
      rw [add] at hc
      rw [hc, List.getElem_map, List.getElem_take, getD_of zs ByteArray.empty j (by omega)]

set_option maxRecDepth 100000 in
theorem open_text {W : World} {v : Value} {d : DataW H} {ps : List MemPlace} (hval : Value.okWide Try.prog W .any 0 9 v) (h : DataW.Trod enc Try.prog W 0 (fun _ => true) true 9 v d ps) :
    ∃ l : List UInt8, v = .string ⟨l.toArray⟩ ∧ l.length ≤ maxLen := by
  obtain ⟨s, rfl, _, _, hs⟩ := Go.ChangeMaps.open_string Try.underlying9 hval h
  exact ⟨s.data.toList, rfl, (Array.length_toList (xs := s.data)).symm ▸ hs⟩

/-- What a law owes behind its walk. -/
theorem post_true {f : Func} {s : ChangeSpec} {W W' : World} {args : Array Value} {ds : List (DataW H)} {before : List MemPlace} (hsv : s.vars = [])
    (hW : DataW.Whole enc Try.prog f.params.toList s.vars false W args.toList ds [] before) (hb : Below W.heap.size W W') (hr : f.resultTypes = #[4])
    (h1 : (s.fn H (ds ++ [])).results = [.lit (.bool true)]) (h2 : (s.fn H (ds ++ [])).args = ds) (h3 : (s.fn H (ds ++ [])).vars = [])
    (ha : DataW.TrodAll enc Try.prog W' 0 (fun b => decide (b < W.heap.size)) true f.params.toList args.toList ds before) : s.post enc Try.prog f false true false false W args (.bool true) W' := by
  refine ⟨ds, [], before, [], before, [], hW, ?_, ?_, ?_, hb.frame _, fun h => by cases h⟩
  · rw [h1, hr]
    exact trodAll_mk1 (shut_bool Try.underlying4 true)
  · rw [h2]; exact ha
  · rw [hsv, h3]; rfl
end

end Go.Proofs.Ytlopbhamlhmpbaa
