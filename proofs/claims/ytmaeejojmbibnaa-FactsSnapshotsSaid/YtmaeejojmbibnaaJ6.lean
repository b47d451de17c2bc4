/- A fact of those that were told: its cells. -/
import Derived.Test.YtmaeejojmbibnaaH9
namespace Go.Proofs.Ytmaeejojmbibnaa
open Go.RowKit Go.Maps
set_option linter.unusedVariables false
theorem TF.cell {h0 : Nat} {w : World} {v : Value} {K M : Nat} {l : List FactP} (h : TF h0 w v K M l) {i : Nat} (hi : i < l.length) :
    ∃ g c a m, v = .slice (some ⟨g, 0, none⟩) l.length c ∧ w.cell? ⟨g, i * 2, none⟩ = some (.slice (some ⟨a, 0, none⟩) K K) ∧ w.cell? ⟨g, i * 2 + 1, none⟩ = some (.slice (some ⟨m, 0, none⟩) M M) ∧
      (∀ d, d < K → w.cell? ⟨a, d, none⟩ = some (encT ((fat l i).dim d))) ∧ ∀ d, d < M → w.cell? ⟨m, d, none⟩ = some (.int .i64 ((fat l i).mea d)) := by
  obtain ⟨⟨da, ma, o, b⟩, _⟩ := h
  obtain ⟨g, c, h1, _, _⟩ := o.form (by omega)
  rw [h1] at o
  obtain ⟨cs, b1, b2, b3⟩ := b.db i hi
  obtain ⟨ms, m1, m2, m3⟩ := b.mb i hi
  exact ⟨g, c, da i, ma i, h1, (o.cellAt (i * 2) (by omega)).trans (fcells_at K M da ma l.length i hi 0 (by omega)), (o.cellAt (i * 2 + 1) (by omega)).trans (fcells_at K M da ma l.length i hi 1 (by omega)),
    fun d hd => (b1.cell d).trans (b3 d hd), fun d hd => (m1.cell d).trans (m3 d hd)⟩
end Go.Proofs.Ytmaeejojmbibnaa
