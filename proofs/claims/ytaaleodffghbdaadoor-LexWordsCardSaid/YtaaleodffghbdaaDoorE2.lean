/- LexSpread: what its walk needs. -/
import Derived.Test.YtaaleodffghbdaaDoorE1
namespace Go.Proofs.YtaaleodffghbdaaDoor
open Go.RowKit Go.Maps
set_option linter.unusedVariables false

/-- A list of numbers, as it is read. -/
structure IntsAt (w : World) (A : Option Addr) (n c : Nat) (zs : List Int) : Prop where
  len : n = zs.length
  cap : n ≤ c ∧ c ≤ 9223372036854775807
  rng : ∀ p ∈ zs, -9223372036854775808 ≤ p ∧ p ≤ 9223372036854775807
  at_ : 0 < n → ∃ g off, A = some ⟨g, off, none⟩ ∧ g < w.heap.size ∧ ∀ j (hj : j < zs.length), w.cell? ⟨g, off + j, none⟩ = some (.int .i64 zs[j])
theorem IntsAt.keep {w w' : World} {A : Option Addr} {n c : Nat} {zs : List Int} (h : IntsAt w A n c zs) (hf : Fr No w w') : IntsAt w' A n c zs :=
  ⟨h.len, h.cap, h.rng, fun hn => by
    obtain ⟨g, off, e, hg, hc⟩ := h.at_ hn
    exact ⟨g, off, e, Nat.lt_of_lt_of_le hg hf.size, fun j hj => (World.cell?_of_block (w := w) (hf.block g hg id)).trans (hc j hj)⟩⟩
theorem tmod4_bd (b : Int) : -4 < b.tmod 4 ∧ b.tmod 4 < 4 := by
  have h1 := Int.tmod_lt_of_pos b (show (0 : Int) < 4 by omega)
  have h2 := Int.lt_tmod_of_pos b (show (0 : Int) < 4 by omega)
  omega
def posV (x : Wd) : Value := .int .i64 (x.pos : Nat)
theorem info3 : (Tryd.prog.info? 3).map (fun i => (i.zero, i.size, i.bytes)) = some (some (.int .i64 0), 1, 8) := by kernel_rfl
theorem own_form {w : World} {base n : Nat} {e : TypeId} {size : Nat} {v : Value} {xs : List Value} (h : w.ownsRow base e size v n xs) : ∃ A c, v = .slice A n c := by
  rcases h.2 with ⟨rfl, h0⟩ | ⟨g, cap, cur, rfl, _⟩
  · exact ⟨none, 0, by rw [h0]⟩
  · exact ⟨_, _, rfl⟩
end Go.Proofs.YtaaleodffghbdaaDoor
