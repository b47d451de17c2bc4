/- sync.Once: the order is made once; Sorted, Rank. -/
import Derived.Test.YtmaeejojmbibnaaDA4
namespace Go.Proofs.Ytmaeejojmbibnaa
open Go.RowKit Go.Maps
set_option linter.unusedVariables false

/-! ### the parts of sync.Once -/
/-! ### the order is made -/
def DS.lock (S : DS) (m : Int) : DS := { S with mu := m }
def DS.did (S : DS) : DS := { S with done := true }
theorem At.lock {w : World} {d : Nat} {R : Rp} {S : DS} (h : At w d R S) (m : Int) : At (w.setCell ⟨d, 3, none⟩ (.int .i32 m)) d R (S.lock m) :=
  h.own (Fr.set0 d w 3 _) (h.blk.set_ 3 _) rfl rfl rfl
theorem At.did {w : World} {d : Nat} {R : Rp} {S : DS} (h : At w d R S) : At (w.drew.setCell ⟨d, 2, none⟩ (.int .u32 1)) d R S.did :=
  h.own ((Fr.refl _ w).drew.set1 2 _) (Blk.set_ (w := w.drew) h.blk 2 _) rfl rfl rfl

def DoQ (d : Nat) (R : Rp) (S : DS) (w : World) (e : Ending) (w' : World) : Prop :=
  e = .returned (.tuple #[]) ∧ ∃ S' : DS, S'.L = S.L ∧ S'.done = true ∧ WF S' ∧ Post d R w S' w'

/-! ### Sorted, Rank -/
theorem enc_one {l : List Nat} : ∀ u ∈ l.map encN, u.oneCell' = true := by
  intro u hu
  obtain ⟨n, _, rfl⟩ := List.mem_map.1 hu
  rfl
/-- What a call that tells a list leaves: a row of one's own, apart from the dictionary. -/
def ListQ (d : Nat) (R : Rp) (S : DS) (l : DS → List Nat) (w : World) (e : Ending) (w' : World) : Prop :=
  ∃ (v : Value) (S' : DS) (R' : Rp), e = .returned v ∧ S'.L = S.L ∧ WF S' ∧ Ord S'.L S'.S ∧ w'.ownsRow w.heap.size 3 1 v (l S').length ((l S').map encN) ∧
    At w' d R' S' ∧ Fr (foot d R) w w' ∧ (∀ k, foot d R' k → foot d R k ∨ w.heap.size ≤ k) ∧ ∀ k, v.ownBlock = some k → ¬ foot d R' k

def RankQ (d : Nat) (R : Rp) (S : DS) (n : Nat) (w : World) (e : Ending) (w' : World) : Prop :=
  ∃ (S' : DS) (k : Nat), e = .returned (.tuple #[.int .i64 k, .bool true]) ∧ S'.L = S.L ∧ WF S' ∧ Ord S'.L S'.S ∧ S'.S[k]? = some n ∧ Post d R w S' w'
/-! ### New, a zero one -/
def NewQ (w : World) (e : Ending) (w' : World) : Prop := ∃ R, e = .returned (.pointer (some ⟨w.heap.size, 0, none⟩)) ∧ At w' w.heap.size R .new ∧ Fr No w w' ∧ ∀ k, foot w.heap.size R k → w.heap.size ≤ k
def Rp.new : Rp := ⟨.slice none 0 0, none, .slice none 0 0, .slice none 0 0, .map []⟩
def zeroD : Array Value := #[.slice none 0 0, .map none, .int .u32 0, .int .i32 0, .int .u32 0, .slice none 0 0, .slice none 0 0]
theorem At.new {w : World} {d : Nat} (h : Blk w d 101 zeroD) : At w d .new .new where
  blk := h
  texts := World.ownsRow_nil _ _ _ _
  names := rfl
  lk t := rfl
  sz := by decide
  sorted := World.ownsRow_nil _ _ _ _
  ranks := World.ownsRow_nil _ _ _ _
  ap k h := by simp [Rp.new, Value.ownBlock] at h
theorem foot_new {d k : Nat} (h : foot d .new k) : k = d := by
  rcases h with h | h | h | h | h
  · exact h
  all_goals simp [Rp.new, Value.ownBlock] at h
theorem new_at (w : World) : NewQ w (.returned (.pointer (some ⟨w.heap.size, 0, none⟩))) (w.alloc (.cells zeroD 101)) :=
  ⟨.new, rfl, At.new (Blk.new w 101 zeroD), (Fr.refl _ w).alloc _, fun k hk => by rw [foot_new hk]; exact Nat.le_refl _⟩
theorem new_any (w : World) : Calls Try.prog 29 #[] w (NewQ w) := by
  have HN := Lib.hid (new_at w)
  unfold zeroD at HN
  go_enter Try.func29, Try.ntmps29
  go_wp2
  go_ret
  exact HN.out
end Go.Proofs.Ytmaeejojmbibnaa
