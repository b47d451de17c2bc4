/- Copy beside a law's blocks; WalTurned: what its loops keep. -/
import Derived.Test.YtccjkolcmdhliaaGreatDoorY3
import Derived.Test.YtccjkolcmdhliaaGreatDoorY0
import Derived.Deep.CutBlock
import Derived.Deep.RegionWith
namespace Go.Proofs.YtccjkolcmdhliaaGreatDoor
open Go.RowKit Go.Maps Go.Sort
set_option linter.unusedVariables false

theorem x_copy {w : World} {X : Nat → Prop} {d N : Nat} {S : AS} (h : Dk w X d N S) (hon : S.on = true) :
    Calls Tryz.prog 31 #[.pointer (some ⟨d, 0, none⟩)] w fun e w' => ∃ c, e = .returned (.pointer (some ⟨c, 0, none⟩)) ∧ Dk w' X c N S ∧ Fr No w w' := by
  obtain ⟨R, hA, hf⟩ := h.mem
  obtain ⟨nb, fb, e1, e2⟩ := hA.onn hon
  have hlo := h.inv.loose
  have hbig := h.big
  have hW := h.wf
  have hsz := fd_size hA hW
  have hla := hW.last
  refine (copy_any d nb fb R S w hA hW (by omega) (by unfold maxLen; omega) e1 e2).mono ?_
  rintro e w' ⟨c, R', he, h1, h2, h3⟩
  exact ⟨c, he, ⟨h.inv, ⟨R', h1, fun k hk hx => by have := h3 k hk; have := h.base k hx; omega⟩, h.big, fun k hk => Nat.lt_of_lt_of_le (h.base k hk) h2.size⟩, h2⟩

/-! ### the records -/
theorem frames_snoc (ds : List (List UInt8)) (i : Nat) (h : i < ds.length) : frames (ds.take (i + 1)) 0 = frames (ds.take i) 0 ++ frameR (body ((i + 1 : Nat) : Int) ds[i]) := by
  have hl : (ds.take i).length = i := by rw [List.length_take]; omega
  rw [List.take_succ_eq_append_getElem h, frames_append, hl, Nat.zero_add, frames, frames, List.append_nil]
def begV (ds : List (List UInt8)) (m : Nat) : List Value := (List.range m).map fun j => .int .i64 ((beg ds j : Nat) : Int)
theorem begV_snoc (ds : List (List UInt8)) (m : Nat) : begV ds (m + 1) = begV ds m ++ [.int .i64 ((beg ds m : Nat) : Int)] := by unfold begV; rw [List.range_succ, List.map_append]; rfl
theorem begV_len (ds : List (List UInt8)) (m : Nat) : (begV ds m).length = m := by unfold begV; simp
theorem begV_at (ds : List (List UInt8)) (m j : Nat) (h : j < m) : (begV ds m)[j]? = some (.int .i64 ((beg ds j : Nat) : Int)) := by unfold begV; simp [List.getElem?_map, List.getElem?_range h]
theorem beg_take (ds : List (List UInt8)) (m j : Nat) (h : j ≤ m) : beg (ds.take m) j = beg ds j := by unfold beg; rw [List.take_take, Nat.min_eq_left h]
/-- What the first loop keeps. -/
structure Tst (w wx : World) (ds : List (List UInt8)) (m : Nat) (stv : Value) : Prop where
  row : wx.ownsRow w.heap.size 3 1 stv m (begV ds m)
  small : Small (ds.take m)
  len : (frames (ds.take m) 0).length ≤ 3000
  vr : Vr wx
  fr : Fr No w wx
  le : m ≤ ds.length
  lo : 4 ≤ w.heap.size
theorem Tst.start {w wx : World} {ds : List (List UInt8)} (hv : Vr wx) (hf : Fr No w wx) (h4 : 4 ≤ w.heap.size) : Tst w wx ds 0 (.slice none 0 0) :=
  ⟨World.ownsRow_nil _ _ _ _, fun d h => by simp at h, by simp [frames], hv, hf, Nat.zero_le _, h4⟩
theorem Tst.many {w wx : World} {ds : List (List UInt8)} {m : Nat} {stv : Value} (h : Tst w wx ds m stv) : m ≤ 250 := by
  have h1 := frames_many (ds.take m) 0
  have h2 := h.len
  have h3 := h.le
  rw [List.length_take] at h1
  omega
theorem Tst.step {w wx w1 : World} {ds : List (List UInt8)} {m : Nat} {stv : Value} (h : Tst w wx ds m stv) (hf : Fr No wx w1) : Tst w w1 ds m stv :=
  ⟨own_of h.row fun k hk => hf.block k (h.row.lt k hk).2 id, h.small, h.len, h.vr.keep hf, h.fr.no hf, h.le, h.lo⟩
theorem Tst.more {w wx w1 : World} {ds : List (List UInt8)} {m : Nat} {stv stv' : Value} (h : Tst w wx ds m stv) (hm : m < ds.length) (hd : ds[m].length ≤ 65524) (hl : (frames (ds.take (m + 1)) 0).length ≤ 3000) (hg : wx.grownBy w1 stv.ownBlock)
    (hr : w1.ownsRow w.heap.size 3 1 stv' (m + 1) (begV ds m ++ [.int .i64 ((beg ds m : Nat) : Int)])) : Tst w w1 ds (m + 1) stv' := by
  have hf : Fr No w w1 := h.fr.grown hg fun k hk hlt => by have := (h.row.lt k hk).1; omega
  have hl4 := h.vr.lt
  refine ⟨by rw [begV_snoc]; exact hr, fun d hd' => ?_, hl, h.vr.of fun k hk => ?_, hf, hm, h.lo⟩
  · rw [List.take_succ_eq_append_getElem hm] at hd'
    rcases List.mem_append.1 hd' with hd' | hd'
    · exact h.small d hd'
    · rw [List.mem_singleton.1 hd']; exact hd
  · exact hg.block k (by omega) fun e => by have := (h.row.lt k e.symm).1; have := h.lo; omega
end Go.Proofs.YtccjkolcmdhliaaGreatDoor
