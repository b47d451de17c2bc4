/- Rows of bytes that begin anywhere in a block of their own: appended to, read, cut. -/
import Derived.Test.YtpeafckomahjgaaGreatDoorDC3
import Derived.WalkKit
import Derived.WalkSpells
import Derived.WalkLawsBesides
import Derived.Deep.QuietTactic
import Derived.BigQuiet
import Derived.Lib.Hide
import Derived.Lib.AppendStr
import Derived.Maps.OwnSet
import Derived.Maps.Ext
import Derived.Maps.RangeWalk
import Derived.Deep.AppendLies
import Derived.Deep.Draws
namespace Go.Proofs.YtpeafckomahjgaaGreatDoor
open Go.RowKit Go.Maps
set_option linter.unusedVariables false

theorem kinfo5 : (Tryz.prog.info? 5).map (fun i => (i.zero, i.size, i.bytes)) = some (some (.int .u8 0), 1, 1) := by kernel_rfl

/-- v is a row of bytes in a block of its own, and reads as l. -/
def RowB (w : World) (v : Value) (l : List UInt8) : Prop :=
  (v = .slice none 0 0 ∧ l = []) ∨
  ∃ g off cap cur, v = .slice (some ⟨g, off, none⟩) l.length cap ∧ w.heap[g]? = some (.cells cur 5 (0, 0)) ∧ l.length ≤ cap ∧ cap ≤ maxLen ∧ cur.size = off + cap ∧ (cur.toList.drop off).take l.length = l.map byteV

theorem RowB.nil (w : World) : RowB w (.slice none 0 0) [] := .inl ⟨rfl, rfl⟩

theorem RowB.of {w w' : World} {v : Value} {l : List UInt8} (h : RowB w v l) (hk : ∀ k, v.ownBlock = some k → w'.heap[k]? = w.heap[k]?) : RowB w' v l := by
  rcases h with h | ⟨g, off, cap, cur, rfl, hg, r⟩
  · exact .inl h
  · exact .inr ⟨g, off, cap, cur, rfl, (hk g rfl).trans hg, r⟩

theorem RowB.block {w : World} {v : Value} {l : List UInt8} (h : RowB w v l) {k : Nat} (hk : v.ownBlock = some k) : ∃ cur, w.heap[k]? = some (.cells cur 5 (0, 0)) := by
  rcases h with ⟨rfl, _⟩ | ⟨g, off, cap, cur, rfl, hg, r⟩
  · simp [Value.ownBlock] at hk
  · simp [Value.ownBlock] at hk; subst hk; exact ⟨cur, hg⟩

theorem RowB.lt {w : World} {v : Value} {l : List UInt8} (h : RowB w v l) {k : Nat} (hk : v.ownBlock = some k) : k < w.heap.size := by
  obtain ⟨cur, hc⟩ := h.block hk
  rcases Nat.lt_or_ge k w.heap.size with hlt | hge
  · exact hlt
  · rw [Array.getElem?_eq_none hge] at hc; cases hc

theorem RowB.len {w : World} {v : Value} {l : List UInt8} (h : RowB w v l) : ∃ A c, v = .slice A l.length c := by
  rcases h with ⟨rfl, rfl⟩ | ⟨g, off, cap, cur, rfl, _⟩
  · exact ⟨_, _, rfl⟩
  · exact ⟨_, _, rfl⟩

/-- len of it. -/
theorem RowB.run_len {w : World} {v : Value} {l : List UInt8} (h : RowB w v l) (ty : TypeId) : (Builtin.len_ #[63] ty #[v]).run Tryz.prog w = .ok (.int .i64 l.length) w := by
  obtain ⟨A, c, rfl⟩ := h.len
  simp [Builtin.len_, run_underlying Tryz.underlying63, goInt]

theorem strCells_eq (S : ByteArray) : Lib.strCells S = S.data.toList.map byteV := rfl

/-- append(v, S...). -/
theorem RowB.run_put' {w : World} {v : Value} {l : List UInt8} (h : RowB w v l) (S : ByteArray) (ty : TypeId) (hlen : l.length + S.size ≤ 140737488355328) :
    ∃ v' w', (Builtin.append_ #[63, 9] ty #[v, .string S]).run Tryz.prog w = .ok v' w' ∧ RowB w' v' (l ++ S.data.toList) ∧ w.grownBy w' v.ownBlock ∧ (∀ k, v'.ownBlock = some k → v.ownBlock = some k ∨ w.heap.size ≤ k) := by
  obtain ⟨i0, hi, hz0, hz1, hz2⟩ := info_parts kinfo5
  have hss : S.data.toList.length = S.size := by simp
  have hscl : (Lib.strCells S).length = S.size := Lib.strCells_length S
  rcases h with ⟨rfl, rfl⟩ | ⟨g, off, cap, cur, rfl, hg, hnc, hcm, hcs, htk⟩
  · obtain ⟨v', w', hr, ho, hgr, hn⟩ := Lib.run_append_own_string (P := Tryz.prog) w w.heap.size 63 9 ty 5 i0 Tryz.underlying63 Tryz.underlying9 hi hz0 hz1 hz2 (.slice none 0 0) 0 [] (World.ownsRow_nil w _ 5 1) S (by unfold maxLen; simp at hlen; omega) (by simp at hlen; omega) (Nat.le_refl _)
    rw [strCells_eq] at ho
    refine ⟨v', w', hr, ?_, hgr, fun k hk => .inr (ho.lt k hk).1⟩
    rcases ho.2 with ⟨rfl, h0⟩ | ⟨g, cap, cur, rfl, hb, hh, hnc, hcm, hs, ht⟩
    · have : S.data.toList = [] := List.eq_nil_of_length_eq_zero (by omega)
      rw [this]
      exact .inl ⟨rfl, rfl⟩
    · refine .inr ⟨g, 0, cap, cur, by simp, hh, by simpa using hnc, hcm, by omega, ?_⟩
      simpa using ht
  · by_cases hroom : l.length + S.size ≤ cap
    · have hf := Lib.run_firstCells_string (P := Tryz.prog) w 1 S
      have hst := run_storeCells_at Tryz.prog g (off + l.length) 5 (Lib.strCells S) 0 cur w hg (by omega) (Lib.strCells_oneCell _)
      simp only [Nat.add_zero, hscl] at hst
      have hr : (Builtin.append_ #[63, 9] ty #[.slice (some ⟨g, off, none⟩) l.length cap, .string S]).run Tryz.prog w = .ok (.slice (some ⟨g, off, none⟩) (l.length + S.size) cap) (w.setRow g (cur.toList.take (off + l.length) ++ Lib.strCells S ++ cur.toList.drop (off + l.length + S.size)).toArray) := by
        simp [Builtin.append_, run_underlying Tryz.underlying63, run_underlying Tryz.underlying9, sizeOf, typeInfo, hi, hz1, Builtin.lenOf, hroom, hf, Addr.add_lit, hst]
      refine ⟨_, _, hr, .inr ⟨g, off, cap, _, by simp, setRow_heap w g cur _ 5 _ hg, by simpa using hroom, hcm, ?_, ?_⟩, ⟨rfl, rfl, rfl, by simp, fun k _ hk => setRow_other w g k _ (fun e => hk (by simp [Value.ownBlock, e]))⟩, fun k hk => .inl hk⟩
      · simp [hscl]; omega
      · have hl1 : (cur.toList.take (off + l.length)).length = off + l.length := by simp; omega
        have hd : (cur.toList.take (off + l.length)).drop off = l.map byteV := by rw [← htk, List.drop_take, Nat.add_sub_cancel_left]
        simp only [List.append_assoc, List.length_append, List.map_append]
        rw [List.drop_append_of_le_length (by omega), hd, strCells_eq, ← List.append_assoc]
        exact List.take_left' (by simp)
    · have holds : ∀ j u, (l.map byteV)[j]? = some u → w.cell? ((⟨g, off, none⟩ : Addr).add j) = some u := by
        intro j u hu
        rw [Addr.add_lit, cell_of_row w g (off + j) cur 5 (0, 0) hg]
        rw [← htk, List.getElem?_take] at hu
        split at hu
        · simpa using hu
        · cases hu
      have hr := Lib.run_append_grow_string (P := Tryz.prog) w 63 9 ty 5 i0 (.int .u8 0) Tryz.underlying63 Tryz.underlying9 hi hz0 ⟨g, off, none⟩ l.length cap (l.map byteV) (by rw [hz1, List.length_map, Nat.mul_one]) holds S (by omega) (by omega) (by rw [hz2]; exact growslice_fits (by omega) (by omega))
      have hge := grownCap_ge w (l.length + S.size) cap 5
      have hcm' : grownCap w (l.length + S.size) cap 5 ≤ maxLen := grownCap_le_maxLen w (l.length + S.size) cap 5 (by unfold maxLen; omega)
      have hz1' : (Value.int IntKind.u8 0).cells.size = 1 := rfl
      refine ⟨_, _, hr, .inr ⟨w.heap.size, 0, _, _, by simp, heap_alloc_new w.drew _, by simpa using hge, hcm', ?_, ?_⟩, ⟨rfl, rfl, rfl, by simp, fun k hk _ => heap_alloc_old w.drew _ hk⟩, fun k hk => .inr ?_⟩
      · simp only [Array.size_append, List.size_toArray, size_zeroCells, hz1', hscl, List.length_map]
        omega
      · simp only [Array.toList_append, List.append_assoc, strCells_eq, List.drop_zero, List.length_append, List.map_append]
        rw [← List.append_assoc]
        exact List.take_left' (by simp)
      · simp [Value.ownBlock] at hk; omega
theorem RowB.run_put {w : World} {v : Value} {l : List UInt8} (h : RowB w v l) (s : List UInt8) (ty : TypeId) (hlen : l.length + s.length ≤ 140737488355328) :
    ∃ v' w', (Builtin.append_ #[63, 9] ty #[v, .string ⟨s.toArray⟩]).run Tryz.prog w = .ok v' w' ∧ RowB w' v' (l ++ s) ∧ w.grownBy w' v.ownBlock ∧ (∀ k, v'.ownBlock = some k → v.ownBlock = some k ∨ w.heap.size ≤ k) :=
  h.run_put' ⟨s.toArray⟩ ty (by simpa [ByteArray.size] using hlen)

/-- The bytes, as a text. -/
theorem RowB.run_text {w : World} {v : Value} {l : List UInt8} (h : RowB w v l) (k : Nat) (hk : k ≤ l.length) :
    ∃ v', (Instr.slice 63 v none (some (.int .i64 k)) none).run Tryz.prog w = .ok v' w ∧ (convert 63 9 v').run Tryz.prog w = .ok (.string ⟨(l.take k).toArray⟩) w := by
  obtain ⟨i0, hi, hz0, hz1, hz2⟩ := info_parts kinfo5
  have hel : Tryz.prog.underlying 63 = some (.slice (Tryz.prog.elem 63)) := by kernel_rfl
  have hsz : (sizeOf (Tryz.prog.elem 63)).run Tryz.prog w = .ok 1 w := by
    have e : Tryz.prog.elem 63 = 5 := by kernel_rfl
    rw [e]
    simp [sizeOf, typeInfo, hi, hz1]
  rcases h with ⟨rfl, rfl⟩ | ⟨g, off, cap, cur, rfl, hg, hnc, hcm, hcs, htk⟩
  · obtain rfl : k = 0 := by simpa using hk
    have hr := run_slice_h (P := Tryz.prog) w 63 none 0 0 hel .i64 (0 : Nat) (by simp) (by simp)
    rw [hsz] at hr
    refine ⟨_, hr, ?_⟩
    exact run_convert_bytes_nil w 63 5 Tryz.underlying63 Tryz.underlying5 0 0 9 Tryz.underlying9
  · have hr := run_slice_h (P := Tryz.prog) w 63 (some ⟨g, off, none⟩) l.length cap hel .i64 (k : Nat) (by simp) (by omega)
    rw [hsz] at hr
    refine ⟨_, hr, ?_⟩
    have ea : (if cap = 0 then (some ⟨g, off, none⟩ : Option Addr) else (some (⟨g, off, none⟩ : Addr)).map (·.add (0 * 1))) = some ⟨g, off, none⟩ := by
      split
      · rfl
      · simp [Addr.add_lit]
    simp only [sliced, ea, Int.toNat_natCast, Nat.sub_zero]
    have hcell : ∀ i, i < k → w.cell? ⟨g, off + i, none⟩ = some (.int .u8 (((l.take k).map fun u => (u.toNat : Int)).getD i 0)) := by
      intro i hi
      rw [cell_of_row w g (off + i) cur 5 (0, 0) hg]
      have h1 : (l.map byteV)[i]? = some (byteV l[i]) := by rw [List.getElem?_map, List.getElem?_eq_getElem (by omega)]; rfl
      rw [← htk, List.getElem?_take] at h1
      rw [if_pos (by omega), List.getElem?_drop] at h1
      rw [← Array.getElem?_toList, h1]
      simp [byteV, List.getD, hi, List.getElem?_eq_getElem (show i < l.length by omega)]
    have h2 := run_convert_bytes_arg w 63 5 Tryz.underlying63 Tryz.underlying5 g off k cap ((l.take k).map fun u => (u.toNat : Int)) (by simp; omega) hcell 9 Tryz.underlying9
    refine h2.trans ?_
    have e2 : strOfNums ((l.take k).map fun u => (u.toNat : Int)) = ⟨(l.take k).toArray⟩ := by
      unfold strOfNums
      rw [List.map_map]
      have : ((fun n : Int => UInt8.ofNat n.toNat) ∘ fun u : UInt8 => (u.toNat : Int)) = id := by
        funext u; simp
      rw [this, List.map_id]
    rw [e2]

/-- What is left behind the first k; where none is left it is of no account. -/
theorem RowB.run_rest {w : World} {v : Value} {l : List UInt8} (h : RowB w v l) (k : Nat) (hk : k ≤ l.length) :
    ∃ A c, (Instr.slice 63 v (some (.int .i64 k)) none none).run Tryz.prog w = .ok (.slice A (l.length - k) c) w ∧ (k < l.length → RowB w (.slice A (l.length - k) c) (l.drop k) ∧ (Value.slice A (l.length - k) c).ownBlock = v.ownBlock) := by
  obtain ⟨i0, hi, hz0, hz1, hz2⟩ := info_parts kinfo5
  have hel : Tryz.prog.underlying 63 = some (.slice (Tryz.prog.elem 63)) := by kernel_rfl
  have hsz : (sizeOf (Tryz.prog.elem 63)).run Tryz.prog w = .ok 1 w := by
    have e : Tryz.prog.elem 63 = 5 := by kernel_rfl
    rw [e]
    simp [sizeOf, typeInfo, hi, hz1]
  rcases h with ⟨rfl, rfl⟩ | ⟨g, off, cap, cur, rfl, hg, hnc, hcm, hcs, htk⟩
  · obtain rfl : k = 0 := by simpa using hk
    have hr := run_slice_l (P := Tryz.prog) w 63 none 0 0 hel .i64 (0 : Nat) (by simp) (by simp)
    rw [hsz] at hr
    exact ⟨_, _, hr, fun hlt => by simp at hlt⟩
  · have hr := run_slice_l (P := Tryz.prog) w 63 (some ⟨g, off, none⟩) l.length cap hel .i64 (k : Nat) (by simp) (by omega)
    rw [hsz] at hr
    refine ⟨_, _, hr, fun hlt => ?_⟩
    have ea : (if cap = (k : Int).toNat then (some ⟨g, off, none⟩ : Option Addr) else (some (⟨g, off, none⟩ : Addr)).map (·.add ((k : Int).toNat * 1))) = some ⟨g, off + k, none⟩ := by
      rw [if_neg (by simp; omega)]
      simp [Addr.add_lit]
    rw [ea]
    refine ⟨.inr ⟨g, off + k, cap - k, cur, by simp, hg, by simp; omega, by omega, by omega, ?_⟩, rfl⟩
    rw [List.length_drop, ← List.drop_drop, List.map_drop, ← htk, List.drop_take]

end Go.Proofs.YtpeafckomahjgaaGreatDoor
