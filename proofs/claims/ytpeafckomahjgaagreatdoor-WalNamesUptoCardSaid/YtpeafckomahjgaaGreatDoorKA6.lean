/- Bytes in memory: one more, one turned, as a text; numbers as bytes and back; the landed Sum. -/
import Derived.Test.YtpeafckomahjgaaGreatDoorKA5
import Derived.Laws.Bits64b
import Derived.Deep.OwnRows
import Derived.Deep.DeepCutAuto
namespace Go.Proofs.YtpeafckomahjgaaGreatDoor
open Go.RowKit Go.Maps
set_option linter.unusedVariables false

theorem RowB.run_add {w : World} {v : Value} {l : List UInt8} (h : RowB w v l) (x : UInt8) (ty : TypeId) (a : Addr) (c : Nat) (hx : w.cell? a = some (byteV x)) (hlen : l.length + 1 ≤ 1000000000000) :
    ∃ v' w', (Builtin.append_ #[63, 63] ty #[v, .slice (some a) 1 c]).run Tryz.prog w = .ok v' w' ∧ RowB w' v' (l ++ [x]) ∧ w.grownBy w' v.ownBlock ∧ (∀ k, v'.ownBlock = some k → v.ownBlock = some k ∨ k = w.heap.size) := by
  obtain ⟨i0, hi, hz0, hz1, hz2⟩ := info_parts kinfo5
  have hnews : ∀ j u, [byteV x][j]? = some u → w.cell? (a.add j) = some u := by
    intro j u hj
    match j, hj with
    | 0, hj =>
      simp at hj; subst hj
      obtain ⟨b, o, m⟩ := a
      cases m with
      | none => simpa [Addr.add] using hx
      | some m => simpa [Addr.add] using hx
  rcases h with ⟨rfl, rfl⟩ | ⟨g, off, cap, cur, rfl, hg, hnc, hcm, hcs, htk⟩
  · obtain ⟨v', w', hr, ho, hgr, hnn, hat⟩ := run_append_own_at (P := Tryz.prog) w w.heap.size 63 ty 5 i0 (.int .u8 0) 1 1 Tryz.underlying63 hi hz0 hz1 hz2 rfl (by omega) (.slice none 0 0) 0 [] (World.ownsRow_nil w _ 5 1) a 1 c [byteV x] rfl hnews (by simp [Value.oneCell', byteV]) (by unfold maxLen; omega) (by omega) (Nat.le_refl _)
    refine ⟨v', w', hr, ?_, hgr, fun k hk => ?_⟩
    · rcases ho.2 with ⟨rfl, h0⟩ | ⟨g, cap, cur, rfl, hb, hh, hnc, hcm, hs, ht⟩
      · omega
      · exact .inr ⟨g, 0, cap, cur, by simp, hh, by simpa using hnc, hcm, by omega, by simpa using ht⟩
    · rcases hat with hat | hat
      · exact .inl (hat ▸ hk)
      · rw [hk] at hat; exact .inr (by simpa using hat)
  · by_cases hroom : l.length + 1 ≤ cap
    · have hf := run_firstCells_some (P := Tryz.prog) w 1 1 a 1 c [byteV x] rfl hnews
      have hst := run_storeCells_at Tryz.prog g (off + l.length) 5 [byteV x] 0 cur w hg (by simp; omega) (by simp [Value.oneCell', byteV])
      simp only [Nat.add_zero, List.length_cons, List.length_nil, Nat.zero_add] at hst
      have hr : (Builtin.append_ #[63, 63] ty #[.slice (some ⟨g, off, none⟩) l.length cap, .slice (some a) 1 c]).run Tryz.prog w = .ok (.slice (some ⟨g, off, none⟩) (l.length + 1) cap) (w.setRow g (cur.toList.take (off + l.length) ++ [byteV x] ++ cur.toList.drop (off + l.length + 1)).toArray) := by
        simp [Builtin.append_, run_underlying Tryz.underlying63, sizeOf, typeInfo, hi, hz1, Builtin.lenOf, hroom, hf, Addr.add_lit, hst]
      refine ⟨_, _, hr, .inr ⟨g, off, cap, _, by simp, setRow_heap w g cur _ 5 _ hg, by simpa using hroom, hcm, ?_, ?_⟩, ⟨rfl, rfl, rfl, by simp, fun k _ hk => setRow_other w g k _ (fun e => hk (by simp [Value.ownBlock, e]))⟩, fun k hk => .inl hk⟩
      · simp; omega
      · have hl1 : (cur.toList.take (off + l.length)).length = off + l.length := by simp; omega
        have hd : (cur.toList.take (off + l.length)).drop off = l.map byteV := by rw [← htk, List.drop_take, Nat.add_sub_cancel_left]
        simp only [List.append_assoc, List.length_append, List.map_append]
        rw [List.drop_append_of_le_length (by omega), hd, ← List.append_assoc]
        exact List.take_left' (by simp)
    · have holds : ∀ j u, (l.map byteV)[j]? = some u → w.cell? ((⟨g, off, none⟩ : Addr).add j) = some u := by
        intro j u hu
        rw [Addr.add_lit, cell_of_row w g (off + j) cur 5 (0, 0) hg]
        rw [← htk, List.getElem?_take] at hu
        split at hu
        · simpa using hu
        · cases hu
      have hr := run_append_grow (P := Tryz.prog) w 63 ty 5 i0 (.int .u8 0) Tryz.underlying63 hi hz0 ⟨g, off, none⟩ l.length cap (l.map byteV) (by rw [hz1, List.length_map, Nat.mul_one]) holds a 1 c [byteV x] (by rw [hz1]; rfl) hnews (by omega) (by omega) (by rw [hz2]; exact growslice_fits (by omega) (by omega))
      have hge := grownCap_ge w (l.length + 1) cap 5
      have hcm' : grownCap w (l.length + 1) cap 5 ≤ maxLen := grownCap_le_maxLen w (l.length + 1) cap 5 (by unfold maxLen; omega)
      have hz1' : (Value.int IntKind.u8 0).cells.size = 1 := rfl
      refine ⟨_, _, hr, .inr ⟨w.heap.size, 0, _, _, by simp, heap_alloc_new w.drew _, by simpa using hge, hcm', ?_, ?_⟩, ⟨rfl, rfl, rfl, by simp, fun k hk _ => heap_alloc_old w.drew _ hk⟩, fun k hk => .inr ?_⟩
      · simp only [Array.size_append, List.size_toArray, size_zeroCells, hz1', List.length_map, List.length_cons, List.length_nil]
        omega
      · simp only [Array.toList_append, List.append_assoc, List.drop_zero, List.length_append, List.map_append]
        rw [← List.append_assoc]
        exact List.take_left' (by simp)
      · simpa [Value.ownBlock, eq_comm] using hk
/-- The row as a text. -/
theorem RowB.run_conv {w : World} {v : Value} {l : List UInt8} (h : RowB w v l) : (convert 63 9 v).run Tryz.prog w = .ok (.string ⟨l.toArray⟩) w := by
  rcases h with ⟨rfl, rfl⟩ | ⟨g, off, cap, cur, rfl, hg, hnc, hcm, hcs, htk⟩
  · exact run_convert_bytes_nil w 63 5 Tryz.underlying63 Tryz.underlying5 0 0 9 Tryz.underlying9
  · have hcell : ∀ i, i < l.length → w.cell? ⟨g, off + i, none⟩ = some (.int .u8 ((l.map fun u => (u.toNat : Int)).getD i 0)) := by
      intro i hi
      rw [cell_of_row w g (off + i) cur 5 (0, 0) hg]
      have h1 : (l.map byteV)[i]? = some (byteV l[i]) := by rw [List.getElem?_map, List.getElem?_eq_getElem (by omega)]; rfl
      rw [← htk, List.getElem?_take] at h1
      rw [if_pos (by omega), List.getElem?_drop] at h1
      rw [← Array.getElem?_toList, h1]
      simp [byteV, List.getD, hi]
    have h2 := run_convert_bytes_arg w 63 5 Tryz.underlying63 Tryz.underlying5 g off l.length cap (l.map fun u => (u.toNat : Int)) (by simp) hcell 9 Tryz.underlying9
    refine h2.trans ?_
    have e2 : strOfNums (l.map fun u => (u.toNat : Int)) = ⟨l.toArray⟩ := by
      unfold strOfNums
      rw [List.map_map]
      have : ((fun n : Int => UInt8.ofNat n.toNat) ∘ fun u : UInt8 => (u.toNat : Int)) = id := by
        funext u; simp
      rw [this, List.map_id]
    rw [e2]

/-! ### numbers as bytes -/
theorem byte_fact (n j : Nat) : byteV (UInt8.ofNat (n / 256 ^ j % 256)) = .int .u8 ((n : Int) / 2 ^ (8 * j) % 256) := by
  unfold byteV
  congr 1
  rw [show (256 : Nat) ^ j = 2 ^ (8 * j) by rw [Nat.pow_mul]]
  simp

theorem low_set (n j k : Nat) (h : j < k) (hk : k ≤ 8) : ((low n j ++ List.replicate (k - j) 0).map byteV).toArray.setIfInBounds j (byteV (UInt8.ofNat (n / 256 ^ j % 256))) = ((low n (j + 1) ++ List.replicate (k - (j + 1)) 0).map byteV).toArray := by
  obtain ⟨r, hr⟩ : ∃ r, k - j = r + 1 := ⟨k - j - 1, by omega⟩
  have hr' : k - (j + 1) = r := by omega
  rw [hr, hr', low_snoc, List.replicate_succ]
  apply Array.ext'
  have hl := low_len j n
  simp [hl]

def Low (n k : Nat) (w : World) (e : Ending) (w' : World) : Prop := e = .returned (.string ⟨(low n k).toArray⟩) ∧ Below w.heap.size w w'

set_option maxRecDepth 100000 in
set_option maxHeartbeats 1000000 in
theorem low_any (n k : Nat) (w : World) (hn : n < 2 ^ 64) (hk : k ≤ 8) :
    Calls Tryz.prog 107 #[.int .u64 (n : Int), .int .i64 (k : Int)] w (Low n k w) := by
  have hmk := run_make_row' (P := Tryz.prog) 63 5 (.int .u8 0) 1 Tryz.underlying63 kinfo5 rfl .i64 .i64 k (by omega) (by omega) w
  obtain ⟨w1, hw1⟩ : ∃ w1, w.alloc (.cells (madeCells #[.int .u8 0] k) 5) = w1 := ⟨_, rfl⟩
  obtain ⟨g, hg⟩ : ∃ g, w.heap.size = g := ⟨_, rfl⟩
  have hb : Blk w1 g 5 ((low n 0 ++ List.replicate (k - 0) 0).map byteV).toArray := by
    rw [← hw1, ← hg]
    have e : ((low n 0 ++ List.replicate (k - 0) 0).map byteV).toArray = madeCells #[.int .u8 0] k := by
      apply Array.ext'
      rw [toList_madeCells_one]
      simp [low, byteV]
    rw [e]; exact Blk.new w 5 _
  have hf : Fr (One g) w w1 := by rw [← hw1]; exact (Fr.refl _ w).alloc _
  have hgs : ∀ j, One g j → w.heap.size ≤ j := by rintro j rfl; omega
  rw [hw1, hg] at hmk
  have HG := Lib.hid hgs
  have HGG := Lib.hid hg
  have HF := Lib.hid hf
  clear hw1 hg hf hgs
  go_enter Tryz.func107, Tryz.ntmps107
  go_wp2
  go_loopw [11] (fun i wr => ∃ j : Nat, j ≤ k ∧ i = .int .i64 j ∧ Blk wr g 5 ((low n j ++ List.replicate (k - j) 0).map byteV).toArray ∧ Fr (One g) w wr) (fun i _ => k - (intOf i).toNat)
  case atStart => exact ⟨0, by omega, rfl, hb, HF.out⟩
  case round =>
    obtain ⟨j, hj, rfl, hbr, hfr⟩ := hrel
    have HFR := Lib.hid hfr
    clear hfr
    by_cases hlt : j < k
    · have h3 := byte_fact n j
      have hcell : ∃ v, wr.cell? ⟨g, j, none⟩ = some v := by
        rw [hbr.cell j]
        exact ⟨_, Array.getElem?_eq_getElem (by simp [low_len]; omega)⟩
      obtain ⟨v, hv⟩ := hcell
      have hfz := hbr.frozen j
      have HB := Lib.hid (hbr.set_ j (.int .u8 ((n : Int) / 2 ^ (8 * j) % 256)))
      have H3 := Lib.hid h3
      clear hbr h3 hb
      go_wp2
      go_roundw
      case rel => exact ⟨j + 1, by omega, by go_num, by have := HB.out; rw [← H3.out, low_set n j k hlt hk, H3.out] at this; exact this, HFR.out.set1 _ _⟩
      case measure => simp [intOf]; omega
    · obtain rfl : j = k := by omega
      have hrow : RowB wr (.slice (some ⟨g, 0, none⟩) j j) (low n j) := by
        refine .inr ⟨g, 0, j, _, by rw [low_len], hbr, by rw [low_len]; omega, by unfold maxLen; omega, by simp [low_len], ?_⟩
        simp only [Nat.sub_self, List.replicate_zero, List.append_nil, List.drop_zero, low_len]
        exact List.take_of_length_le (by simp [low_len])
      have hcv := hrow.run_conv
      have HB := Lib.hid hbr
      clear hbr hrow hb
      go_wp2
      go_ret
      exact ⟨rfl, HFR.out.below_of (Nat.le_refl _) HG.out⟩


theorem ret_u64 {a b : Int} (h : a = b) : Ending.returned (.int .u64 a) = Ending.returned (.int .u64 b) := by rw [h]
/-! ### bytes as numbers -/
theorem get_snoc (s : ByteArray) (k : Nat) (h : k < s.size) : s.data.toList.take (k + 1) = s.data.toList.take k ++ [s[k]] := by
  rw [List.take_succ_eq_append_getElem (by simpa using h)]; rfl
theorem num_snoc (l : List UInt8) (b : UInt8) : num (l ++ [b]) = num l + 256 ^ l.length * b.toNat := by
  rw [num_append]; simp [num]
theorem num_lt64 {l : List UInt8} (h : l.length ≤ 8) : num l < 2 ^ 64 := by
  have h1 := num_lt l
  have h2 : 256 ^ l.length ≤ 256 ^ 8 := Nat.pow_le_pow_right (by decide) h
  omega
theorem or_fact (s : ByteArray) (k : Nat) (hk : k < s.size) (hs : s.size ≤ 8) :
    ∃ m : Nat, IntKind.u64.wrap ((s[k].toNat : Int) * 2 ^ (8 * k)) = (m : Int) ∧ bits .or .u64 (num (s.data.toList.take k) : Nat) (m : Int) = (num (s.data.toList.take (k + 1)) : Nat) := by
  have hb : s[k].toNat < 256 := s[k].toNat_lt
  have hlen : (s.data.toList.take k).length = k := by simp; omega
  have hn := num_lt (s.data.toList.take k)
  rw [hlen, show (256 : Nat) ^ k = 2 ^ (8 * k) by rw [Nat.pow_mul]] at hn
  have hsn : num (s.data.toList.take (k + 1)) = num (s.data.toList.take k) + 2 ^ (8 * k) * s[k].toNat := by
    rw [get_snoc s k hk, num_snoc, hlen, show (256 : Nat) ^ k = 2 ^ (8 * k) by rw [Nat.pow_mul]]
  have hl64 : num (s.data.toList.take (k + 1)) < 2 ^ 64 := num_lt64 (by simp; omega)
  refine ⟨2 ^ (8 * k) * s[k].toNat, ?_, ?_⟩
  · rw [IntKind.wrap_u64]
    have e : ((s[k].toNat : Int) * 2 ^ (8 * k)) = ((2 ^ (8 * k) * s[k].toNat : Nat) : Int) := by simp [Int.mul_comm]
    rw [e]
    omega
  · rw [bits_or_u64_nat _ _ (by omega) (by omega), hsn, Nat.or_comm, ← Nat.two_pow_add_eq_or_of_lt hn, Nat.add_comm]

set_option maxHeartbeats 1000000 in
theorem number_any (s : ByteArray) (w : World) (hs : s.size ≤ 8) :
    Calls Tryz.prog 154 #[.string s] w fun e w' => e = .returned (.int .u64 (num s.data.toList : Nat)) ∧ w = w' := by
  go_enter Tryz.func154, Tryz.ntmps154
  go_wp2
  go_loop [3, 7] (fun n i => ∃ k : Nat, k ≤ s.size ∧ i = .int .i64 k ∧ n = .int .u64 (num (s.data.toList.take k) : Nat)) (fun _ i => s.size - (intOf i).toNat)
  case atStart => exact ⟨0, Nat.zero_le _, rfl, rfl⟩
  case round =>
    obtain ⟨k, hk, rfl, rfl⟩ := hrel
    by_cases hlt : k < s.size
    · have hb : s[k].toNat < 256 := s[k].toNat_lt
      obtain ⟨m, h1, h2⟩ := or_fact s k hlt hs
      have H1 : Hid (bits .or .u64 (num (s.data.toList.take k) : Nat) (IntKind.u64.wrap ((s[k].toNat : Int) * 2 ^ (8 * k))) = (num (s.data.toList.take (k + 1)) : Nat)) := Lib.hid (by rw [h1, h2])
      clear h1 h2
      generalize num (s.data.toList.take k) = c at *
      go_wp2
      go_round
      case rel => exact ⟨k + 1, by omega, by go_num, by rw [H1.out]⟩
      case measure => simp [intOf]; omega
    · have hz : num (s.data.toList.take k) = num s.data.toList := by rw [List.take_of_length_le (by simp; omega)]
      have HZ := Lib.hid hz
      clear hz
      generalize num (s.data.toList.take k) = c at *
      go_wp2
      go_ret
      exact ⟨ret_u64 (by rw [HZ.out]), rfl⟩

theorem num_cons (b : UInt8) (l : List UInt8) : num (b :: l) = b.toNat + 256 * num l := rfl
theorem drop_step (s : ByteArray) (k : Nat) (h : k < s.size) : s.data.toList.drop k = s[k] :: s.data.toList.drop (k + 1) := by
  rw [List.drop_eq_getElem_cons (by simpa using h)]; rfl

set_option maxHeartbeats 1000000 in
theorem of_any (s : ByteArray) (w : World) (hs : s.size ≤ 8) :
    Calls Tryz.prog 150 #[.string s] w fun e w' => e = .returned (.int .u64 (num s.data.toList : Nat)) ∧ w = w' := by
  go_enter Tryz.func150, Tryz.ntmps150
  go_wp2
  go_loop [3, 4] (fun n i => ∃ k : Nat, k ≤ s.size ∧ i = .int .i64 ((k : Int) - 1) ∧ n = .int .u64 (num (s.data.toList.drop k) : Nat)) (fun _ i => (intOf i + 1).toNat)
  case atStart => exact ⟨s.size, Nat.le_refl _, rfl, by rw [List.drop_of_length_le (by simp)]; rfl⟩
  case round =>
    obtain ⟨k, hk, rfl, rfl⟩ := hrel
    by_cases hlt : 0 < k
    · obtain ⟨j, rfl⟩ : ∃ j, k = j + 1 := ⟨k - 1, by omega⟩
      have e1 : (((j + 1 : Nat) : Int) - 1) = (j : Int) := by omega
      have hb : s[j].toNat < 256 := s[j].toNat_lt
      have hn : num (s.data.toList.drop (j + 1)) < 256 ^ 7 := by
        have h1 := num_lt (s.data.toList.drop (j + 1))
        have h2 : 256 ^ (s.data.toList.drop (j + 1)).length ≤ 256 ^ 7 := Nat.pow_le_pow_right (by decide) (by simp; omega)
        omega
      have hj : num (s.data.toList.drop j) = s[j].toNat + 256 * num (s.data.toList.drop (j + 1)) := by rw [drop_step s j (by omega), num_cons]
      obtain ⟨p, hp⟩ : ∃ p : Nat, IntKind.u64.wrap ((num (s.data.toList.drop (j + 1)) : Nat) * 256 : Int) = (p : Int) ∧ p = 256 * num (s.data.toList.drop (j + 1)) := ⟨_, by rw [IntKind.wrap_u64]; omega, rfl⟩
      have hq : IntKind.u64.wrap ((p : Int) + (s[j].toNat : Int)) = ((num (s.data.toList.drop j) : Nat) : Int) := by rw [hj, IntKind.wrap_u64]; omega
      have hp1 := hp.1
      have HQ := Lib.hid hq
      rw [e1]
      clear hp hn e1 hj hq
      generalize num (s.data.toList.drop (j + 1)) = c at *
      go_wp2
      go_round
      case rel => exact ⟨j, by omega, by go_num, by rw [HQ.out]⟩
      case measure => simp [intOf]
    · obtain rfl : k = 0 := by omega
      have HZ : Hid (num (s.data.toList.drop 0) = num s.data.toList) := Lib.hid (by rw [List.drop_zero])
      rw [show (((0 : Nat) : Int) - 1) = -1 from rfl]
      generalize num (s.data.toList.drop 0) = c at *
      go_wp2
      go_ret
      exact ⟨ret_u64 (by rw [HZ.out]), rfl⟩
end Go.Proofs.YtpeafckomahjgaaGreatDoor
