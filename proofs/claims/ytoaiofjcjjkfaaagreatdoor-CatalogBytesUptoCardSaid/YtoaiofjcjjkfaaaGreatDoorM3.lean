/- Rows of bytes that begin anywhere in a block of their own: appended to, read, cut. -/
import Derived.Test.YtoaiofjcjjkfaaaGreatDoorM1
import Derived.WalkKit
import Derived.WalkSpells
import Derived.WalkLawsBesides
import Derived.Deep.QuietTactic
import Derived.BigQuiet
import Derived.Lib.Hide
import Derived.Lib.AppendStr
import Derived.Maps.OwnSet
import Derived.Maps.Ext
import Derived.Maps.RangeWalk
import Derived.Deep.AppendLies
import Derived.Deep.Draws
import Derived.Laws.BitsAllLaws
import Derived.IntWalk
import Derived.Deep.LoopGhost
import Derived.Laws.LoneSync
import Derived.Laws.Pointers
import Derived.Defers
import Derived.RegionTactic
import Derived.RegionCalls
import Derived.ChangeAlike
import Derived.Outline
import Derived.Laws.Bits64b
import Derived.Deep.OwnRows
import Derived.Deep.DeepCutAuto
namespace Go.Proofs.YtoaiofjcjjkfaaaGreatDoor
open Go.RowKit Go.Maps
set_option linter.unusedVariables false

theorem kinfo5 : (Tryz.prog.info? 5).map (fun i => (i.zero, i.size, i.bytes)) = some (some (.int .u8 0), 1, 1) := by kernel_rfl

/-- v is a row of bytes in a block of its own, and reads as l. -/
def RowB (w : World) (v : Value) (l : List UInt8) : Prop :=
  (v = .slice none 0 0 ∧ l = []) ∨
  ∃ g off cap cur, v = .slice (some ⟨g, off, none⟩) l.length cap ∧ w.heap[g]? = some (.cells cur 5 (0, 0)) ∧ l.length ≤ cap ∧ cap ≤ maxLen ∧ cur.size = off + cap ∧ (cur.toList.drop off).take l.length = l.map byteV

theorem RowB.nil (w : World) : RowB w (.slice none 0 0) [] := .inl ⟨rfl, rfl⟩

theorem RowB.of {w w' : World} {v : Value} {l : List UInt8} (h : RowB w v l) (hk : ∀ k, v.ownBlock = some k → w'.heap[k]? = w.heap[k]?) : RowB w' v l := by
  rcases h with h | ⟨g, off, cap, cur, rfl, hg, r⟩
  · exact .inl h
  · exact .inr ⟨g, off, cap, cur, rfl, (hk g rfl).trans hg, r⟩

theorem RowB.block {w : World} {v : Value} {l : List UInt8} (h : RowB w v l) {k : Nat} (hk : v.ownBlock = some k) : ∃ cur, w.heap[k]? = some (.cells cur 5 (0, 0)) := by
  rcases h with ⟨rfl, _⟩ | ⟨g, off, cap, cur, rfl, hg, r⟩
  · simp [Value.ownBlock] at hk
  · simp [Value.ownBlock] at hk; subst hk; exact ⟨cur, hg⟩

theorem RowB.lt {w : World} {v : Value} {l : List UInt8} (h : RowB w v l) {k : Nat} (hk : v.ownBlock = some k) : k < w.heap.size := by
  obtain ⟨cur, hc⟩ := h.block hk
  rcases Nat.lt_or_ge k w.heap.size with hlt | hge
  · exact hlt
  · rw [Array.getElem?_eq_none hge] at hc; cases hc

theorem RowB.len {w : World} {v : Value} {l : List UInt8} (h : RowB w v l) : ∃ A c, v = .slice A l.length c := by
  rcases h with ⟨rfl, rfl⟩ | ⟨g, off, cap, cur, rfl, _⟩
  · exact ⟨_, _, rfl⟩
  · exact ⟨_, _, rfl⟩

/-- len of it. -/
theorem RowB.run_len {w : World} {v : Value} {l : List UInt8} (h : RowB w v l) (ty : TypeId) : (Builtin.len_ #[65] ty #[v]).run Tryz.prog w = .ok (.int .i64 l.length) w := by
  obtain ⟨A, c, rfl⟩ := h.len
  simp [Builtin.len_, run_underlying Tryz.underlying65, goInt]

theorem strCells_eq (S : ByteArray) : Lib.strCells S = S.data.toList.map byteV := rfl

/-- append(v, S...). -/
theorem RowB.run_put' {w : World} {v : Value} {l : List UInt8} (h : RowB w v l) (S : ByteArray) (ty : TypeId) (hlen : l.length + S.size ≤ 140737488355328) :
    ∃ v' w', (Builtin.append_ #[65, 9] ty #[v, .string S]).run Tryz.prog w = .ok v' w' ∧ RowB w' v' (l ++ S.data.toList) ∧ w.grownBy w' v.ownBlock ∧ (∀ k, v'.ownBlock = some k → v.ownBlock = some k ∨ w.heap.size ≤ k) := by
  obtain ⟨i0, hi, hz0, hz1, hz2⟩ := info_parts kinfo5
  have hss : S.data.toList.length = S.size := by simp
  have hscl : (Lib.strCells S).length = S.size := Lib.strCells_length S
  rcases h with ⟨rfl, rfl⟩ | ⟨g, off, cap, cur, rfl, hg, hnc, hcm, hcs, htk⟩
  · obtain ⟨v', w', hr, ho, hgr, hn⟩ := Lib.run_append_own_string (P := Tryz.prog) w w.heap.size 65 9 ty 5 i0 Tryz.underlying65 Tryz.underlying9 hi hz0 hz1 hz2 (.slice none 0 0) 0 [] (World.ownsRow_nil w _ 5 1) S (by unfold maxLen; simp at hlen; omega) (by simp at hlen; omega) (Nat.le_refl _)
    rw [strCells_eq] at ho
    refine ⟨v', w', hr, ?_, hgr, fun k hk => .inr (ho.lt k hk).1⟩
    rcases ho.2 with ⟨rfl, h0⟩ | ⟨g, cap, cur, rfl, hb, hh, hnc, hcm, hs, ht⟩
    · have : S.data.toList = [] := List.eq_nil_of_length_eq_zero (by omega)
      rw [this]
      exact .inl ⟨rfl, rfl⟩
    · refine .inr ⟨g, 0, cap, cur, by simp, hh, by simpa using hnc, hcm, by omega, ?_⟩
      simpa using ht
  · by_cases hroom : l.length + S.size ≤ cap
    · have hf := Lib.run_firstCells_string (P := Tryz.prog) w 1 S
      have hst := run_storeCells_at Tryz.prog g (off + l.length) 5 (Lib.strCells S) 0 cur w hg (by omega) (Lib.strCells_oneCell _)
      simp only [Nat.add_zero, hscl] at hst
      have hr : (Builtin.append_ #[65, 9] ty #[.slice (some ⟨g, off, none⟩) l.length cap, .string S]).run Tryz.prog w = .ok (.slice (some ⟨g, off, none⟩) (l.length + S.size) cap) (w.setRow g (cur.toList.take (off + l.length) ++ Lib.strCells S ++ cur.toList.drop (off + l.length + S.size)).toArray) := by
        simp [Builtin.append_, run_underlying Tryz.underlying65, run_underlying Tryz.underlying9, sizeOf, typeInfo, hi, hz1, Builtin.lenOf, hroom, hf, Addr.add_lit, hst]
      refine ⟨_, _, hr, .inr ⟨g, off, cap, _, by simp, setRow_heap w g cur _ 5 _ hg, by simpa using hroom, hcm, ?_, ?_⟩, ⟨rfl, rfl, rfl, by simp, fun k _ hk => setRow_other w g k _ (fun e => hk (by simp [Value.ownBlock, e]))⟩, fun k hk => .inl hk⟩
      · simp [hscl]; omega
      · have hl1 : (cur.toList.take (off + l.length)).length = off + l.length := by simp; omega
        have hd : (cur.toList.take (off + l.length)).drop off = l.map byteV := by rw [← htk, List.drop_take, Nat.add_sub_cancel_left]
        simp only [List.append_assoc, List.length_append, List.map_append]
        rw [List.drop_append_of_le_length (by omega), hd, strCells_eq, ← List.append_assoc]
        exact List.take_left' (by simp)
    · have holds : ∀ j u, (l.map byteV)[j]? = some u → w.cell? ((⟨g, off, none⟩ : Addr).add j) = some u := by
        intro j u hu
        rw [Addr.add_lit, cell_of_row w g (off + j) cur 5 (0, 0) hg]
        rw [← htk, List.getElem?_take] at hu
        split at hu
        · simpa using hu
        · cases hu
      have hr := Lib.run_append_grow_string (P := Tryz.prog) w 65 9 ty 5 i0 (.int .u8 0) Tryz.underlying65 Tryz.underlying9 hi hz0 ⟨g, off, none⟩ l.length cap (l.map byteV) (by rw [hz1, List.length_map, Nat.mul_one]) holds S (by omega) (by omega) (by rw [hz2]; exact growslice_fits (by omega) (by omega))
      have hge := grownCap_ge w (l.length + S.size) cap 5
      have hcm' : grownCap w (l.length + S.size) cap 5 ≤ maxLen := grownCap_le_maxLen w (l.length + S.size) cap 5 (by unfold maxLen; omega)
      have hz1' : (Value.int IntKind.u8 0).cells.size = 1 := rfl
      refine ⟨_, _, hr, .inr ⟨w.heap.size, 0, _, _, by simp, heap_alloc_new w.drew _, by simpa using hge, hcm', ?_, ?_⟩, ⟨rfl, rfl, rfl, by simp, fun k hk _ => heap_alloc_old w.drew _ hk⟩, fun k hk => .inr ?_⟩
      · simp only [Array.size_append, List.size_toArray, size_zeroCells, hz1', hscl, List.length_map]
        omega
      · simp only [Array.toList_append, List.append_assoc, strCells_eq, List.drop_zero, List.length_append, List.map_append]
        rw [← List.append_assoc]
        exact List.take_left' (by simp)
      · simp [Value.ownBlock] at hk; omega
theorem RowB.run_put {w : World} {v : Value} {l : List UInt8} (h : RowB w v l) (s : List UInt8) (ty : TypeId) (hlen : l.length + s.length ≤ 140737488355328) :
    ∃ v' w', (Builtin.append_ #[65, 9] ty #[v, .string ⟨s.toArray⟩]).run Tryz.prog w = .ok v' w' ∧ RowB w' v' (l ++ s) ∧ w.grownBy w' v.ownBlock ∧ (∀ k, v'.ownBlock = some k → v.ownBlock = some k ∨ w.heap.size ≤ k) :=
  h.run_put' ⟨s.toArray⟩ ty (by simpa [ByteArray.size] using hlen)

/-- The bytes, as a text. -/
theorem RowB.run_text {w : World} {v : Value} {l : List UInt8} (h : RowB w v l) (k : Nat) (hk : k ≤ l.length) :
    ∃ v', (Instr.slice 65 v none (some (.int .i64 k)) none).run Tryz.prog w = .ok v' w ∧ (convert 65 9 v').run Tryz.prog w = .ok (.string ⟨(l.take k).toArray⟩) w := by
  obtain ⟨i0, hi, hz0, hz1, hz2⟩ := info_parts kinfo5
  have hel : Tryz.prog.underlying 65 = some (.slice (Tryz.prog.elem 65)) := by kernel_rfl
  have hsz : (sizeOf (Tryz.prog.elem 65)).run Tryz.prog w = .ok 1 w := by
    have e : Tryz.prog.elem 65 = 5 := by kernel_rfl
    rw [e]
    simp [sizeOf, typeInfo, hi, hz1]
  rcases h with ⟨rfl, rfl⟩ | ⟨g, off, cap, cur, rfl, hg, hnc, hcm, hcs, htk⟩
  · obtain rfl : k = 0 := by simpa using hk
    have hr := run_slice_h (P := Tryz.prog) w 65 none 0 0 hel .i64 (0 : Nat) (by simp) (by simp)
    rw [hsz] at hr
    refine ⟨_, hr, ?_⟩
    exact run_convert_bytes_nil w 65 5 Tryz.underlying65 Tryz.underlying5 0 0 9 Tryz.underlying9
  · have hr := run_slice_h (P := Tryz.prog) w 65 (some ⟨g, off, none⟩) l.length cap hel .i64 (k : Nat) (by simp) (by omega)
    rw [hsz] at hr
    refine ⟨_, hr, ?_⟩
    have ea : (if cap = 0 then (some ⟨g, off, none⟩ : Option Addr) else (some (⟨g, off, none⟩ : Addr)).map (·.add (0 * 1))) = some ⟨g, off, none⟩ := by
      split
      · rfl
      · simp [Addr.add_lit]
    simp only [sliced, ea, Int.toNat_natCast, Nat.sub_zero]
    have hcell : ∀ i, i < k → w.cell? ⟨g, off + i, none⟩ = some (.int .u8 (((l.take k).map fun u => (u.toNat : Int)).getD i 0)) := by
      intro i hi
      rw [cell_of_row w g (off + i) cur 5 (0, 0) hg]
      have h1 : (l.map byteV)[i]? = some (byteV l[i]) := by rw [List.getElem?_map, List.getElem?_eq_getElem (by omega)]; rfl
      rw [← htk, List.getElem?_take] at h1
      rw [if_pos (by omega), List.getElem?_drop] at h1
      rw [← Array.getElem?_toList, h1]
      simp [byteV, List.getD, hi, List.getElem?_eq_getElem (show i < l.length by omega)]
    have h2 := run_convert_bytes_arg w 65 5 Tryz.underlying65 Tryz.underlying5 g off k cap ((l.take k).map fun u => (u.toNat : Int)) (by simp; omega) hcell 9 Tryz.underlying9
    refine h2.trans ?_
    have e2 : strOfNums ((l.take k).map fun u => (u.toNat : Int)) = ⟨(l.take k).toArray⟩ := by
      unfold strOfNums
      rw [List.map_map]
      have : ((fun n : Int => UInt8.ofNat n.toNat) ∘ fun u : UInt8 => (u.toNat : Int)) = id := by
        funext u; simp
      rw [this, List.map_id]
    rw [e2]

/-- What is left behind the first k; where none is left it is of no account. -/
theorem RowB.run_rest {w : World} {v : Value} {l : List UInt8} (h : RowB w v l) (k : Nat) (hk : k ≤ l.length) :
    ∃ A c, (Instr.slice 65 v (some (.int .i64 k)) none none).run Tryz.prog w = .ok (.slice A (l.length - k) c) w ∧ (k < l.length → RowB w (.slice A (l.length - k) c) (l.drop k) ∧ (Value.slice A (l.length - k) c).ownBlock = v.ownBlock) := by
  obtain ⟨i0, hi, hz0, hz1, hz2⟩ := info_parts kinfo5
  have hel : Tryz.prog.underlying 65 = some (.slice (Tryz.prog.elem 65)) := by kernel_rfl
  have hsz : (sizeOf (Tryz.prog.elem 65)).run Tryz.prog w = .ok 1 w := by
    have e : Tryz.prog.elem 65 = 5 := by kernel_rfl
    rw [e]
    simp [sizeOf, typeInfo, hi, hz1]
  rcases h with ⟨rfl, rfl⟩ | ⟨g, off, cap, cur, rfl, hg, hnc, hcm, hcs, htk⟩
  · obtain rfl : k = 0 := by simpa using hk
    have hr := run_slice_l (P := Tryz.prog) w 65 none 0 0 hel .i64 (0 : Nat) (by simp) (by simp)
    rw [hsz] at hr
    exact ⟨_, _, hr, fun hlt => by simp at hlt⟩
  · have hr := run_slice_l (P := Tryz.prog) w 65 (some ⟨g, off, none⟩) l.length cap hel .i64 (k : Nat) (by simp) (by omega)
    rw [hsz] at hr
    refine ⟨_, _, hr, fun hlt => ?_⟩
    have ea : (if cap = (k : Int).toNat then (some ⟨g, off, none⟩ : Option Addr) else (some (⟨g, off, none⟩ : Addr)).map (·.add ((k : Int).toNat * 1))) = some ⟨g, off + k, none⟩ := by
      rw [if_neg (by simp; omega)]
      simp [Addr.add_lit]
    rw [ea]
    refine ⟨.inr ⟨g, off + k, cap - k, cur, by simp, hg, by simp; omega, by omega, by omega, ?_⟩, rfl⟩
    rw [List.length_drop, ← List.drop_drop, List.map_drop, ← htk, List.drop_take]

end Go.Proofs.YtoaiofjcjjkfaaaGreatDoor
/- The check of a text, plain: step by step, half a byte at once, and that one turned byte turns it. Numbers as bytes. -/
namespace Go.Proofs.YtoaiofjcjjkfaaaGreatDoor

/-! ### the check -/
theorem xor_lcomm (a b c : Nat) : a ^^^ (b ^^^ c) = b ^^^ (a ^^^ c) := by rw [← Nat.xor_assoc, Nat.xor_comm a b, Nat.xor_assoc]
theorem xor_eq_zero {a b : Nat} (h : a ^^^ b = 0) : a = b := by
  have e : a = a ^^^ b ^^^ b := by rw [Nat.xor_assoc, Nat.xor_self, Nat.xor_zero]
  rw [e, h, Nat.zero_xor]
def poly : Nat := 3988292384
def stp (c : Nat) : Nat := c / 2 ^^^ (c % 2) * poly
def stn : Nat → Nat → Nat
  | 0, c => c
  | n + 1, c => stn n (stp c)
def feed (c b : Nat) : Nat := stn 8 (c ^^^ b)
def runc (c : Nat) (l : List UInt8) : Nat := l.foldl (fun c b => feed c b.toNat) c
def crc (l : List UInt8) : Nat := runc 4294967295 l ^^^ 4294967295

theorem stp_lt {c : Nat} (h : c < 2 ^ 32) : stp c < 2 ^ 32 := by
  unfold stp poly
  exact Nat.xor_lt_two_pow (by omega) (by have : c % 2 < 2 := Nat.mod_lt _ (by decide); omega)
theorem stn_lt {n : Nat} : ∀ {c : Nat}, c < 2 ^ 32 → stn n c < 2 ^ 32 := by
  induction n with
  | zero => intro c h; exact h
  | succ n ih => intro c h; exact ih (stp_lt h)
theorem stp_xor (a b : Nat) : stp (a ^^^ b) = stp a ^^^ stp b := by
  have hd : (a ^^^ b) / 2 = a / 2 ^^^ b / 2 := Nat.xor_div_two
  have hm : (a ^^^ b) % 2 = a % 2 ^^^ b % 2 := by simpa using @Nat.xor_mod_two_pow a b 1
  unfold stp
  rw [hd, hm]
  have ha : a % 2 = 0 ∨ a % 2 = 1 := by omega
  have hb : b % 2 = 0 ∨ b % 2 = 1 := by omega
  rcases ha with ha | ha <;> rcases hb with hb | hb <;> rw [ha, hb]
  · simp
  · simp [Nat.xor_assoc]
  · simp
    rw [Nat.xor_assoc, Nat.xor_comm (b / 2) poly, ← Nat.xor_assoc]
  · simp
    rw [Nat.xor_assoc, xor_lcomm poly, Nat.xor_self, Nat.xor_zero]
theorem stn_xor (n : Nat) : ∀ a b : Nat, stn n (a ^^^ b) = stn n a ^^^ stn n b := by
  induction n with
  | zero => intro a b; rfl
  | succ n ih => intro a b; show stn n (stp (a ^^^ b)) = _; rw [stp_xor, ih]; rfl
theorem stp_even (h : Nat) : stp (2 * h) = h := by
  unfold stp
  rw [show 2 * h / 2 = h by omega, show 2 * h % 2 = 0 by omega]; simp
theorem stn4_hi (h : Nat) : stn 4 (16 * h) = h := by
  show stp (stp (stp (stp (16 * h)))) = h
  rw [show 16 * h = 2 * (8 * h) by omega, stp_even, show 8 * h = 2 * (4 * h) by omega, stp_even, show 4 * h = 2 * (2 * h) by omega, stp_even, stp_even]
theorem split16 (c : Nat) : c = 16 * (c / 16) ^^^ c % 16 := by
  have hd := @Nat.xor_div_two_pow (16 * (c / 16)) (c % 16) 4
  have hm := @Nat.xor_mod_two_pow (16 * (c / 16)) (c % 16) 4
  rw [show (16 * (c / 16)) / 2 ^ 4 = c / 16 by omega, show (c % 16) / 2 ^ 4 = 0 by omega, Nat.xor_zero] at hd
  rw [show (16 * (c / 16)) % 2 ^ 4 = 0 by omega, show (c % 16) % 2 ^ 4 = c % 16 by omega, Nat.zero_xor] at hm
  omega
theorem stn4 (c : Nat) : stn 4 c = c / 16 ^^^ stn 4 (c % 16) := by
  conv => lhs; rw [split16 c]
  rw [stn_xor, stn4_hi]
theorem stn8 (c : Nat) : stn 8 c = stn 4 (stn 4 c) := rfl
theorem stn_succ (n c : Nat) : stn (n + 1) c = stn n (stp c) := rfl
theorem stn_last (n : Nat) : ∀ c : Nat, stn (n + 1) c = stp (stn n c) := by
  induction n with
  | zero => intro c; rfl
  | succ n ih => intro c; rw [stn_succ, ih]; rfl
theorem feed_lt {c b : Nat} (hc : c < 2 ^ 32) (hb : b < 256) : feed c b < 2 ^ 32 := stn_lt (Nat.xor_lt_two_pow hc (by omega))
theorem runc_lt : ∀ (l : List UInt8) {c : Nat}, c < 2 ^ 32 → runc c l < 2 ^ 32 := by
  intro l
  induction l with
  | nil => intro c h; exact h
  | cons b l ih => intro c h; exact ih (feed_lt h b.toNat_lt)
theorem crc_lt (l : List UInt8) : crc l < 2 ^ 32 := Nat.xor_lt_two_pow (runc_lt l (by decide)) (by decide)
theorem runc_snoc (c : Nat) (l : List UInt8) (b : UInt8) : runc c (l ++ [b]) = feed (runc c l) b.toNat := by simp [runc]
theorem runc_append (c : Nat) (l m : List UInt8) : runc c (l ++ m) = runc (runc c l) m := by simp [runc]

/-! a step is one to one -/
theorem stp_zero {c : Nat} (h : c < 2 ^ 32) (h0 : stp c = 0) : c = 0 := by
  unfold stp at h0
  have hm : c % 2 = 0 ∨ c % 2 = 1 := by omega
  rcases hm with hm | hm
  · rw [hm, Nat.zero_mul, Nat.xor_zero] at h0; omega
  · rw [hm, Nat.one_mul] at h0
    exfalso
    have e : c / 2 = poly := xor_eq_zero h0
    unfold poly at e; omega
theorem stn_zero {n : Nat} : ∀ {c : Nat}, c < 2 ^ 32 → stn n c = 0 → c = 0 := by
  induction n with
  | zero => intro c _ h; exact h
  | succ n ih => intro c h h0; exact stp_zero h (ih (stp_lt h) h0)
theorem stn_inj {n a b : Nat} (ha : a < 2 ^ 32) (hb : b < 2 ^ 32) (h : stn n a = stn n b) : a = b := by
  have : stn n (a ^^^ b) = 0 := by rw [stn_xor, h, Nat.xor_self]
  exact xor_eq_zero (stn_zero (Nat.xor_lt_two_pow ha hb) this)
theorem xor_right_inj {a b c : Nat} (h : a ^^^ c = b ^^^ c) : a = b := by
  have := congrArg (· ^^^ c) h
  simpa [Nat.xor_assoc] using this
theorem xor_left_inj {a b c : Nat} (h : c ^^^ a = c ^^^ b) : a = b := by
  rw [Nat.xor_comm c a, Nat.xor_comm c b] at h; exact xor_right_inj h
theorem feed_inj {a b : Nat} (c : UInt8) (ha : a < 2 ^ 32) (hb : b < 2 ^ 32) (h : feed a c.toNat = feed b c.toNat) : a = b :=
  xor_right_inj (stn_inj (Nat.xor_lt_two_pow ha (Nat.lt_trans c.toNat_lt (by decide))) (Nat.xor_lt_two_pow hb (Nat.lt_trans c.toNat_lt (by decide))) h)
theorem feed_byte {a : Nat} (c d : UInt8) (ha : a < 2 ^ 32) (h : feed a c.toNat = feed a d.toNat) : c = d :=
  UInt8.toNat_inj.1 (xor_left_inj (stn_inj (Nat.xor_lt_two_pow ha (Nat.lt_trans c.toNat_lt (by decide))) (Nat.xor_lt_two_pow ha (Nat.lt_trans d.toNat_lt (by decide))) h))
theorem runc_inj : ∀ (l : List UInt8) {a b : Nat}, a < 2 ^ 32 → b < 2 ^ 32 → runc a l = runc b l → a = b := by
  intro l
  induction l with
  | nil => intro a b _ _ h; exact h
  | cons c l ih => intro a b ha hb h; exact feed_inj c ha hb (ih (feed_lt ha c.toNat_lt) (feed_lt hb c.toNat_lt) h)
/-- A text of which one byte was turned has another check. -/
theorem crc_turned (l m : List UInt8) (c d : UInt8) (hne : c ≠ d) : crc (l ++ c :: m) ≠ crc (l ++ d :: m) := by
  intro h
  have h1 := xor_right_inj h
  rw [runc_append, runc_append] at h1
  have hl := runc_lt l (c := 4294967295) (by decide)
  exact hne (feed_byte c d hl (runc_inj m (feed_lt hl c.toNat_lt) (feed_lt hl d.toNat_lt) h1))

/-! ### numbers as bytes, the lowest first -/
/-- k bytes of n. -/
def low (n : Nat) : Nat → List UInt8
  | 0 => []
  | k + 1 => UInt8.ofNat (n % 256) :: low (n / 256) k
/-- the number whose bytes these are -/
def num : List UInt8 → Nat
  | [] => 0
  | b :: l => b.toNat + 256 * num l
theorem low_len (k : Nat) : ∀ n, (low n k).length = k := by
  induction k with
  | zero => intro n; rfl
  | succ k ih => intro n; simp [low, ih]
theorem num_low (k : Nat) : ∀ n, num (low n k) = n % 256 ^ k := by
  induction k with
  | zero => intro n; simp [low, num, Nat.mod_one]
  | succ k ih =>
    intro n
    have e : (UInt8.ofNat (n % 256)).toNat = n % 256 := by simp
    rw [low, num, ih, e, Nat.pow_succ, Nat.mul_comm (256 ^ k) 256, Nat.mod_mul]
theorem num_low_of {k n : Nat} (h : n < 256 ^ k) : num (low n k) = n := by rw [num_low, Nat.mod_eq_of_lt h]
theorem num_lt : ∀ l : List UInt8, num l < 256 ^ l.length := by
  intro l
  induction l with
  | nil => simp [num]
  | cons b l ih =>
    have := b.toNat_lt
    simp only [num, List.length_cons, Nat.pow_succ]
    omega
theorem low_num : ∀ l : List UInt8, low (num l) l.length = l := by
  intro l
  induction l with
  | nil => rfl
  | cons b l ih =>
    have hb := b.toNat_lt
    simp only [num, List.length_cons, low]
    rw [show (b.toNat + 256 * num l) % 256 = b.toNat by omega, show (b.toNat + 256 * num l) / 256 = num l by omega, ih]
    simp
theorem num_append (l m : List UInt8) : num (l ++ m) = num l + 256 ^ l.length * num m := by
  induction l with
  | nil => simp [num]
  | cons b l ih =>
    simp only [List.cons_append, num, ih, List.length_cons, Nat.pow_succ]
    rw [Nat.mul_add, ← Nat.mul_assoc, Nat.mul_comm 256 (256 ^ l.length)]
    omega
theorem low_snoc (k : Nat) : ∀ n, low n (k + 1) = low n k ++ [UInt8.ofNat (n / 256 ^ k % 256)] := by
  induction k with
  | zero => intro n; simp [low]
  | succ k ih =>
    intro n
    rw [low, ih, low]
    simp [Nat.pow_succ, Nat.div_div_eq_div_mul, Nat.mul_comm]
theorem low_get (k : Nat) : ∀ (n i : Nat), i < k → (low n k)[i]? = some (UInt8.ofNat (n / 256 ^ i % 256)) := by
  induction k with
  | zero => intro n i h; omega
  | succ k ih =>
    intro n i h
    cases i with
    | zero => simp [low]
    | succ i =>
      rw [low, List.getElem?_cons_succ, ih _ _ (by omega)]
      simp [Nat.pow_succ, Nat.div_div_eq_div_mul, Nat.mul_comm]
end Go.Proofs.YtoaiofjcjjkfaaaGreatDoor
/- The document's own check, walked. -/
namespace Go.Proofs.YtoaiofjcjjkfaaaGreatDoor
open Go.RowKit Go.Maps
set_option linter.unusedVariables false

def u32V (n : Nat) : Value := .int .u32 (n : Int)
theorem ret_u32 {a b : Int} (h : a = b) : Ending.returned (.int .u32 a) = Ending.returned (.int .u32 b) := by rw [h]

/-- What a walk needs of one step: its own spellings, all numbers opaque. -/
theorem step_facts (x : Nat) (hx : x < 2 ^ 32) : ∃ y z : Nat, ((x : Int) / 2 = (y : Int)) ∧ bits .xor .u32 (y : Int) 3988292384 = (z : Int) ∧ ((bits .and .u32 (x : Int) 1 = 0 ∧ stp x = y) ∨ (bits .and .u32 (x : Int) 1 = 1 ∧ stp x = z)) := by
  refine ⟨x / 2, (x / 2) ^^^ 3988292384, by omega, u32_xor_nat (x / 2) 3988292384 (by omega) (by decide), ?_⟩
  have ha : bits .and .u32 (x : Int) 1 = ((x &&& 1 : Nat) : Int) := u32_and_nat x 1 (by omega) (by omega)
  rw [Nat.and_one_is_mod] at ha
  have hm : x % 2 = 0 ∨ x % 2 = 1 := by omega
  rcases hm with hm | hm
  · exact .inl ⟨by rw [ha, hm]; rfl, by unfold stp; rw [hm]; simp⟩
  · exact .inr ⟨by rw [ha, hm]; rfl, by unfold stp; rw [hm, Nat.one_mul]; rfl⟩
theorem xor_fact (a b : Nat) (ha : a < 2 ^ 32) (hb : b < 2 ^ 32) : ∃ z : Nat, z = a ^^^ b ∧ bits .xor .u32 (a : Int) (b : Int) = (z : Int) := ⟨_, rfl, u32_xor_nat _ _ (by omega) (by omega)⟩

theorem xor_ones (a : Nat) (ha : a < 2 ^ 32) : ∃ z : Nat, z = a ^^^ 4294967295 ∧ bits .xor .u32 (a : Int) 4294967295 = (z : Int) := ⟨_, rfl, u32_xor_nat a 4294967295 (by omega) (by decide)⟩

set_option maxHeartbeats 1000000 in
/-- The document's Sum. -/
theorem rsum_any (s : ByteArray) (w : World) (hs : s.size ≤ maxLen) :
    Calls Tryz.prog 76 #[.string s] w fun e w' => e = .returned (.int .u32 (crc s.data.toList : Nat)) ∧ w = w' := by
  unfold maxLen at hs
  go_enter Tryz.func76, Tryz.ntmps76
  go_wp2
  go_loop [3, 4] (fun c i => ∃ k : Nat, k ≤ s.size ∧ i = .int .i64 k ∧ c = .int .u32 (runc 4294967295 (s.data.toList.take k) : Nat)) (fun _ i => s.size - (intOf i).toNat)
  case atStart => exact ⟨0, Nat.zero_le _, rfl, rfl⟩
  case round =>
    obtain ⟨k, hk, rfl, rfl⟩ := hrel
    have hc := runc_lt (s.data.toList.take k) (c := 4294967295) (by decide)
    by_cases hlt : k < s.size
    · have hts : s.data.toList.take (k + 1) = s.data.toList.take k ++ [s[k]] := by rw [List.take_succ_eq_append_getElem (by simpa using hlt)]; rfl
      have hb : s[k].toNat < 256 := s[k].toNat_lt
      have hv : runc 4294967295 (s.data.toList.take (k + 1)) = stn 8 (runc 4294967295 (s.data.toList.take k) ^^^ s[k].toNat) := by rw [hts, runc_snoc]; rfl
      have HV := Lib.hid hv
      clear hv hts
      generalize runc 4294967295 (s.data.toList.take k) = c at *
      obtain ⟨x, hx, hxx⟩ := xor_fact c s[k].toNat hc (by omega)
      have hxl : x < 2 ^ 32 := by rw [hx]; exact Nat.xor_lt_two_pow hc (by omega)
      have HX := Lib.hid hx
      clear hx
      go_wp2
      go_loop [3, 5] (fun c i => ∃ j : Nat, j ≤ 8 ∧ i = .int .i64 j ∧ c = .int .u32 (stn j x : Nat)) (fun _ i => 8 - (intOf i).toNat)
      case atStart => exact ⟨0, Nat.zero_le _, rfl, rfl⟩
      case round =>
        obtain ⟨j, hj, rfl, rfl⟩ := hrel
        by_cases hl : j < 8
        · have hst := stn_last j x
          have HS := Lib.hid hst
          have hcl : stn j x < 2 ^ 32 := stn_lt hxl
          clear hst
          generalize stn j x = q at *
          obtain ⟨y, z, h1, h2, h3⟩ := step_facts q hcl
          rcases h3 with ⟨h3, h4⟩ | ⟨h3, h4⟩
          · have H4 := Lib.hid h4
            clear h4
            go_wp2
            go_round
            case rel => exact ⟨j + 1, by omega, by go_num, by rw [HS.out, H4.out]⟩
            case measure => simp [intOf]; omega
          · have H4 := Lib.hid h4
            clear h4
            go_wp2
            go_round
            case rel => exact ⟨j + 1, by omega, by go_num, by rw [HS.out, H4.out]⟩
            case measure => simp [intOf]; omega
        · obtain rfl : j = 8 := by omega
          go_wp2
          go_round
          case rel => exact ⟨k + 1, by omega, by go_num, by rw [HV.out, HX.out]⟩
          case measure => simp [intOf]; omega
    · obtain ⟨z, hz, hzz⟩ := xor_ones _ hc
      have hz' : z = crc s.data.toList := by rw [hz]; unfold crc; rw [List.take_of_length_le (by simp; omega)]
      have HZ := Lib.hid hz'
      clear hz' hz
      generalize runc 4294967295 (s.data.toList.take k) = c at *
      go_wp2
      go_ret
      exact ⟨ret_u32 (by rw [HZ.out]), rfl⟩
end Go.Proofs.YtoaiofjcjjkfaaaGreatDoor
/- A table's rows are made, once. -/
namespace Go.Proofs.YtoaiofjcjjkfaaaGreatDoor
open Go.RowKit Go.Maps
set_option linter.unusedVariables false

/-! ### the rows -/
/-- the rows of which k were made -/
def rowsTo (k : Nat) : List Value := (List.range 16).map fun j => u32V (if j < k then stn 4 j else 0)
def tabC (a b c : Value) (k : Nat) : Array Value := (a :: b :: c :: rowsTo k).toArray
theorem tabC_zero (a b c : Value) : tabC a b c 0 = (a :: b :: c :: List.replicate 16 (u32V 0)).toArray := rfl
theorem tabC_set (a b c : Value) (k : Nat) (hk : k < 16) : (tabC a b c k).setIfInBounds (3 + k) (u32V (stn 4 k)) = tabC a b c (k + 1) := by
  have : k = 0 ∨ k = 1 ∨ k = 2 ∨ k = 3 ∨ k = 4 ∨ k = 5 ∨ k = 6 ∨ k = 7 ∨ k = 8 ∨ k = 9 ∨ k = 10 ∨ k = 11 ∨ k = 12 ∨ k = 13 ∨ k = 14 ∨ k = 15 := by omega
  rcases this with rfl | rfl | rfl | rfl | rfl | rfl | rfl | rfl | rfl | rfl | rfl | rfl | rfl | rfl | rfl | rfl <;> rfl
theorem tabC_get (a b c : Value) (i : Nat) (hi : i < 16) : (tabC a b c 16)[3 + i]? = some (u32V (stn 4 i)) := by
  have : i = 0 ∨ i = 1 ∨ i = 2 ∨ i = 3 ∨ i = 4 ∨ i = 5 ∨ i = 6 ∨ i = 7 ∨ i = 8 ∨ i = 9 ∨ i = 10 ∨ i = 11 ∨ i = 12 ∨ i = 13 ∨ i = 14 ∨ i = 15 := by omega
  rcases this with rfl | rfl | rfl | rfl | rfl | rfl | rfl | rfl | rfl | rfl | rfl | rfl | rfl | rfl | rfl | rfl <;> rfl
theorem tabC_some (a b c : Value) (k i : Nat) (hi : i < 16) : ∃ v, (tabC a b c k)[3 + i]? = some v := by
  refine ⟨(tabC a b c k)[3 + i]'?_, Array.getElem?_eq_getElem _⟩
  simp [tabC, rowsTo]; omega
theorem Blk.frozen' {w : World} {g : Nat} {t : TypeId} {cs : Array Value} (h : Blk w g t cs) : ∀ i, w.frozen? ⟨g, i, none⟩ = false := h.frozen

theorem idx36 (k : IntKind) (w : World) (g off i : Nat) (hi : i < 16) : (Instr.indexAt 220 (.pointer (some ⟨g, off, none⟩)) (.int k (i : Int))).run Tryz.prog w = .ok (.pointer (some ⟨g, off + i, none⟩)) w := by
  have hs : (sizeOf (Tryz.prog.elem 220)).run Tryz.prog w = .ok 1 w := by simp [go_sem]
  have hp : Tryz.prog.underlying 220 = some (.array (Tryz.prog.arrayLen 220) (Tryz.prog.elem 220)) := by kernel_rfl
  have hl : Tryz.prog.arrayLen 220 = 16 := by kernel_rfl
  rw [run_indexAt_array w 220 _ _ _ hp, hl, if_pos (by omega), hs]
  simp [Result.andThen, Addr.add_lit]

/-- A walk's fill: what becomes of the table. -/
def Filled (g : Nat) (a b c : Value) (w : World) (e : Ending) (w' : World) : Prop := e = .returned (.tuple #[]) ∧ Blk w' g 222 (tabC a b c 16) ∧ Fr (One g) w w'

set_option maxRecDepth 100000 in
set_option maxHeartbeats 1000000 in
theorem fill_any (g : Nat) (a b c : Value) (w : World) (h : Blk w g 222 (tabC a b c 0)) :
    Calls Tryz.prog 199 #[.pointer (some ⟨g, 0, none⟩)] w (Filled g a b c w) := by
  go_enter Tryz.func199, Tryz.ntmps199
  go_wp2
  go_loopw [5] (fun i wr => ∃ k : Nat, k ≤ 16 ∧ i = .int .i64 k ∧ Blk wr g 222 (tabC a b c k) ∧ Fr (One g) w wr) (fun i _ => 16 - (intOf i).toNat)
  case atStart => exact ⟨0, by omega, rfl, h, Fr.refl _ _⟩
  case round =>
    obtain ⟨k, hk, rfl, hb, hf⟩ := hrel
    have HF := Lib.hid hf
    clear hf
    by_cases hlt : k < 16
    · have wr : IntKind.u32.wrap (k : Int) = (k : Int) := by rw [IntKind.wrap_u32']; omega
      go_wp2
      go_loop [3, 10] (fun c i => ∃ j : Nat, j ≤ 4 ∧ i = .int .i64 j ∧ c = .int .u32 (stn j k : Nat)) (fun _ i => 4 - (intOf i).toNat)
      case atStart => exact ⟨0, Nat.zero_le _, rfl, rfl⟩
      case round =>
        obtain ⟨j, hj, rfl, rfl⟩ := hrel
        by_cases hl : j < 4
        · have hst := stn_last j k
          have HS := Lib.hid hst
          have hcl : stn j k < 2 ^ 32 := stn_lt (by omega)
          clear hst
          generalize stn j k = q at *
          obtain ⟨y, z, h1, h2, h3⟩ := step_facts q hcl
          rcases h3 with ⟨h3, h4⟩ | ⟨h3, h4⟩
          · have H4 := Lib.hid h4
            clear h4
            go_wp2
            go_round
            case rel => exact ⟨j + 1, by omega, by go_num, by rw [HS.out, H4.out]⟩
            case measure => simp [intOf]; omega
          · have H4 := Lib.hid h4
            clear h4
            go_wp2
            go_round
            case rel => exact ⟨j + 1, by omega, by go_num, by rw [HS.out, H4.out]⟩
            case measure => simp [intOf]; omega
        · obtain rfl : j = 4 := by omega
          have hidx := fun w' => idx36 .i64 w' g 3 k hlt
          obtain ⟨v, hv⟩ := tabC_some a b c k k hlt
          have hcell : _ = some v := (hb.cell (3 + k)).trans hv
          have hfz := hb.frozen (3 + k)
          have HB := Lib.hid (hb.set_ (3 + k) (u32V (stn 4 k)))
          clear hb hv
          go_wp2
          go_roundw
          case rel => exact ⟨k + 1, by omega, by go_num, by have := HB.out; rw [tabC_set a b c k hlt] at this; exact this, HF.out.set1 _ _⟩
          case measure => simp [intOf]; omega
    · obtain rfl : k = 16 := by omega
      go_wp2
      refine bodyPost_ret (results_none rfl _ _ _) rfl ?_
      exact ⟨rfl, hb, HF.out⟩
end Go.Proofs.YtoaiofjcjjkfaaaGreatDoor
/- sync.Once, and the landed check. -/
namespace Go.Proofs.YtoaiofjcjjkfaaaGreatDoor
open Go.RowKit Go.Maps
set_option linter.unusedVariables false

/-! ### the parts of sync.Once -/
theorem disable (w : World) : (callFunc 238 #[]).run Tryz.prog w = .ok (.value (.tuple #[])) w := run_call_mark0 Tryz.func238 (by kernel_rfl) (by kernel_rfl) (by kernel_rfl) .disable (by kernel_rfl) w
theorem enable (w : World) : (callFunc 240 #[]).run Tryz.prog w = .ok (.value (.tuple #[])) w := run_call_mark0 Tryz.func240 (by kernel_rfl) (by kernel_rfl) (by kernel_rfl) .enable (by kernel_rfl) w
theorem acquire (a : Addr) (w : World) : (callFunc 241 #[.pointer (some a)]).run Tryz.prog w = .ok (.value (.tuple #[])) w := run_call_marked Tryz.func241 (by kernel_rfl) (by kernel_rfl) (by kernel_rfl) .acquire (by kernel_rfl) a w
theorem releaseMerge (a : Addr) (w : World) : (callFunc 243 #[.pointer (some a)]).run Tryz.prog w = .ok (.value (.tuple #[])) w := run_call_marked Tryz.func243 (by kernel_rfl) (by kernel_rfl) (by kernel_rfl) .releaseMerge (by kernel_rfl) a w

theorem store_deferred (a : Addr) (x : Value) (u : FrameMode) (w : World) (hc : w.cell? a = some x) (hz : w.frozen? a = false) :
    CallsD Tryz.prog 232 #[.pointer (some a), .bool true] u w fun e u' w' => u' = u ∧ (e = .returned (.tuple #[]) ∧ w' = w.drew.setCell a (.int .u32 1)) := by
  have hc' : w.drew.cell? a = some x := by go_simp
  have hz' : w.drew.frozen? a = false := by go_simp
  have hst := run_call_store (P := Tryz.prog) Tryz.func236 (by kernel_rfl) (by kernel_rfl) (by kernel_rfl) (by kernel_rfl) (k := .u32) (y := 1) hc' hz'
  go_enter_d Tryz.func232, Tryz.ntmps232
  go_wp2
  go_region_calls
  all_goals (go_end0; exact ⟨rfl, rfl⟩)

set_option maxRecDepth 100000 in
set_option maxHeartbeats 1600000 in
theorem unlock_in (a : Addr) (w : World) (hc : w.cell? a = some (.int .i32 1)) (hz : w.frozen? a = false) :
    Calls Tryz.prog 235 #[.pointer (some a)] w fun e w' => e = .returned (.tuple #[]) ∧ w' = w.setCell a (.int .i32 0) := by
  have hd := disable
  have he := enable
  have hr := releaseMerge
  have hadd := run_call_add (P := Tryz.prog) Tryz.func244 (by kernel_rfl) (by kernel_rfl) (by kernel_rfl) .i32 (by kernel_rfl) (y := -1) (s := 0) hc hz (by simp [go_sem]; rfl)
  have hcv := run_convert_to_unsafe (P := Tryz.prog) (src := 281) (dst := 203) Tryz.underlying281 Tryz.underlying203 (by kernel_rfl) hc
  go_enter Tryz.func235, Tryz.ntmps235
  go_wp2
  first | go_end0 | (simp only [Exit.inBlock, Exit.then]; refine bodyPost_ret (results_none rfl _ _ _) rfl ?_) | refine bodyPost_ret (results_none rfl _ _ _) rfl ?_
  all_goals try go_wp2
  all_goals try go_end0
  all_goals exact ⟨rfl, rfl⟩

set_option maxRecDepth 100000 in
set_option maxHeartbeats 1600000 in
theorem lock_in (a : Addr) (w : World) (hc : w.cell? a = some (.int .i32 0)) (hz : w.frozen? a = false) :
    Calls Tryz.prog 234 #[.pointer (some a)] w fun e w' => e = .returned (.tuple #[]) ∧ w' = w.setCell a (.int .i32 1) := by
  have hd := disable
  have he := enable
  have ha := acquire
  have hcas := run_call_cas_hit (P := Tryz.prog) Tryz.func239 (by kernel_rfl) (by kernel_rfl) (by kernel_rfl) .i32 (by kernel_rfl) (y := 1) hc hz
  have hc' : (w.setCell a (.int .i32 1)).cell? a = some (.int .i32 1) := World.cell?_setCell_same w a _ hc
  have hcv := run_convert_to_unsafe (P := Tryz.prog) (src := 281) (dst := 203) Tryz.underlying281 Tryz.underlying203 (by kernel_rfl) hc'
  go_enter Tryz.func234, Tryz.ntmps234
  go_wp2
  first | go_end0 | (simp only [Exit.inBlock, Exit.then]; refine bodyPost_ret (results_none rfl _ _ _) rfl ?_) | refine bodyPost_ret (results_none rfl _ _ _) rfl ?_
  all_goals try go_wp2
  all_goals try go_end0
  all_goals exact ⟨rfl, rfl⟩
theorem lock_free (b o : Nat) (w : World) (hc : w.cell? ⟨b, o, none⟩ = some (.int .i32 0)) (hz : w.frozen? ⟨b, o, none⟩ = false) :
    Calls Tryz.prog 230 #[.pointer (some ⟨b, o, none⟩)] w fun e w' => e = .returned (.tuple #[]) ∧ w' = w.setCell ⟨b, o, none⟩ (.int .i32 1) := by
  have hl := Lib.hid (lock_in ⟨b, o, none⟩ w hc hz)
  clear hc hz
  go_enter Tryz.func230, Tryz.ntmps230
  go_wp2_with (go_at_call 234; refine hl.out.mono ?_; rintro e w' ⟨rfl, rfl⟩)
  go_end0
  exact ⟨rfl, rfl⟩
theorem unlock_deferred (b o : Nat) (u : FrameMode) (w : World) (hc : w.cell? ⟨b, o, none⟩ = some (.int .i32 1)) (hz : w.frozen? ⟨b, o, none⟩ = false) :
    CallsD Tryz.prog 231 #[.pointer (some ⟨b, o, none⟩)] u w fun e u' w' => u' = u ∧ (e = .returned (.tuple #[]) ∧ w' = w.setCell ⟨b, o, none⟩ (.int .i32 0)) := by
  have hl := Lib.hid (unlock_in ⟨b, o, none⟩ w hc hz)
  clear hc hz
  go_enter_d Tryz.func231, Tryz.ntmps231
  go_wp2_with (go_at_call 235; refine hl.out.mono ?_; rintro e w' ⟨rfl, rfl⟩)
  go_end0
  exact ⟨rfl, rfl⟩

theorem kload_any (b o : Nat) (d : Int) (w : World) (h0 : w.cell? ⟨b, o, none⟩ = some (.int .u32 d)) :
    Calls Tryz.prog 219 #[.pointer (some ⟨b, o, none⟩)] w fun e w' => e = .returned (.bool (d != 0)) ∧ w = w' := by
  have hl := run_call_load (P := Tryz.prog) Tryz.func229 (by kernel_rfl) (by kernel_rfl) (by kernel_rfl) .u32 (by kernel_rfl) h0
  go_enter Tryz.func219, Tryz.ntmps219
  go_wp2
  go_ret
  exact ⟨rfl, rfl⟩
theorem load_0 (b o : Nat) (w : World) (h0 : w.cell? ⟨b, o, none⟩ = some (.int .u32 0)) :
    Calls Tryz.prog 219 #[.pointer (some ⟨b, o, none⟩)] w fun e w' => e = .returned (.bool false) ∧ w = w' := kload_any b o 0 w h0
theorem load_1 (b o : Nat) (w : World) (h0 : w.cell? ⟨b, o, none⟩ = some (.int .u32 1)) :
    Calls Tryz.prog 219 #[.pointer (some ⟨b, o, none⟩)] w fun e w' => e = .returned (.bool true) ∧ w = w' := kload_any b o 1 w h0

def fresh : Array Value := tabC (.int .u32 0) (.int .i32 0) (.int .u32 0) 0
def made : Array Value := tabC (.int .u32 1) (.int .i32 0) (.int .u32 0) 16
def Made (g : Nat) (w : World) (e : Ending) (w' : World) : Prop := e = .returned (.tuple #[]) ∧ Blk w' g 222 made ∧ Fr (One g) w w'

set_option maxRecDepth 100000 in
set_option maxHeartbeats 1600000 in
theorem slow_any (g : Nat) (w : World) (h : Blk w g 222 fresh) :
    Calls Tryz.prog 220 #[.pointer (some ⟨g, 0, none⟩), .func (.func 199) #[.pointer (some ⟨g, 0, none⟩)] #[]] w (Made g w) := by
  have c1 : w.cell? ⟨g, 1, none⟩ = some (.int .i32 0) := h.cell 1
  have f1 := h.frozen 1
  obtain ⟨w1, hw1⟩ : ∃ w1, w.setCell ⟨g, 1, none⟩ (.int .i32 1) = w1 := ⟨_, rfl⟩
  have hb1 : Blk w1 g 222 (tabC (.int .u32 0) (.int .i32 1) (.int .u32 0) 0) := by rw [← hw1]; exact h.set_ 1 _
  have hf1 : Fr (One g) w w1 := by rw [← hw1]; exact Fr.set0 g w 1 _
  have c0 : w1.cell? ⟨g, 0, none⟩ = some (.int .u32 0) := hb1.cell 0
  have HL : Hid (Calls Tryz.prog 230 #[.pointer (some ⟨g, 1, none⟩)] w fun e w' => e = .returned (.tuple #[]) ∧ w' = w1) := Lib.hid (by rw [← hw1]; exact lock_free g 1 w c1 f1)
  have HF := Lib.hid (fill_any g (.int .u32 0) (.int .i32 1) (.int .u32 0) w1 hb1)
  have H0 := Lib.hid (load_0 g 0 w1 c0)
  have HR := Lib.hid hf1
  have hnot : ∀ (x : Bool) (w : World), (Op.unary .not (.bool x)).run Tryz.prog w = .ok (.bool (!x)) w := fun _ _ => rfl
  clear hw1 hb1 hf1 c0 c1 f1 h
  go_enter_defers Tryz.func220, Tryz.ntmps220
  go_wp2_with (first | (go_at_call 230; refine HL.out.mono ?_; rintro e w' ⟨rfl, rfl⟩) | (go_at_call 219; refine H0.out.mono ?_; rintro e w' ⟨rfl, rfl⟩) | (go_at_call 199; refine HF.out.mono ?_; rintro e w' ⟨rfl, hb2, hf2⟩))
  go_wp2
  have d0 : w'.cell? ⟨g, 0, none⟩ = some (.int .u32 0) := hb2.cell 0
  have hfz := hb2.frozen 0
  refine leaves_cons (f := 232) (args := #[.pointer (some ⟨g, 0, none⟩), .bool true]) (by simp) (by simp [go_sem]) ?_
  refine (store_deferred ⟨g, 0, none⟩ (.int .u32 0) .returning _ d0 hfz).mono ?_
  rintro e u' w'' ⟨rfl, rfl, rfl⟩
  have hb3 : Blk (w'.drew.setCell ⟨g, 0, none⟩ (.int .u32 1)) g 222 (tabC (.int .u32 1) (.int .i32 1) (.int .u32 0) 16) := Blk.set_ (w := w'.drew) hb2 0 _
  have hf3 : Fr (One g) w (w'.drew.setCell ⟨g, 0, none⟩ (.int .u32 1)) := ((HR.out.trans hf2 fun _ _ h => h).drew).set1 0 _
  obtain ⟨w3, hw3⟩ : ∃ w3, w'.drew.setCell ⟨g, 0, none⟩ (.int .u32 1) = w3 := ⟨_, rfl⟩
  rw [hw3] at hb3 hf3 ⊢
  have d1 : w3.cell? ⟨g, 1, none⟩ = some (.int .i32 1) := hb3.cell 1
  refine leaves_cons (f := 231) (args := #[.pointer (some ⟨g, 1, none⟩)]) (by simp [settle]) (by simp [go_sem]) ?_
  refine (unlock_deferred g 1 _ _ d1 (hb3.frozen 1)).mono ?_
  rintro e u' w'' ⟨rfl, rfl, rfl⟩
  have hm : Made g w (.returned (.tuple #[])) (w3.setCell ⟨g, 1, none⟩ (.int .i32 0)) := ⟨rfl, hb3.set_ 1 _, hf3.set1 1 _⟩
  simp [Leaves, settle, results, Tryz.results220]
  exact hm
set_option maxHeartbeats 1600000 in
/-- '(*sync.Once).Do' of the table's fill, not yet done. -/
theorem do_first (g : Nat) (w : World) (h : Blk w g 222 fresh) :
    Calls Tryz.prog 198 #[.pointer (some ⟨g, 0, none⟩), .func (.func 199) #[.pointer (some ⟨g, 0, none⟩)] #[]] w (Made g w) := by
  have H0 := Lib.hid (load_0 g 0 w (h.cell 0))
  have HS := Lib.hid (slow_any g w h)
  have hnot : ∀ (x : Bool) (w : World), (Op.unary .not (.bool x)).run Tryz.prog w = .ok (.bool (!x)) w := fun _ _ => rfl
  clear h
  go_enter Tryz.func198, Tryz.ntmps198
  go_wp2_with (first | (go_at_call 219; refine H0.out.mono ?_; rintro e w' ⟨rfl, rfl⟩) | (go_at_call 220; refine HS.out.mono ?_; rintro e w' ⟨rfl, hb, hf⟩))
  go_end0
  exact ⟨rfl, hb, hf⟩
/-- Done already. -/
theorem do_done (g : Nat) (fv : Value) (w : World) (h : Blk w g 222 made) :
    Calls Tryz.prog 198 #[.pointer (some ⟨g, 0, none⟩), fv] w (Made g w) := by
  have H0 := Lib.hid (load_1 g 0 w (h.cell 0))
  have hnot : ∀ (x : Bool) (w : World), (Op.unary .not (.bool x)).run Tryz.prog w = .ok (.bool (!x)) w := fun _ _ => rfl
  have H := Lib.hid h
  clear h
  go_enter Tryz.func198, Tryz.ntmps198
  go_wp2_with (go_at_call 219; refine H0.out.mono ?_; rintro e w' ⟨rfl, rfl⟩)
  go_end0
  exact ⟨rfl, H.out, Fr.refl _ _⟩

/-! ### the landed check -/
/-- A table: not made, or made. -/
def TabAt (w : World) (g : Nat) : Prop := Blk w g 222 fresh ∨ Blk w g 222 made
theorem do_any (g : Nat) (w : World) (h : TabAt w g) :
    Calls Tryz.prog 198 #[.pointer (some ⟨g, 0, none⟩), .func (.func 199) #[.pointer (some ⟨g, 0, none⟩)] #[]] w (Made g w) := by
  rcases h with h | h
  · exact do_first g w h
  · exact do_done g _ w h
def Summed (g : Nat) (l : List UInt8) (w : World) (e : Ending) (w' : World) : Prop := e = .returned (.int .u32 (crc l : Nat)) ∧ Blk w' g 222 made ∧ Fr (One g) w w'
theorem tsum_nil (s : ByteArray) (w : World) : Calls Tryz.prog 179 #[.pointer none, .string s] w fun e w' => e = .returned (.int .u32 0) ∧ w = w' := by
  go_enter Tryz.func179, Tryz.ntmps179
  go_wp2
  go_ret
  exact ⟨rfl, rfl⟩

/-- Half a byte's step. -/
theorem half_facts (x : Nat) (hx : x < 2 ^ 32) : ∃ y i z : Nat, i < 16 ∧ i = x % 16 ∧ ((x : Int) / 16 = (y : Int)) ∧ ((x : Int) % 16 = (i : Int)) ∧ bits .xor .u32 (y : Int) (stn 4 i : Nat) = (z : Int) ∧ stn 4 x = z ∧ z < 2 ^ 32 := by
  refine ⟨x / 16, x % 16, x / 16 ^^^ stn 4 (x % 16), by omega, rfl, by omega, by omega, u32_xor_nat _ _ (by omega) (stn_lt (by omega)), stn4 x, ?_⟩
  rw [← stn4]; exact stn_lt hx
theorem not_ones (a : Nat) (ha : a < 2 ^ 32) : ∃ z : Nat, z = a ^^^ 4294967295 ∧ bits .xor .u32 4294967295 (a : Int) = (z : Int) := ⟨_, rfl, by rw [Nat.xor_comm]; exact u32_xor_nat 4294967295 a (by decide) (by omega)⟩

set_option maxRecDepth 100000 in
set_option maxHeartbeats 2000000 in
theorem tsum_any (g : Nat) (s : ByteArray) (w : World) (hs : s.size ≤ maxLen) (h : TabAt w g) :
    Calls Tryz.prog 179 #[.pointer (some ⟨g, 0, none⟩), .string s] w (Summed g s.data.toList w) := by
  unfold maxLen at hs
  have HD := Lib.hid (do_any g w h)
  have hmf : ∀ (fn : Fn) (first cap : Array Value) (w : World), (Instr.makeFunc fn first cap).run Tryz.prog w = .ok (.func fn first cap) w := fun _ _ _ _ => rfl
  clear h
  go_enter Tryz.func179, Tryz.ntmps179
  go_wp2_with (go_at_call 198; refine HD.out.mono ?_; rintro e w' ⟨rfl, hb, hf⟩)
  have hrow : ∀ i, i < 16 → w'.cell? ⟨g, 3 + i, none⟩ = some (.int .u32 (stn 4 i : Nat)) := fun i hi => (hb.cell (3 + i)).trans (tabC_get _ _ _ i hi)
  have HROW := Lib.hid hrow
  have HB := Lib.hid hb
  have HF := Lib.hid hf
  clear hrow hb hf HD
  go_wp2
  go_loop [5, 17] (fun c i => ∃ k : Nat, k ≤ s.size ∧ i = .int .i64 k ∧ c = .int .u32 (runc 4294967295 (s.data.toList.take k) : Nat)) (fun _ i => s.size - (intOf i).toNat)
  case atStart => exact ⟨0, Nat.zero_le _, rfl, rfl⟩
  case round =>
    obtain ⟨k, hk, rfl, rfl⟩ := hrel
    have hc := runc_lt (s.data.toList.take k) (c := 4294967295) (by decide)
    by_cases hlt : k < s.size
    · have hts : s.data.toList.take (k + 1) = s.data.toList.take k ++ [s[k]] := by rw [List.take_succ_eq_append_getElem (by simpa using hlt)]; rfl
      have hbt : s[k].toNat < 256 := s[k].toNat_lt
      have hv : runc 4294967295 (s.data.toList.take (k + 1)) = stn 4 (stn 4 (runc 4294967295 (s.data.toList.take k) ^^^ s[k].toNat)) := by rw [hts, runc_snoc]; rfl
      have HV := Lib.hid hv
      clear hv hts
      generalize runc 4294967295 (s.data.toList.take k) = c at *
      obtain ⟨x, hx, hxx⟩ := xor_fact c s[k].toNat hc (by omega)
      have hxl : x < 2 ^ 32 := by rw [hx]; exact Nat.xor_lt_two_pow hc (by omega)
      obtain ⟨y1, i1, z1, hi1, he1, ha1, hb1, hc1, hd1, hl1⟩ := half_facts x hxl
      obtain ⟨y2, i2, z2, hi2, he2, ha2, hb2, hc2, hd2, hl2⟩ := half_facts z1 hl1
      have HZ : Hid (runc 4294967295 (s.data.toList.take (k + 1)) = z2) := Lib.hid (by rw [HV.out, ← hx, hd1, hd2])
      have hr1 := HROW.out i1 hi1
      have hr2 := HROW.out i2 hi2
      have hx1 := fun w' => idx36 .u32 w' g 3 i1 hi1
      have hx2 := fun w' => idx36 .u32 w' g 3 i2 hi2
      clear hx hd1 hd2 HV he1 he2
      generalize stn 4 i1 = t1 at *
      generalize stn 4 i2 = t2 at *
      go_wp2
      go_round
      case rel => exact ⟨k + 1, by omega, by go_num, by rw [HZ.out]⟩
      case measure => simp [intOf]; omega
    · obtain ⟨z, hz, hzz⟩ := not_ones _ hc
      have hz' : z = crc s.data.toList := by rw [hz]; unfold crc; rw [List.take_of_length_le (by simp; omega)]
      have HZ := Lib.hid hz'
      have hmax : IntKind.u32.max = 4294967295 := by decide
      clear hz' hz
      generalize runc 4294967295 (s.data.toList.take k) = c at *
      go_wp2
      go_ret
      exact ⟨ret_u32 (by rw [HZ.out]), HB.out, HF.out⟩
end Go.Proofs.YtoaiofjcjjkfaaaGreatDoor
/- Bytes in memory: one more, one turned, as a text; numbers as bytes and back; the landed Sum. -/
namespace Go.Proofs.YtoaiofjcjjkfaaaGreatDoor
open Go.RowKit Go.Maps
set_option linter.unusedVariables false

theorem RowB.run_add {w : World} {v : Value} {l : List UInt8} (h : RowB w v l) (x : UInt8) (ty : TypeId) (a : Addr) (c : Nat) (hx : w.cell? a = some (byteV x)) (hlen : l.length + 1 ≤ 1000000000000) :
    ∃ v' w', (Builtin.append_ #[65, 65] ty #[v, .slice (some a) 1 c]).run Tryz.prog w = .ok v' w' ∧ RowB w' v' (l ++ [x]) ∧ w.grownBy w' v.ownBlock ∧ (∀ k, v'.ownBlock = some k → v.ownBlock = some k ∨ k = w.heap.size) := by
  obtain ⟨i0, hi, hz0, hz1, hz2⟩ := info_parts kinfo5
  have hnews : ∀ j u, [byteV x][j]? = some u → w.cell? (a.add j) = some u := by
    intro j u hj
    match j, hj with
    | 0, hj =>
      simp at hj; subst hj
      obtain ⟨b, o, m⟩ := a
      cases m with
      | none => simpa [Addr.add] using hx
      | some m => simpa [Addr.add] using hx
  rcases h with ⟨rfl, rfl⟩ | ⟨g, off, cap, cur, rfl, hg, hnc, hcm, hcs, htk⟩
  · obtain ⟨v', w', hr, ho, hgr, hnn, hat⟩ := run_append_own_at (P := Tryz.prog) w w.heap.size 65 ty 5 i0 (.int .u8 0) 1 1 Tryz.underlying65 hi hz0 hz1 hz2 rfl (by omega) (.slice none 0 0) 0 [] (World.ownsRow_nil w _ 5 1) a 1 c [byteV x] rfl hnews (by simp [Value.oneCell', byteV]) (by unfold maxLen; omega) (by omega) (Nat.le_refl _)
    refine ⟨v', w', hr, ?_, hgr, fun k hk => ?_⟩
    · rcases ho.2 with ⟨rfl, h0⟩ | ⟨g, cap, cur, rfl, hb, hh, hnc, hcm, hs, ht⟩
      · omega
      · exact .inr ⟨g, 0, cap, cur, by simp, hh, by simpa using hnc, hcm, by omega, by simpa using ht⟩
    · rcases hat with hat | hat
      · exact .inl (hat ▸ hk)
      · rw [hk] at hat; exact .inr (by simpa using hat)
  · by_cases hroom : l.length + 1 ≤ cap
    · have hf := run_firstCells_some (P := Tryz.prog) w 1 1 a 1 c [byteV x] rfl hnews
      have hst := run_storeCells_at Tryz.prog g (off + l.length) 5 [byteV x] 0 cur w hg (by simp; omega) (by simp [Value.oneCell', byteV])
      simp only [Nat.add_zero, List.length_cons, List.length_nil, Nat.zero_add] at hst
      have hr : (Builtin.append_ #[65, 65] ty #[.slice (some ⟨g, off, none⟩) l.length cap, .slice (some a) 1 c]).run Tryz.prog w = .ok (.slice (some ⟨g, off, none⟩) (l.length + 1) cap) (w.setRow g (cur.toList.take (off + l.length) ++ [byteV x] ++ cur.toList.drop (off + l.length + 1)).toArray) := by
        simp [Builtin.append_, run_underlying Tryz.underlying65, sizeOf, typeInfo, hi, hz1, Builtin.lenOf, hroom, hf, Addr.add_lit, hst]
      refine ⟨_, _, hr, .inr ⟨g, off, cap, _, by simp, setRow_heap w g cur _ 5 _ hg, by simpa using hroom, hcm, ?_, ?_⟩, ⟨rfl, rfl, rfl, by simp, fun k _ hk => setRow_other w g k _ (fun e => hk (by simp [Value.ownBlock, e]))⟩, fun k hk => .inl hk⟩
      · simp; omega
      · have hl1 : (cur.toList.take (off + l.length)).length = off + l.length := by simp; omega
        have hd : (cur.toList.take (off + l.length)).drop off = l.map byteV := by rw [← htk, List.drop_take, Nat.add_sub_cancel_left]
        simp only [List.append_assoc, List.length_append, List.map_append]
        rw [List.drop_append_of_le_length (by omega), hd, ← List.append_assoc]
        exact List.take_left' (by simp)
    · have holds : ∀ j u, (l.map byteV)[j]? = some u → w.cell? ((⟨g, off, none⟩ : Addr).add j) = some u := by
        intro j u hu
        rw [Addr.add_lit, cell_of_row w g (off + j) cur 5 (0, 0) hg]
        rw [← htk, List.getElem?_take] at hu
        split at hu
        · simpa using hu
        · cases hu
      have hr := run_append_grow (P := Tryz.prog) w 65 ty 5 i0 (.int .u8 0) Tryz.underlying65 hi hz0 ⟨g, off, none⟩ l.length cap (l.map byteV) (by rw [hz1, List.length_map, Nat.mul_one]) holds a 1 c [byteV x] (by rw [hz1]; rfl) hnews (by omega) (by omega) (by rw [hz2]; exact growslice_fits (by omega) (by omega))
      have hge := grownCap_ge w (l.length + 1) cap 5
      have hcm' : grownCap w (l.length + 1) cap 5 ≤ maxLen := grownCap_le_maxLen w (l.length + 1) cap 5 (by unfold maxLen; omega)
      have hz1' : (Value.int IntKind.u8 0).cells.size = 1 := rfl
      refine ⟨_, _, hr, .inr ⟨w.heap.size, 0, _, _, by simp, heap_alloc_new w.drew _, by simpa using hge, hcm', ?_, ?_⟩, ⟨rfl, rfl, rfl, by simp, fun k hk _ => heap_alloc_old w.drew _ hk⟩, fun k hk => .inr ?_⟩
      · simp only [Array.size_append, List.size_toArray, size_zeroCells, hz1', List.length_map, List.length_cons, List.length_nil]
        omega
      · simp only [Array.toList_append, List.append_assoc, List.drop_zero, List.length_append, List.map_append]
        rw [← List.append_assoc]
        exact List.take_left' (by simp)
      · simpa [Value.ownBlock, eq_comm] using hk
/-- The row as a text. -/
theorem RowB.run_conv {w : World} {v : Value} {l : List UInt8} (h : RowB w v l) : (convert 65 9 v).run Tryz.prog w = .ok (.string ⟨l.toArray⟩) w := by
  rcases h with ⟨rfl, rfl⟩ | ⟨g, off, cap, cur, rfl, hg, hnc, hcm, hcs, htk⟩
  · exact run_convert_bytes_nil w 65 5 Tryz.underlying65 Tryz.underlying5 0 0 9 Tryz.underlying9
  · have hcell : ∀ i, i < l.length → w.cell? ⟨g, off + i, none⟩ = some (.int .u8 ((l.map fun u => (u.toNat : Int)).getD i 0)) := by
      intro i hi
      rw [cell_of_row w g (off + i) cur 5 (0, 0) hg]
      have h1 : (l.map byteV)[i]? = some (byteV l[i]) := by rw [List.getElem?_map, List.getElem?_eq_getElem (by omega)]; rfl
      rw [← htk, List.getElem?_take] at h1
      rw [if_pos (by omega), List.getElem?_drop] at h1
      rw [← Array.getElem?_toList, h1]
      simp [byteV, List.getD, hi]
    have h2 := run_convert_bytes_arg w 65 5 Tryz.underlying65 Tryz.underlying5 g off l.length cap (l.map fun u => (u.toNat : Int)) (by simp) hcell 9 Tryz.underlying9
    refine h2.trans ?_
    have e2 : strOfNums (l.map fun u => (u.toNat : Int)) = ⟨l.toArray⟩ := by
      unfold strOfNums
      rw [List.map_map]
      have : ((fun n : Int => UInt8.ofNat n.toNat) ∘ fun u : UInt8 => (u.toNat : Int)) = id := by
        funext u; simp
      rw [this, List.map_id]
    rw [e2]

/-! ### numbers as bytes -/
theorem byte_fact (n j : Nat) : byteV (UInt8.ofNat (n / 256 ^ j % 256)) = .int .u8 ((n : Int) / 2 ^ (8 * j) % 256) := by
  unfold byteV
  congr 1
  rw [show (256 : Nat) ^ j = 2 ^ (8 * j) by rw [Nat.pow_mul]]
  simp

theorem low_set (n j k : Nat) (h : j < k) (hk : k ≤ 8) : ((low n j ++ List.replicate (k - j) 0).map byteV).toArray.setIfInBounds j (byteV (UInt8.ofNat (n / 256 ^ j % 256))) = ((low n (j + 1) ++ List.replicate (k - (j + 1)) 0).map byteV).toArray := by
  obtain ⟨r, hr⟩ : ∃ r, k - j = r + 1 := ⟨k - j - 1, by omega⟩
  have hr' : k - (j + 1) = r := by omega
  rw [hr, hr', low_snoc, List.replicate_succ]
  apply Array.ext'
  have hl := low_len j n
  simp [hl]

def Low (n k : Nat) (w : World) (e : Ending) (w' : World) : Prop := e = .returned (.string ⟨(low n k).toArray⟩) ∧ Below w.heap.size w w'

set_option maxRecDepth 100000 in
set_option maxHeartbeats 1000000 in
theorem low_any (n k : Nat) (w : World) (hn : n < 2 ^ 64) (hk : k ≤ 8) :
    Calls Tryz.prog 137 #[.int .u64 (n : Int), .int .i64 (k : Int)] w (Low n k w) := by
  have hmk := run_make_row' (P := Tryz.prog) 65 5 (.int .u8 0) 1 Tryz.underlying65 kinfo5 rfl .i64 .i64 k (by omega) (by omega) w
  obtain ⟨w1, hw1⟩ : ∃ w1, w.alloc (.cells (madeCells #[.int .u8 0] k) 5) = w1 := ⟨_, rfl⟩
  obtain ⟨g, hg⟩ : ∃ g, w.heap.size = g := ⟨_, rfl⟩
  have hb : Blk w1 g 5 ((low n 0 ++ List.replicate (k - 0) 0).map byteV).toArray := by
    rw [← hw1, ← hg]
    have e : ((low n 0 ++ List.replicate (k - 0) 0).map byteV).toArray = madeCells #[.int .u8 0] k := by
      apply Array.ext'
      rw [toList_madeCells_one]
      simp [low, byteV]
    rw [e]; exact Blk.new w 5 _
  have hf : Fr (One g) w w1 := by rw [← hw1]; exact (Fr.refl _ w).alloc _
  have hgs : ∀ j, One g j → w.heap.size ≤ j := by rintro j rfl; omega
  rw [hw1, hg] at hmk
  have HG := Lib.hid hgs
  have HGG := Lib.hid hg
  have HF := Lib.hid hf
  clear hw1 hg hf hgs
  go_enter Tryz.func137, Tryz.ntmps137
  go_wp2
  go_loopw [11] (fun i wr => ∃ j : Nat, j ≤ k ∧ i = .int .i64 j ∧ Blk wr g 5 ((low n j ++ List.replicate (k - j) 0).map byteV).toArray ∧ Fr (One g) w wr) (fun i _ => k - (intOf i).toNat)
  case atStart => exact ⟨0, by omega, rfl, hb, HF.out⟩
  case round =>
    obtain ⟨j, hj, rfl, hbr, hfr⟩ := hrel
    have HFR := Lib.hid hfr
    clear hfr
    by_cases hlt : j < k
    · have h3 := byte_fact n j
      have hcell : ∃ v, wr.cell? ⟨g, j, none⟩ = some v := by
        rw [hbr.cell j]
        exact ⟨_, Array.getElem?_eq_getElem (by simp [low_len]; omega)⟩
      obtain ⟨v, hv⟩ := hcell
      have hfz := hbr.frozen j
      have HB := Lib.hid (hbr.set_ j (.int .u8 ((n : Int) / 2 ^ (8 * j) % 256)))
      have H3 := Lib.hid h3
      clear hbr h3 hb
      go_wp2
      go_roundw
      case rel => exact ⟨j + 1, by omega, by go_num, by have := HB.out; rw [← H3.out, low_set n j k hlt hk, H3.out] at this; exact this, HFR.out.set1 _ _⟩
      case measure => simp [intOf]; omega
    · obtain rfl : j = k := by omega
      have hrow : RowB wr (.slice (some ⟨g, 0, none⟩) j j) (low n j) := by
        refine .inr ⟨g, 0, j, _, by rw [low_len], hbr, by rw [low_len]; omega, by unfold maxLen; omega, by simp [low_len], ?_⟩
        simp only [Nat.sub_self, List.replicate_zero, List.append_nil, List.drop_zero, low_len]
        exact List.take_of_length_le (by simp [low_len])
      have hcv := hrow.run_conv
      have HB := Lib.hid hbr
      clear hbr hrow hb
      go_wp2
      go_ret
      exact ⟨rfl, HFR.out.below_of (Nat.le_refl _) HG.out⟩


theorem ret_u64 {a b : Int} (h : a = b) : Ending.returned (.int .u64 a) = Ending.returned (.int .u64 b) := by rw [h]
/-! ### bytes as numbers -/
theorem get_snoc (s : ByteArray) (k : Nat) (h : k < s.size) : s.data.toList.take (k + 1) = s.data.toList.take k ++ [s[k]] := by
  rw [List.take_succ_eq_append_getElem (by simpa using h)]; rfl
theorem num_snoc (l : List UInt8) (b : UInt8) : num (l ++ [b]) = num l + 256 ^ l.length * b.toNat := by
  rw [num_append]; simp [num]
theorem num_lt64 {l : List UInt8} (h : l.length ≤ 8) : num l < 2 ^ 64 := by
  have h1 := num_lt l
  have h2 : 256 ^ l.length ≤ 256 ^ 8 := Nat.pow_le_pow_right (by decide) h
  omega
theorem or_fact (s : ByteArray) (k : Nat) (hk : k < s.size) (hs : s.size ≤ 8) :
    ∃ m : Nat, IntKind.u64.wrap ((s[k].toNat : Int) * 2 ^ (8 * k)) = (m : Int) ∧ bits .or .u64 (num (s.data.toList.take k) : Nat) (m : Int) = (num (s.data.toList.take (k + 1)) : Nat) := by
  have hb : s[k].toNat < 256 := s[k].toNat_lt
  have hlen : (s.data.toList.take k).length = k := by simp; omega
  have hn := num_lt (s.data.toList.take k)
  rw [hlen, show (256 : Nat) ^ k = 2 ^ (8 * k) by rw [Nat.pow_mul]] at hn
  have hsn : num (s.data.toList.take (k + 1)) = num (s.data.toList.take k) + 2 ^ (8 * k) * s[k].toNat := by
    rw [get_snoc s k hk, num_snoc, hlen, show (256 : Nat) ^ k = 2 ^ (8 * k) by rw [Nat.pow_mul]]
  have hl64 : num (s.data.toList.take (k + 1)) < 2 ^ 64 := num_lt64 (by simp; omega)
  refine ⟨2 ^ (8 * k) * s[k].toNat, ?_, ?_⟩
  · rw [IntKind.wrap_u64]
    have e : ((s[k].toNat : Int) * 2 ^ (8 * k)) = ((2 ^ (8 * k) * s[k].toNat : Nat) : Int) := by simp [Int.mul_comm]
    rw [e]
    omega
  · rw [bits_or_u64_nat _ _ (by omega) (by omega), hsn, Nat.or_comm, ← Nat.two_pow_add_eq_or_of_lt hn, Nat.add_comm]

set_option maxHeartbeats 1000000 in
theorem number_any (s : ByteArray) (w : World) (hs : s.size ≤ 8) :
    Calls Tryz.prog 92 #[.string s] w fun e w' => e = .returned (.int .u64 (num s.data.toList : Nat)) ∧ w = w' := by
  go_enter Tryz.func92, Tryz.ntmps92
  go_wp2
  go_loop [3, 7] (fun n i => ∃ k : Nat, k ≤ s.size ∧ i = .int .i64 k ∧ n = .int .u64 (num (s.data.toList.take k) : Nat)) (fun _ i => s.size - (intOf i).toNat)
  case atStart => exact ⟨0, Nat.zero_le _, rfl, rfl⟩
  case round =>
    obtain ⟨k, hk, rfl, rfl⟩ := hrel
    by_cases hlt : k < s.size
    · have hb : s[k].toNat < 256 := s[k].toNat_lt
      obtain ⟨m, h1, h2⟩ := or_fact s k hlt hs
      have H1 : Hid (bits .or .u64 (num (s.data.toList.take k) : Nat) (IntKind.u64.wrap ((s[k].toNat : Int) * 2 ^ (8 * k))) = (num (s.data.toList.take (k + 1)) : Nat)) := Lib.hid (by rw [h1, h2])
      clear h1 h2
      generalize num (s.data.toList.take k) = c at *
      go_wp2
      go_round
      case rel => exact ⟨k + 1, by omega, by go_num, by rw [H1.out]⟩
      case measure => simp [intOf]; omega
    · have hz : num (s.data.toList.take k) = num s.data.toList := by rw [List.take_of_length_le (by simp; omega)]
      have HZ := Lib.hid hz
      clear hz
      generalize num (s.data.toList.take k) = c at *
      go_wp2
      go_ret
      exact ⟨ret_u64 (by rw [HZ.out]), rfl⟩

theorem num_cons (b : UInt8) (l : List UInt8) : num (b :: l) = b.toNat + 256 * num l := rfl
theorem drop_step (s : ByteArray) (k : Nat) (h : k < s.size) : s.data.toList.drop k = s[k] :: s.data.toList.drop (k + 1) := by
  rw [List.drop_eq_getElem_cons (by simpa using h)]; rfl

set_option maxHeartbeats 1000000 in
theorem of_any (s : ByteArray) (w : World) (hs : s.size ≤ 8) :
    Calls Tryz.prog 97 #[.string s] w fun e w' => e = .returned (.int .u64 (num s.data.toList : Nat)) ∧ w = w' := by
  go_enter Tryz.func97, Tryz.ntmps97
  go_wp2
  go_loop [3, 4] (fun n i => ∃ k : Nat, k ≤ s.size ∧ i = .int .i64 ((k : Int) - 1) ∧ n = .int .u64 (num (s.data.toList.drop k) : Nat)) (fun _ i => (intOf i + 1).toNat)
  case atStart => exact ⟨s.size, Nat.le_refl _, rfl, by rw [List.drop_of_length_le (by simp)]; rfl⟩
  case round =>
    obtain ⟨k, hk, rfl, rfl⟩ := hrel
    by_cases hlt : 0 < k
    · obtain ⟨j, rfl⟩ : ∃ j, k = j + 1 := ⟨k - 1, by omega⟩
      have e1 : (((j + 1 : Nat) : Int) - 1) = (j : Int) := by omega
      have hb : s[j].toNat < 256 := s[j].toNat_lt
      have hn : num (s.data.toList.drop (j + 1)) < 256 ^ 7 := by
        have h1 := num_lt (s.data.toList.drop (j + 1))
        have h2 : 256 ^ (s.data.toList.drop (j + 1)).length ≤ 256 ^ 7 := Nat.pow_le_pow_right (by decide) (by simp; omega)
        omega
      have hj : num (s.data.toList.drop j) = s[j].toNat + 256 * num (s.data.toList.drop (j + 1)) := by rw [drop_step s j (by omega), num_cons]
      obtain ⟨p, hp⟩ : ∃ p : Nat, IntKind.u64.wrap ((num (s.data.toList.drop (j + 1)) : Nat) * 256 : Int) = (p : Int) ∧ p = 256 * num (s.data.toList.drop (j + 1)) := ⟨_, by rw [IntKind.wrap_u64]; omega, rfl⟩
      have hq : IntKind.u64.wrap ((p : Int) + (s[j].toNat : Int)) = ((num (s.data.toList.drop j) : Nat) : Int) := by rw [hj, IntKind.wrap_u64]; omega
      have hp1 := hp.1
      have HQ := Lib.hid hq
      rw [e1]
      clear hp hn e1 hj hq
      generalize num (s.data.toList.drop (j + 1)) = c at *
      go_wp2
      go_round
      case rel => exact ⟨j, by omega, by go_num, by rw [HQ.out]⟩
      case measure => simp [intOf]
    · obtain rfl : k = 0 := by omega
      have HZ : Hid (num (s.data.toList.drop 0) = num s.data.toList) := Lib.hid (by rw [List.drop_zero])
      rw [show (((0 : Nat) : Int) - 1) = -1 from rfl]
      generalize num (s.data.toList.drop 0) = c at *
      go_wp2
      go_ret
      exact ⟨ret_u64 (by rw [HZ.out]), rfl⟩
end Go.Proofs.YtoaiofjcjjkfaaaGreatDoor
/- The document's Num; the landed Sum; frames made and taken apart, both ways. -/
namespace Go.Proofs.YtoaiofjcjjkfaaaGreatDoor
open Go.RowKit Go.Maps
set_option linter.unusedVariables false

section
variable {ops : Array Oper} {rest : List Oper} {o : Oper} {a : Act} {Q : Exit → Act → World → Prop} {w : World}
theorem wpList_add (hgd : o.guard = none) (sl x : Operand) (t1 t2 : TypeId) (ho : o.op = .call { callee := .builtin .append, args := #[sl, x], argTypes := #[t1, t2] })
    (v v' xv : Value) (w1 : World) (hs : a.eval sl = v) (hx : a.eval x = xv) (hr : (Builtin.append_ #[t1, t2] o.type #[v, xv]).run Tryz.prog w = .ok v' w1)
    (h : wpList Tryz.prog ops Q rest (a.put o.dst v') w1) : wpList Tryz.prog ops Q (o :: rest) a w := by
  refine wpList_plain hgd fun K hK => ?_
  unfold Oper.wp execOp
  simp only [ho, resolve, invoke, builtin, Sem.run_bind, Sem.run_pure, Result.andThen_ok, List.map_toArray, List.map_cons, List.map_nil, hs, hx, hr]
  exact hK _ _ h
end

theorem RowB.ge {w w' : World} {B : Nat} {v v' : Value} (h : ∀ k, v.ownBlock = some k → B ≤ k) (hB : B ≤ w.heap.size) (hv : ∀ k, v'.ownBlock = some k → v.ownBlock = some k ∨ k = w.heap.size) : ∀ k, v'.ownBlock = some k → B ≤ k := by
  intro k hk
  rcases hv k hk with e | e
  · exact h k e
  · omega

/-- A byte of one's own, laid ahead of an append. -/
theorem RowB.run_more {w : World} {v : Value} {l : List UInt8} (h : RowB w v l) (x : UInt8) (hlen : l.length + 1 ≤ 1000000000000) :
    ∃ A c w', (∀ ty, (Builtin.append_ #[65, 65] ty #[v, .slice (some ⟨w.heap.size, 0, none⟩) 1 1]).run Tryz.prog (w.alloc (.cells #[byteV x] 5)) = .ok (.slice A (l.length + 1) c) w') ∧ RowB w' (.slice A (l.length + 1) c) (l ++ [x]) ∧
      (∀ F : Nat → Prop, (∀ k, v.ownBlock = some k → F k) → (∀ k, w.heap.size ≤ k → F k) → Fr F w w') ∧ (∀ k, (Value.slice A (l.length + 1) c).ownBlock = some k → v.ownBlock = some k ∨ w.heap.size ≤ k) := by
  have hr : RowB (w.alloc (.cells #[byteV x] 5)) v l := h.of fun k hk => Below.heap_alloc w _ k (h.lt hk)
  have hc : (w.alloc (.cells #[byteV x] 5)).cell? ⟨w.heap.size, 0, none⟩ = some (byteV x) := (Blk.new w 5 #[byteV x]).cell 0
  obtain ⟨v', w', hr1, hr2, hr3, hr4⟩ := hr.run_add x 0 ⟨w.heap.size, 0, none⟩ 1 hc hlen
  obtain ⟨A, c, rfl⟩ := hr2.len
  have hl : (l ++ [x]).length = l.length + 1 := by simp
  rw [hl] at hr1 hr2 hr4
  refine ⟨A, c, w', fun ty => ?_, hr2, fun F h1 h2 => ?_, fun k hk => ?_⟩
  · exact hr1
  · exact ((Fr.refl F w).alloc _).grown hr3 fun k hk _ => h1 k hk
  · rcases hr4 k hk with e | e
    · exact .inl e
    · exact .inr (by simp at e; omega)

theorem byte_of (n j : Nat) : (.int .u8 ((((n / 256 ^ j : Nat) : Int)) % 256) : Value) = byteV (UInt8.ofNat (n / 256 ^ j % 256)) := by
  unfold byteV
  congr 1
  simp
theorem shift_div (n j : Nat) : ((n / 256 ^ j : Nat) : Int) / 256 = ((n / 256 ^ (j + 1) : Nat) : Int) := by
  rw [Nat.pow_succ, ← Nat.div_div_eq_div_mul]; omega

set_option maxRecDepth 100000 in
set_option maxHeartbeats 1000000 in
theorem Num_any (n k : Nat) (w : World) (hn : n < 2 ^ 64) (hk : k ≤ 8) :
    Calls Tryz.prog 38 #[.int .u64 (n : Int), .int .i64 (k : Int)] w (Low n k w) := by
  obtain ⟨s0, hs0⟩ : ∃ s0, w.heap.size = s0 := ⟨_, rfl⟩
  have HS := Lib.hid hs0
  clear hs0
  go_enter Tryz.func38, Tryz.ntmps38
  go_wp2
  go_loopw [0, 5, 6] (fun x v i wr => ∃ j : Nat, ∃ A c, j ≤ k ∧ i = .int .i64 j ∧ x = .int .u64 ((n / 256 ^ j : Nat) : Int) ∧ v = .slice A j c ∧ RowB wr (.slice A j c) (low n j) ∧ (∀ b, (Value.slice A j c).ownBlock = some b → w.heap.size ≤ b) ∧ Below w.heap.size w wr) (fun _ _ i _ => k - (intOf i).toNat)
  case atStart => exact ⟨0, none, 0, by omega, rfl, by simp, rfl, RowB.nil _, by simp [Value.ownBlock], Below.refl _ _⟩
  case round =>
    obtain ⟨j, A, c, hj, rfl, rfl, rfl, hrow, hown, hbl⟩ := hrel
    by_cases hlt : j < k
    · obtain ⟨A', c', w1, hr1, hr2, hr3, hr4⟩ := hrow.run_more (UInt8.ofNat (n / 256 ^ j % 256)) (by rw [low_len]; omega)
      rw [← low_snoc, low_len] at hr2
      rw [low_len] at hr1 hr4
      have hb1 : Below w.heap.size w w1 := by
        have hf : Fr (fun b => w.heap.size ≤ b) w w1 := (Fr.of_below hbl).any.trans (hr3 (fun b => w.heap.size ≤ b) hown fun b hb => Nat.le_trans hbl.size hb) fun _ _ h => h
        exact hf.below_of (Nat.le_refl _) fun _ h => h
      have HB := Lib.hid hb1
      have hown1 : ∀ b, (Value.slice A' (j + 1) c').ownBlock = some b → w.heap.size ≤ b := by
        intro b hb
        rcases hr4 b hb with e | e
        · exact hown b e
        · exact Nat.le_trans hbl.size e
      have HO := Lib.hid hown1
      have HR2 := Lib.hid hr2
      rw [← byte_of] at hr1
      have HR := Lib.hid hr1
      have HD := Lib.hid (shift_div n j)
      have hml : n / 256 ^ j < 2 ^ 64 := Nat.lt_of_le_of_lt (Nat.div_le_self _ _) hn
      clear hb1 hown1 hr2 hr3 hr4 hr1 hown hbl hrow
      generalize n / 256 ^ j = m at *
      go_wp2_with (at_builtin; refine wpList_add rfl _ _ _ _ rfl _ _ _ _ rfl rfl (HR.out _) ?_)
      go_roundw
      case rel => exact ⟨j + 1, A', c', by omega, by go_num, by rw [HD.out], by go_num, HR2.out, HO.out, HB.out⟩
      case measure => simp [intOf]; omega
    · obtain rfl : j = k := by omega
      have hcv := hrow.run_conv
      have HB := Lib.hid hbl
      clear hrow hbl hown
      go_wp2
      go_ret
      exact ⟨rfl, HB.out⟩

/-! ### the landed Sum -/
def SumB (l : List UInt8) (w : World) (e : Ending) (w' : World) : Prop := e = .returned (.int .u32 (crc l : Nat)) ∧ Below w.heap.size w w'
theorem fresh_alloc (w : World) : TabAt (w.alloc (.cells fresh 222)) w.heap.size := .inl (Blk.new w 222 _)
set_option maxRecDepth 100000 in
set_option maxHeartbeats 1000000 in
theorem sum_any (s : ByteArray) (w : World) (hs : s.size ≤ maxLen) :
    Calls Tryz.prog 150 #[.string s] w (SumB s.data.toList w) := by
  have HT := Lib.hid (tsum_any w.heap.size s (w.alloc (.cells fresh 222)) hs (fresh_alloc w))
  have HF : Hid (Fr (One w.heap.size) w (w.alloc (.cells fresh 222))) := Lib.hid ((Fr.refl _ w).alloc _)
  go_enter Tryz.func150, Tryz.ntmps150
  go_wp2_with (go_at_call 179; refine HT.out.mono ?_; rintro e w' ⟨rfl, hb, hf⟩)
  go_ret
  exact ⟨rfl, (HF.out.trans hf fun _ _ h => h).below_of (Nat.le_refl _) fun k hk => Nat.le_of_eq hk.symm⟩
end Go.Proofs.YtoaiofjcjjkfaaaGreatDoor
/- Frames made, both ways. -/
namespace Go.Proofs.YtoaiofjcjjkfaaaGreatDoor
open Go.RowKit Go.Maps
set_option linter.unusedVariables false

/-- A text of bytes. -/
abbrev sv (l : List UInt8) : Value := .string ⟨l.toArray⟩
theorem run_cat (l m : List UInt8) (h : l.length + m.length ≤ 9223372036854775807) (w : World) : (Op.stringOp .add ⟨l.toArray⟩ ⟨m.toArray⟩).run Tryz.prog w = .ok (.string ⟨(l ++ m).toArray⟩) w := by
  rw [run_string_add_sum w _ _ (by simpa [ByteArray.size] using h), ByteArray.mk_append_mk]
theorem sz (l : List UInt8) : (ByteArray.mk l.toArray).size = l.length := by simp [ByteArray.size]

def frameR (l : List UInt8) : List UInt8 := low l.length 4 ++ low (crc l) 4 ++ l
def frameV (l : List UInt8) : Value := if l.length > 65536 then .tuple #[.string ByteArray.empty, .int .i64 23] else .tuple #[sv (frameR l), .int .i64 0]
def Framed (l : List UInt8) (w : World) (e : Ending) (w' : World) : Prop := e = .returned (frameV l) ∧ Below w.heap.size w w'
theorem frameV_ok {l : List UInt8} (h : l.length ≤ 65536) : frameV l = .tuple #[sv (frameR l), .int .i64 0] := by unfold frameV; rw [if_neg (by omega)]
theorem frameV_no {l : List UInt8} (h : ¬ l.length ≤ 65536) : frameV l = .tuple #[.string ByteArray.empty, .int .i64 23] := by unfold frameV; rw [if_pos (by omega)]

set_option maxRecDepth 100000 in
set_option maxHeartbeats 1000000 in
theorem frame_ok (l : List UInt8) (w : World) (hs : l.length ≤ 65536) : Calls Tryz.prog 134 #[sv l] w (Framed l w) := by
  have hc := crc_lt l
  have HS : Hid (∀ w, Calls Tryz.prog 150 #[sv l] w (SumB l w)) := Lib.hid fun w => sum_any ⟨l.toArray⟩ w (by rw [sz]; unfold maxLen; omega)
  have HL : Hid (∀ w, Calls Tryz.prog 137 #[.int .u64 (l.length : Int), .int .i64 4] w (Low l.length 4 w)) := Lib.hid fun w => low_any l.length 4 w (by omega) (by omega)
  have HC : Hid (∀ w, Calls Tryz.prog 137 #[.int .u64 (crc l : Nat), .int .i64 4] w (Low (crc l) 4 w)) := Lib.hid fun w => low_any _ 4 w (by omega) (by omega)
  have HV := Lib.hid (frameV_ok hs)
  obtain ⟨A, hA⟩ : ∃ A, low l.length 4 = A := ⟨_, rfl⟩
  obtain ⟨B, hB⟩ : ∃ B, low (crc l) 4 = B := ⟨_, rfl⟩
  obtain ⟨X, hX⟩ : ∃ X, A ++ B = X := ⟨_, rfl⟩
  obtain ⟨Y, hY⟩ : ∃ Y, X ++ l = Y := ⟨_, rfl⟩
  have hla : A.length = 4 := by rw [← hA, low_len]
  have hlb : B.length = 4 := by rw [← hB, low_len]
  have hcat1 : ∀ w0, (Op.stringOp .add ⟨A.toArray⟩ ⟨B.toArray⟩).run Tryz.prog w0 = .ok (.string ⟨X.toArray⟩) w0 := fun w0 => by rw [run_cat _ _ (by omega), hX]
  have hcat2 : ∀ w0, (Op.stringOp .add ⟨X.toArray⟩ ⟨l.toArray⟩).run Tryz.prog w0 = .ok (.string ⟨Y.toArray⟩) w0 := fun w0 => by rw [run_cat _ _ (by rw [← hX]; simp; omega), hY]
  have HF : Hid (frameR l = Y) := Lib.hid (by unfold frameR; rw [hA, hB, hX, hY])
  unfold Low at HL HC
  unfold SumB at HS
  rw [hA] at HL
  rw [hB] at HC
  clear hA hB hX hY hla hlb
  generalize crc l = c at *
  go_enter Tryz.func134, Tryz.ntmps134
  go_wp2_with (first | (go_at_call 137; first | ((with_reducible refine (HL.out _).mono ?_); rintro e w1 ⟨rfl, hb1⟩; have B1 := Lib.hid hb1; clear hb1) | ((with_reducible refine (HC.out _).mono ?_); rintro e w3 ⟨rfl, hb3⟩; have B3 := Lib.hid hb3; clear hb3)) | (go_at_call 150; refine (HS.out _).mono ?_; rintro e w2 ⟨rfl, hb2⟩; have B2 := Lib.hid hb2; clear hb2))
  go_ret2
  exact ⟨by rw [HV.out, HF.out]; rfl, B1.out.trans (B2.out.mono B1.out.size) |>.trans (B3.out.mono (Nat.le_trans B1.out.size B2.out.size))⟩
set_option maxRecDepth 100000 in
theorem frame_no (l : List UInt8) (w : World) (hm : l.length ≤ maxLen) (hs : ¬ l.length ≤ 65536) : Calls Tryz.prog 134 #[sv l] w (Framed l w) := by
  have HV := Lib.hid (frameV_no hs)
  unfold maxLen at hm
  have hg : 65536 < l.length := by omega
  clear hs
  go_enter Tryz.func134, Tryz.ntmps134
  go_wp2
  go_ret2
  exact ⟨by rw [HV.out]; rfl, Below.refl _ _⟩
theorem frame_any (l : List UInt8) (w : World) (hm : l.length ≤ maxLen) : Calls Tryz.prog 134 #[sv l] w (Framed l w) := by
  by_cases hs : l.length ≤ 65536
  · exact frame_ok l w hs
  · exact frame_no l w hm hs
end Go.Proofs.YtoaiofjcjjkfaaaGreatDoor
/- The document's frames; frames taken apart, both ways. -/
namespace Go.Proofs.YtoaiofjcjjkfaaaGreatDoor
open Go.RowKit Go.Maps
set_option linter.unusedVariables false

set_option maxRecDepth 100000 in
set_option maxHeartbeats 1000000 in
theorem rframe_ok (l : List UInt8) (w : World) (hs : l.length ≤ 65536) : Calls Tryz.prog 32 #[sv l] w (Framed l w) := by
  have hc := crc_lt l
  have HS : Hid (∀ w, Calls Tryz.prog 76 #[sv l] w fun e w' => e = .returned (.int .u32 (crc l : Nat)) ∧ w = w') := Lib.hid fun w => rsum_any ⟨l.toArray⟩ w (by rw [sz]; unfold maxLen; omega)
  have HL : Hid (∀ w, Calls Tryz.prog 38 #[.int .u64 (l.length : Int), .int .i64 4] w (Low l.length 4 w)) := Lib.hid fun w => Num_any l.length 4 w (by omega) (by omega)
  have HC : Hid (∀ w, Calls Tryz.prog 38 #[.int .u64 (crc l : Nat), .int .i64 4] w (Low (crc l) 4 w)) := Lib.hid fun w => Num_any _ 4 w (by omega) (by omega)
  have HV := Lib.hid (frameV_ok hs)
  obtain ⟨A, hA⟩ : ∃ A, low l.length 4 = A := ⟨_, rfl⟩
  obtain ⟨B, hB⟩ : ∃ B, low (crc l) 4 = B := ⟨_, rfl⟩
  obtain ⟨X, hX⟩ : ∃ X, A ++ B = X := ⟨_, rfl⟩
  obtain ⟨Y, hY⟩ : ∃ Y, X ++ l = Y := ⟨_, rfl⟩
  have hla : A.length = 4 := by rw [← hA, low_len]
  have hlb : B.length = 4 := by rw [← hB, low_len]
  have hcat1 : ∀ w0, (Op.stringOp .add ⟨A.toArray⟩ ⟨B.toArray⟩).run Tryz.prog w0 = .ok (.string ⟨X.toArray⟩) w0 := fun w0 => by rw [run_cat _ _ (by omega), hX]
  have hcat2 : ∀ w0, (Op.stringOp .add ⟨X.toArray⟩ ⟨l.toArray⟩).run Tryz.prog w0 = .ok (.string ⟨Y.toArray⟩) w0 := fun w0 => by rw [run_cat _ _ (by rw [← hX]; simp; omega), hY]
  have HF : Hid (frameR l = Y) := Lib.hid (by unfold frameR; rw [hA, hB, hX, hY])
  unfold Low at HL HC
  rw [hA] at HL
  rw [hB] at HC
  clear hA hB hX hY hla hlb
  generalize crc l = c at *
  go_enter Tryz.func32, Tryz.ntmps32
  go_wp2_with (first | (go_at_call 38; first | ((with_reducible refine (HL.out _).mono ?_); rintro e w1 ⟨rfl, hb1⟩; have B1 := Lib.hid hb1; clear hb1) | ((with_reducible refine (HC.out _).mono ?_); rintro e w3 ⟨rfl, hb3⟩; have B3 := Lib.hid hb3; clear hb3)) | (go_at_call 76; refine (HS.out _).mono ?_; rintro e w2 ⟨rfl, rfl⟩))
  go_ret2
  exact ⟨by rw [HV.out, HF.out]; rfl, B1.out.trans (B3.out.mono B1.out.size)⟩
set_option maxRecDepth 100000 in
theorem rframe_no (l : List UInt8) (w : World) (hm : l.length ≤ maxLen) (hs : ¬ l.length ≤ 65536) : Calls Tryz.prog 32 #[sv l] w (Framed l w) := by
  have HV := Lib.hid (frameV_no hs)
  unfold maxLen at hm
  have hg : 65536 < l.length := by omega
  clear hs
  go_enter Tryz.func32, Tryz.ntmps32
  go_wp2
  go_ret2
  exact ⟨by rw [HV.out]; rfl, Below.refl _ _⟩
theorem rframe_any (l : List UInt8) (w : World) (hm : l.length ≤ maxLen) : Calls Tryz.prog 32 #[sv l] w (Framed l w) := by
  by_cases hs : l.length ≤ 65536
  · exact rframe_ok l w hs
  · exact rframe_no l w hm hs

/-! ### frames taken apart -/
/-- body, how many bytes, the error -/
def unfR (l : List UInt8) : List UInt8 × Nat × Int :=
  if l.length < 8 then ([], 0, 20)
  else if num (l.take 4) > 65536 then ([], 0, 23)
  else if l.length < 8 + num (l.take 4) then ([], 0, 20)
  else if crc ((l.drop 8).take (num (l.take 4))) ≠ num ((l.drop 4).take 4) then ([], 0, 21)
  else ((l.drop 8).take (num (l.take 4)), 8 + num (l.take 4), 0)
def Unf (l : List UInt8) (w : World) (e : Ending) (w' : World) : Prop := e = .returned (.tuple #[sv (unfR l).1, .int .i64 ((unfR l).2.1 : Nat), .int .i64 (unfR l).2.2]) ∧ Below w.heap.size w w'
theorem ext_list (l : List UInt8) (a b : Nat) : (ByteArray.mk l.toArray).extract a b = ⟨((l.take b).drop a).toArray⟩ := by
  apply ByteArray.ext
  apply Array.ext'
  rw [ByteArray.data_extract, Array.toList_extract]
  simp [List.extract, List.drop_take]
set_option maxRecDepth 100000 in
theorem runf_short (l : List UInt8) (w : World) (hs : l.length < 8) : Calls Tryz.prog 47 #[sv l] w (Unf l w) := by
  have HV : Hid (unfR l = ([], 0, 20)) := Lib.hid (by unfold unfR; rw [if_pos hs])
  go_enter Tryz.func47, Tryz.ntmps47
  go_wp2
  exact bodyPost_ret (v := .tuple #[sv [], .int .i64 0, .int .i64 20]) (by simp [results, Tryz.results47, go_sem]) rfl ⟨by rw [HV.out]; rfl, Below.refl _ _⟩
theorem ext_size (l : List UInt8) (a b : Nat) : ((ByteArray.mk l.toArray).extract a b).size = ((l.take b).drop a).length := by rw [ext_list, sz]
theorem ext_data (l : List UInt8) (a b : Nat) : ((ByteArray.mk l.toArray).extract a b).data.toList = (l.take b).drop a := by rw [ext_list]
/-- What the walks need of a text of eight bytes at least. -/
theorem of_ext (l : List UInt8) (a b : Nat) (hab : b ≤ a + 4) (w : World) : Calls Tryz.prog 97 #[.string ((ByteArray.mk l.toArray).extract a b)] w fun e w' => e = .returned (.int .u64 (num ((l.take b).drop a) : Nat)) ∧ w = w' := by
  have h := of_any ((ByteArray.mk l.toArray).extract a b) w (by rw [ext_size]; simp; omega)
  rwa [ext_data] at h
theorem num4 (l : List UInt8) : num (l.take 4) < 4294967296 := by
  have h1 := num_lt (l.take 4)
  have h2 : 256 ^ (l.take 4).length ≤ 256 ^ 4 := Nat.pow_le_pow_right (by decide) (by simp; omega)
  omega
theorem num4' (l : List UInt8) : num ((l.drop 4).take 4) < 4294967296 := num4 _
theorem drop4 (l : List UInt8) : (l.take 8).drop 4 = (l.drop 4).take 4 := by rw [List.drop_take]

set_option maxRecDepth 100000 in
theorem runf_size (l : List UInt8) (w : World) (hm : l.length ≤ maxLen) (hs : 8 ≤ l.length) (hn : 65536 < num (l.take 4)) : Calls Tryz.prog 47 #[sv l] w (Unf l w) := by
  have HV : Hid (unfR l = ([], 0, 23)) := Lib.hid (by unfold unfR; rw [if_neg (by omega), if_pos hn])
  have H4 := Lib.hid (of_ext l 0 4 (by omega) w)
  rw [List.drop_zero] at H4
  have hb := num4 l
  generalize num (l.take 4) = n at *
  unfold maxLen at hm
  go_enter Tryz.func47, Tryz.ntmps47
  go_wp2_with (go_at_call 97; refine H4.out.mono ?_; rintro e w' ⟨rfl, rfl⟩)
  exact bodyPost_ret (v := .tuple #[sv [], .int .i64 0, .int .i64 23]) (by simp [results, Tryz.results47, go_sem]) rfl ⟨by rw [HV.out]; rfl, Below.refl _ _⟩
set_option maxRecDepth 100000 in
theorem runf_cut (l : List UInt8) (w : World) (hm : l.length ≤ maxLen) (hs : 8 ≤ l.length) (hn : num (l.take 4) ≤ 65536) (hc : l.length < 8 + num (l.take 4)) : Calls Tryz.prog 47 #[sv l] w (Unf l w) := by
  have HV : Hid (unfR l = ([], 0, 20)) := Lib.hid (by unfold unfR; rw [if_neg (by omega), if_neg (by omega), if_pos hc])
  have H4 := Lib.hid (of_ext l 0 4 (by omega) w)
  rw [List.drop_zero] at H4
  generalize num (l.take 4) = n at *
  unfold maxLen at hm
  go_enter Tryz.func47, Tryz.ntmps47
  go_wp2_with (go_at_call 97; refine H4.out.mono ?_; rintro e w' ⟨rfl, rfl⟩)
  exact bodyPost_ret (v := .tuple #[sv [], .int .i64 0, .int .i64 20]) (by simp [results, Tryz.results47, go_sem]) rfl ⟨by rw [HV.out]; rfl, Below.refl _ _⟩
set_option maxRecDepth 100000 in
set_option maxHeartbeats 1000000 in
theorem runf_full (l : List UInt8) (w : World) (hm : l.length ≤ maxLen) (hs : 8 ≤ l.length) (hn : num (l.take 4) ≤ 65536) (hc : ¬ l.length < 8 + num (l.take 4)) : Calls Tryz.prog 47 #[sv l] w (Unf l w) := by
  have H4 := Lib.hid (of_ext l 0 4 (by omega) w)
  rw [List.drop_zero] at H4
  have HC : Hid (∀ w, Calls Tryz.prog 97 #[.string ((ByteArray.mk l.toArray).extract 4 8)] w fun e w' => e = .returned (.int .u64 (num ((l.take 8).drop 4) : Nat)) ∧ w = w') := Lib.hid fun w => of_ext l 4 8 (by omega) w
  have HS : Hid (∀ w, Calls Tryz.prog 76 #[.string ((ByteArray.mk l.toArray).extract 8 (8 + num (l.take 4)))] w fun e w' => e = .returned (.int .u32 (crc ((l.drop 8).take (num (l.take 4))) : Nat)) ∧ w = w') := Lib.hid fun w => by
    have h := rsum_any ((ByteArray.mk l.toArray).extract 8 (8 + num (l.take 4))) w (by rw [ext_size]; unfold maxLen; simp; omega)
    rwa [ext_data, List.drop_take, Nat.add_sub_cancel_left] at h
  rw [drop4] at HC
  have hk := num4' l
  have hcl := crc_lt ((l.drop 8).take (num (l.take 4)))
  have HX : Hid ((ByteArray.mk l.toArray).extract 8 (8 + num (l.take 4)) = ⟨((l.drop 8).take (num (l.take 4))).toArray⟩) := Lib.hid (by rw [ext_list, List.drop_take, Nat.add_sub_cancel_left])
  have HU : Hid (unfR l = if crc ((l.drop 8).take (num (l.take 4))) ≠ num ((l.drop 4).take 4) then ([], 0, 21) else ((l.drop 8).take (num (l.take 4)), 8 + num (l.take 4), 0)) := Lib.hid (by unfold unfR; rw [if_neg (by omega), if_neg (by omega), if_neg hc])
  generalize crc ((l.drop 8).take (num (l.take 4))) = c at *
  generalize num ((l.drop 4).take 4) = d at *
  generalize (l.drop 8).take (num (l.take 4)) = B at *
  generalize num (l.take 4) = n at *
  unfold maxLen at hm
  by_cases he : c = d
  · have HV : Hid (unfR l = (B, 8 + n, 0)) := Lib.hid (by rw [HU.out, if_neg (by simpa using he)])
    subst he
    clear HU
    go_enter Tryz.func47, Tryz.ntmps47
    go_wp2_with (go_at_call 97; refine H4.out.mono ?_; rintro e w' ⟨rfl, rfl⟩)
    go_quiet ((first | (go_at_call 76; exact Calls.quiet_of_same ((HS.out _).mono fun _ _ h => ⟨h.1, h.2.symm⟩)) | (go_at_call 97; exact Calls.quiet_of_same ((HC.out _).mono fun _ _ h => ⟨h.1, h.2.symm⟩))))
    go_wp2
    exact bodyPost_ret (v := .tuple #[.string ((ByteArray.mk l.toArray).extract 8 (8 + n)), .int .i64 (8 + (n : Int)), .int .i64 0]) (by simp [results, Tryz.results47, go_sem]) rfl ⟨by rw [HV.out, HX.out]; rfl, Fr.below ((Fr.refl _ w).drewN nq)⟩
  · have HV : Hid (unfR l = ([], 0, 21)) := Lib.hid (by rw [HU.out, if_pos he])
    have h1 : ((c : Int) == (d : Int)) = false := by simpa using (fun h => he (by omega) : ¬ (c : Int) = d)
    have h2 : ((c : Int) != (d : Int)) = true := by simpa using (fun h => he (by omega) : ¬ (c : Int) = d)
    clear HU he
    go_enter Tryz.func47, Tryz.ntmps47
    go_wp2_with (go_at_call 97; refine H4.out.mono ?_; rintro e w' ⟨rfl, rfl⟩)
    go_quiet ((first | (go_at_call 76; exact Calls.quiet_of_same ((HS.out _).mono fun _ _ h => ⟨h.1, h.2.symm⟩)) | (go_at_call 97; exact Calls.quiet_of_same ((HC.out _).mono fun _ _ h => ⟨h.1, h.2.symm⟩))))
    go_wp2
    exact bodyPost_ret (v := .tuple #[sv [], .int .i64 0, .int .i64 21]) (by simp [results, Tryz.results47, go_sem]) rfl ⟨by rw [HV.out]; rfl, Fr.below ((Fr.refl _ w).drewN nq)⟩
theorem runf_any (l : List UInt8) (w : World) (hm : l.length ≤ maxLen) : Calls Tryz.prog 47 #[sv l] w (Unf l w) := by
  by_cases h1 : l.length < 8
  · exact runf_short l w h1
  by_cases h2 : num (l.take 4) ≤ 65536
  · by_cases h3 : l.length < 8 + num (l.take 4)
    · exact runf_cut l w hm (by omega) h2 h3
    · exact runf_full l w hm (by omega) h2 h3
  · exact runf_size l w hm (by omega) (by omega)

/-! ### the landed Unframe -/
set_option maxRecDepth 100000 in
theorem unf_short (l : List UInt8) (w : World) (hs : l.length < 8) : Calls Tryz.prog 86 #[sv l] w (Unf l w) := by
  have HV : Hid (unfR l = ([], 0, 20)) := Lib.hid (by unfold unfR; rw [if_pos hs])
  go_enter Tryz.func86, Tryz.ntmps86
  go_wp2
  exact bodyPost_ret (v := .tuple #[sv [], .int .i64 0, .int .i64 20]) (by simp [results, Tryz.results86, go_sem]) rfl ⟨by rw [HV.out]; rfl, Below.refl _ _⟩
theorem num_ext (l : List UInt8) (a b : Nat) (hab : b ≤ a + 4) (w : World) : Calls Tryz.prog 92 #[.string ((ByteArray.mk l.toArray).extract a b)] w fun e w' => e = .returned (.int .u64 (num ((l.take b).drop a) : Nat)) ∧ w' = w := by
  have h := number_any ((ByteArray.mk l.toArray).extract a b) w (by rw [ext_size]; simp; omega)
  rw [ext_data] at h
  exact h.mono fun _ _ h => ⟨h.1, h.2.symm⟩
set_option maxRecDepth 100000 in
set_option maxHeartbeats 1000000 in
theorem unf_long (l : List UInt8) (w : World) (hm : l.length ≤ maxLen) (hs : 8 ≤ l.length) : Calls Tryz.prog 86 #[sv l] w (Unf l w) := by
  have H4 : Hid (∀ w, Calls Tryz.prog 92 #[.string ((ByteArray.mk l.toArray).extract 0 4)] w fun e w' => e = .returned (.int .u64 (num ((l.take 4).drop 0) : Nat)) ∧ w' = w) := Lib.hid fun w => num_ext l 0 4 (by omega) w
  have HC : Hid (∀ w, Calls Tryz.prog 92 #[.string ((ByteArray.mk l.toArray).extract 4 8)] w fun e w' => e = .returned (.int .u64 (num ((l.take 8).drop 4) : Nat)) ∧ w' = w) := Lib.hid fun w => num_ext l 4 8 (by omega) w
  rw [List.drop_zero] at H4
  rw [drop4] at HC
  have hb := num4 l
  have HU : Hid (unfR l = if num (l.take 4) > 65536 then ([], 0, 23) else if l.length < 8 + num (l.take 4) then ([], 0, 20) else if crc ((l.drop 8).take (num (l.take 4))) ≠ num ((l.drop 4).take 4) then ([], 0, 21) else ((l.drop 8).take (num (l.take 4)), 8 + num (l.take 4), 0)) := Lib.hid (by unfold unfR; rw [if_neg (by omega)])
  have hk := num4' l
  obtain ⟨n, hn⟩ : ∃ n, num (l.take 4) = n := ⟨_, rfl⟩
  obtain ⟨d, hd⟩ : ∃ d, num ((l.drop 4).take 4) = d := ⟨_, rfl⟩
  rw [hn] at H4 hb HU
  rw [hd] at HC HU hk
  have hrest : (ByteArray.mk l.toArray).extract 8 l.length = ⟨(l.drop 8).toArray⟩ := by rw [ext_list, List.take_length]
  clear hn hd
  unfold maxLen at hm
  go_enter Tryz.func86, Tryz.ntmps86
  go_wp2
  go_quiet ((first | (go_at_call 92; with_reducible exact Calls.quiet_of_same (H4.out _)) | (go_at_call 92; with_reducible exact Calls.quiet_of_same (HC.out _))))
  have hf : Fr No w (w.drewN nq) := (Fr.refl _ w).drewN nq
  obtain ⟨w1, hw1⟩ : ∃ w1, w.drewN nq = w1 := ⟨_, rfl⟩
  rw [hw1] at hf ⊢
  have HF := Lib.hid hf.below
  clear hw1 hf H4 HC hrest hb
  have hlen : (l.drop 8).length = l.length - 8 := by simp
  by_cases h2 : 65536 < n
  · have HV : Hid (unfR l = ([], 0, 23)) := Lib.hid (by rw [HU.out, if_pos h2])
    clear HU hk hlen
    go_wp2
    exact bodyPost_ret (v := .tuple #[sv [], .int .i64 0, .int .i64 23]) (by simp [results, Tryz.results86, go_sem]) rfl ⟨by rw [HV.out]; rfl, HF.out⟩
  by_cases h3 : l.length < 8 + n
  · have HV : Hid (unfR l = ([], 0, 20)) := Lib.hid (by rw [HU.out, if_neg h2, if_pos h3])
    have h3' : (l.drop 8).length < n := by omega
    have hb8 : (l.drop 8).length ≤ 9223372036854775807 := by omega
    clear HU hk hlen
    generalize l.drop 8 = R at *
    go_wp2
    exact bodyPost_ret (v := .tuple #[sv [], .int .i64 0, .int .i64 20]) (by simp [results, Tryz.results86, go_sem]) rfl ⟨by rw [HV.out]; rfl, HF.out⟩
  have hbody : (ByteArray.mk (l.drop 8).toArray).extract 0 n = ⟨((l.drop 8).take n).toArray⟩ := by rw [ext_list, List.drop_zero]
  have h3' : n ≤ (l.drop 8).length := by omega
  have hb8 : (l.drop 8).length ≤ 9223372036854775807 := by omega
  have hlb : ((l.drop 8).take n).length = n := by rw [List.length_take]; omega
  have HS : Hid (∀ w, Calls Tryz.prog 150 #[sv ((l.drop 8).take n)] w fun e w' => e = .returned (.int .u32 (crc ((l.drop 8).take n) : Nat)) ∧ Below w.heap.size w w') := Lib.hid fun w => sum_any ⟨((l.drop 8).take n).toArray⟩ w (by rw [sz, hlb]; unfold maxLen; omega)
  have hcl := crc_lt ((l.drop 8).take n)
  rw [if_neg h2, if_neg h3] at HU
  generalize crc ((l.drop 8).take n) = c at *
  generalize (l.drop 8).take n = B at *
  generalize l.drop 8 = R at *
  have h2' : n ≤ 65536 := by omega
  clear hlen h2 h3
  by_cases he : c = d
  · have HV : Hid (unfR l = (B, 8 + n, 0)) := Lib.hid (by rw [HU.out, if_neg (by simpa using he)])
    have HLB := Lib.hid hlb
    have hlB : B.length ≤ 65536 := by omega
    subst he
    clear HU hlb
    go_wp2_with (go_at_call 150; refine (HS.out _).mono ?_; rintro e w2 ⟨rfl, hb2⟩; have B2 := Lib.hid hb2; clear hb2)
    exact bodyPost_ret (v := .tuple #[sv B, .int .i64 (8 + (B.length : Int)), .int .i64 0]) (by simp [results, Tryz.results86, go_sem]) rfl ⟨by rw [HV.out, HLB.out]; rfl, HF.out.trans (B2.out.mono HF.out.size)⟩
  · have HV : Hid (unfR l = ([], 0, 21)) := Lib.hid (by rw [HU.out, if_pos he])
    have h1 : ((c : Int) == (d : Int)) = false := by simpa using (fun h => he (by omega) : ¬ (c : Int) = d)
    have h2 : ((c : Int) != (d : Int)) = true := by simpa using (fun h => he (by omega) : ¬ (c : Int) = d)
    clear HU he hlb
    go_wp2_with (go_at_call 150; refine (HS.out _).mono ?_; rintro e w2 ⟨rfl, hb2⟩; have B2 := Lib.hid hb2; clear hb2)
    exact bodyPost_ret (v := .tuple #[sv [], .int .i64 0, .int .i64 21]) (by simp [results, Tryz.results86, go_sem]) rfl ⟨by rw [HV.out]; rfl, HF.out.trans (B2.out.mono HF.out.size)⟩
theorem unf_any (l : List UInt8) (w : World) (hm : l.length ≤ maxLen) : Calls Tryz.prog 86 #[sv l] w (Unf l w) := by
  by_cases h1 : l.length < 8
  · exact unf_short l w h1
  · exact unf_long l w hm (by omega)
end Go.Proofs.YtoaiofjcjjkfaaaGreatDoor
/- A writer in memory, nil too: stopped, fail, lay, Done. -/
namespace Go.Proofs.YtoaiofjcjjkfaaaGreatDoor
open Go.RowKit Go.Maps
set_option linter.unusedVariables false

/-- A writer: what was laid down, what was first wrong. -/
structure WS where
  data : List UInt8
  fault : Int
def WS.zero : WS := ⟨[], 0⟩
/-- as of a nil one nothing comes -/
def WS.none : WS := ⟨[], 1⟩
def WS.fail (S : WS) (e : Int) : WS := if S.fault = 0 then ⟨[], e⟩ else S
def WS.lay (S : WS) (m : List UInt8) : WS := if S.fault = 0 then (if m.length + S.data.length > 65536 then ⟨[], 23⟩ else ⟨S.data ++ m, 0⟩) else S

/-- a writer's pointer -/
def wpt (p : Option Nat) : Value := .pointer (p.map fun g => ⟨g, 0, Option.none⟩)
theorem wpt_some (g : Nat) : wpt (some g) = .pointer (some ⟨g, 0, Option.none⟩) := rfl
/-- How it lies: v is its row. -/
structure WAt (w : World) (p : Option Nat) (v : Value) (S : WS) : Prop where
  blk : ∀ g, p = some g → Blk w g 78 #[v, .int .i64 S.fault]
  row : RowB w v S.data
  nil : p = none → S = WS.none ∧ v = .slice none 0 0
  len : S.data.length ≤ 65536
/-- the blocks that are its own -/
def WFt (p : Option Nat) (v : Value) (k : Nat) : Prop := p = some k ∨ v.ownBlock = some k
/-- What a call may do beside it: nothing. -/
structure WL (p : Option Nat) (v : Value) (w : World) (v' : Value) (w' : World) : Prop where
  fr : Fr (WFt p v) w w'
  own : ∀ k, v'.ownBlock = some k → v.ownBlock = some k ∨ w.heap.size ≤ k

theorem WL.refl (p : Option Nat) (v : Value) (w : World) : WL p v w v w := ⟨Fr.refl _ _, fun _ h => .inl h⟩
theorem WL.trans {p : Option Nat} {v v1 v2 : Value} {w w1 w2 : World} (h : WL p v w v1 w1) (k : WL p v1 w1 v2 w2) : WL p v w v2 w2 :=
  ⟨h.fr.trans k.fr fun j hj hf => by
      rcases hf with e | e
      · exact .inl e
      · rcases h.own j e with e' | e'
        · exact .inr e'
        · omega,
   fun j hj => by
      rcases k.own j hj with e | e
      · exact h.own j e
      · exact .inr (Nat.le_trans h.fr.size e)⟩
theorem WL.below {p : Option Nat} {v : Value} {w w' : World} (h : Below w.heap.size w w') : WL p v w v w' := ⟨(Fr.of_below h).any, fun _ h => .inl h⟩
theorem WL.alloc {p : Option Nat} {v v' : Value} {w w' : World} (h : WL p v w v' w') (o : Obj) : WL p v w v' (w'.alloc o) := ⟨h.fr.alloc o, h.own⟩
theorem WL.alloc0 (p : Option Nat) (v : Value) (w : World) (o : Obj) : WL p v w v (w.alloc o) := (WL.refl p v w).alloc o
theorem WL.drewN {p : Option Nat} {v v' : Value} {w w' : World} (h : WL p v w v' w') (n : Nat) : WL p v w v' (w'.drewN n) := ⟨h.fr.drewN n, h.own⟩

theorem WAt.of {w w' : World} {p : Option Nat} {v : Value} {S : WS} (h : WAt w p v S) (hk : ∀ k, WFt p v k → w'.heap[k]? = w.heap[k]?) : WAt w' p v S :=
  ⟨fun g e => (h.blk g e).of (hk g (.inl e)), h.row.of fun k e => hk k (.inr e), h.nil, h.len⟩
theorem WAt.lt {w : World} {p : Option Nat} {v : Value} {S : WS} (h : WAt w p v S) : ∀ k, WFt p v k → k < w.heap.size := by
  rintro k (e | e)
  · exact (h.blk k e).lt
  · exact h.row.lt e
theorem WAt.below {w w' : World} {p : Option Nat} {v : Value} {S : WS} (h : WAt w p v S) (hb : Below w.heap.size w w') : WAt w' p v S := h.of fun k hk => hb.block k (h.lt k hk)
theorem WAt.keep {w w' : World} {p : Option Nat} {v : Value} {S : WS} (h : WAt w p v S) (hb : Fr No w w') : WAt w' p v S := h.of fun k hk => hb.block k (h.lt k hk) id
theorem WAt.alloc {w : World} {p : Option Nat} {v : Value} {S : WS} (h : WAt w p v S) (o : Obj) : WAt (w.alloc o) p v S := h.keep ((Fr.refl _ w).alloc o)
theorem WAt.new (w : World) : WAt (w.alloc (.cells #[.slice none 0 0, .int .i64 0] 78)) (some w.heap.size) (.slice none 0 0) WS.zero :=
  ⟨fun g e => by injection e with e; subst e; exact Blk.new w 78 _, RowB.nil _, fun e => (by cases e), by simp [WS.zero]⟩
theorem WAt.nilw (w : World) : WAt w none (.slice none 0 0) WS.none := ⟨fun g e => (by cases e), RowB.nil _, fun _ => ⟨rfl, rfl⟩, by simp [WS.none]⟩

/-- A call of a writer. -/
def WP (p : Option Nat) (v : Value) (w : World) (S' : WS) (e : Ending) (w' : World) : Prop := e = .returned (.tuple #[]) ∧ ∃ v', WAt w' p v' S' ∧ WL p v w v' w'

/-! ### stopped -/
theorem wstop_any (p : Option Nat) (v : Value) (S : WS) (w : World) (h : WAt w p v S) :
    Calls Tryz.prog 140 #[wpt p] w fun e w' => e = .returned (.bool (S.fault != 0)) ∧ w = w' := by
  cases p with
  | none =>
    obtain ⟨rfl, _⟩ := h.nil rfl
    unfold wpt
    go_enter Tryz.func140, Tryz.ntmps140
    go_wp2
    go_ret
    exact ⟨rfl, rfl⟩
  | some g =>
    have c1 : w.cell? ⟨g, 1, none⟩ = some (.int .i64 S.fault) := (h.blk g rfl).cell 1
    clear h
    rw [wpt_some]
    go_enter Tryz.func140, Tryz.ntmps140
    go_wp2
    go_ret
    exact ⟨rfl, rfl⟩
theorem wstop_no (p : Option Nat) (v : Value) (S : WS) (w : World) (h : WAt w p v S) (h0 : S.fault = 0) : Calls Tryz.prog 140 #[wpt p] w fun e w' => e = .returned (.bool false) ∧ w = w' := by
  have := wstop_any p v S w h
  rwa [h0] at this
theorem wstop_yes (p : Option Nat) (v : Value) (S : WS) (w : World) (h : WAt w p v S) (h0 : S.fault ≠ 0) : Calls Tryz.prog 140 #[wpt p] w fun e w' => e = .returned (.bool true) ∧ w = w' := by
  have := wstop_any p v S w h
  rwa [show (S.fault != 0) = true by simpa using h0] at this

/-! ### fail -/
theorem wfail_any (p : Option Nat) (v : Value) (S : WS) (n : Int) (w : World) (h : WAt w p v S) : Calls Tryz.prog 139 #[wpt p, .int .i64 n] w (WP p v w (S.fail n)) := by
  have hnot : ∀ (x : Bool) (w : World), (Op.unary .not (.bool x)).run Tryz.prog w = .ok (.bool (!x)) w := fun _ _ => rfl
  by_cases h0 : S.fault = 0
  · have HS := Lib.hid (wstop_no p v S w h h0)
    have HV : Hid (S.fail n = ⟨[], n⟩) := Lib.hid (by unfold WS.fail; rw [if_pos h0])
    obtain ⟨g, rfl⟩ : ∃ g, p = some g := by
      cases p with
      | none => obtain ⟨rfl, _⟩ := h.nil rfl; cases h0
      | some g => exact ⟨g, rfl⟩
    have hb := h.blk g rfl
    have c0 : w.cell? ⟨g, 0, none⟩ = some v := hb.cell 0
    have c1 : w.cell? ⟨g, 1, none⟩ = some (.int .i64 S.fault) := hb.cell 1
    have f0 := hb.frozen 0
    have f1 := hb.frozen 1
    have HB := Lib.hid hb
    clear h hb h0
    rw [wpt_some] at HS ⊢
    go_enter Tryz.func139, Tryz.ntmps139
    go_wp2_with (go_at_call 140; refine HS.out.mono ?_; rintro e w' ⟨rfl, rfl⟩)
    go_end0
    refine ⟨rfl, .slice none 0 0, ?_, ?_⟩
    · rw [HV.out]
      exact ⟨fun k e => by injection e with e; subst e; exact (HB.out.set_ 0 _).set_ 1 _, RowB.nil _, fun e => by (cases e), by simp⟩
    · exact ⟨((Fr.refl _ w).setCell (p := ⟨g, 0, none⟩) (fun _ => .inl rfl) _).setCell (p := ⟨g, 1, none⟩) (fun _ => .inl rfl) _, fun k e => by simp [Value.ownBlock] at e⟩
  · have HS := Lib.hid (wstop_yes p v S w h h0)
    have HV : Hid (S.fail n = S) := Lib.hid (by unfold WS.fail; rw [if_neg h0])
    have H := Lib.hid h
    clear h h0
    generalize wpt p = P at *
    go_enter Tryz.func139, Tryz.ntmps139
    go_wp2_with (go_at_call 140; refine HS.out.mono ?_; rintro e w' ⟨rfl, rfl⟩)
    go_end0
    exact ⟨rfl, v, by rw [HV.out]; exact H.out, WL.refl _ _ _⟩

/-! ### lay -/
theorem lay_no (p : Option Nat) (v : Value) (S : WS) (m : List UInt8) (w : World) (h : WAt w p v S) (h0 : S.fault ≠ 0) : Calls Tryz.prog 136 #[wpt p, sv m] w (WP p v w (S.lay m)) := by
  have HS := Lib.hid (wstop_yes p v S w h h0)
  have HV : Hid (S.lay m = S) := Lib.hid (by unfold WS.lay; rw [if_neg h0])
  have H := Lib.hid h
  clear h h0
  generalize wpt p = P at *
  go_enter Tryz.func136, Tryz.ntmps136
  go_wp2_with (go_at_call 140; refine HS.out.mono ?_; rintro e w' ⟨rfl, rfl⟩)
  go_end0
  exact ⟨rfl, v, by rw [HV.out]; exact H.out, WL.refl _ _ _⟩

set_option maxHeartbeats 400000 in
theorem lay_full (g : Nat) (v : Value) (S : WS) (m : List UInt8) (w : World) (h : WAt w (some g) v S) (h0 : S.fault = 0) (hm : m.length ≤ maxLen) (hf : 65536 < m.length + S.data.length) : Calls Tryz.prog 136 #[wpt (some g), sv m] w (WP (some g) v w (S.lay m)) := by
  have HS := Lib.hid (wstop_no _ v S w h h0)
  have HV : Hid (S.lay m = S.fail 23) := Lib.hid (by unfold WS.lay WS.fail; rw [if_pos h0, if_pos h0, if_pos (by omega)])
  have HF := Lib.hid (wfail_any _ v S 23 w h)
  have hl := h.len
  obtain ⟨A, c, rfl⟩ := h.row.len
  have c0 : w.cell? ⟨g, 0, none⟩ = some (.slice A S.data.length c) := (h.blk g rfl).cell 0
  clear h h0
  unfold maxLen at hm
  rw [wpt_some] at HS HF ⊢
  generalize S.data.length = n at *
  go_enter Tryz.func136, Tryz.ntmps136
  go_wp2_with (first | (go_at_call 140; refine HS.out.mono ?_; rintro e w' ⟨rfl, rfl⟩) | (go_at_call 139; refine HF.out.mono ?_; rintro e w' ⟨rfl, v', h1, h2⟩))
  go_end0
  exact ⟨rfl, v', by rw [HV.out]; exact h1, h2⟩
set_option maxHeartbeats 400000 in
theorem lay_ok (g : Nat) (v : Value) (S : WS) (m : List UInt8) (w : World) (h : WAt w (some g) v S) (h0 : S.fault = 0) (hf : m.length + S.data.length ≤ 65536) : Calls Tryz.prog 136 #[wpt (some g), sv m] w (WP (some g) v w (S.lay m)) := by
  have HS := Lib.hid (wstop_no _ v S w h h0)
  have HV : Hid (S.lay m = ⟨S.data ++ m, 0⟩) := Lib.hid (by unfold WS.lay; rw [if_pos h0, if_neg (by omega)])
  obtain ⟨v', w', hr, hrow, hgr, hown⟩ := h.row.run_put m 0 (by omega)
  obtain ⟨A', c', rfl⟩ := hrow.len
  have hb := h.blk g rfl
  have hne : ∀ k, v.ownBlock = some k → k ≠ g := by
    rintro k hk rfl
    obtain ⟨cur, hc⟩ := h.row.block hk
    exact Blk.ne_ (w := w) (t := 5) hc hb (by decide) rfl
  have hb' : Blk w' g 78 #[v, .int .i64 S.fault] := hb.of (hgr.block g hb.lt fun e => hne g e.symm rfl)
  have hfr : Fr (WFt (some g) v) w w' := (Fr.refl _ w).grown hgr fun k hk _ => .inr hk
  have hrow' : RowB (w'.setCell ⟨g, 0, none⟩ (.slice A' (S.data ++ m).length c')) (.slice A' (S.data ++ m).length c') (S.data ++ m) := hrow.of fun k hk => Below.heap_setCell w' ⟨g, 0, none⟩ (.slice A' (S.data ++ m).length c') k (by
    rcases hown k hk with e | e
    · exact hne k e
    · intro e2
      have e3 : k = g := e2
      have := hb.lt; omega)
  have hb0 : Blk (w'.setCell ⟨g, 0, none⟩ (.slice A' (S.data ++ m).length c')) g 78 #[.slice A' (S.data ++ m).length c', .int .i64 0] := by have := hb'.set_ 0 (.slice A' (S.data ++ m).length c'); rw [h0] at this; exact this
  have hle : (S.data ++ m).length ≤ 65536 := by rw [List.length_append]; omega
  obtain ⟨w2, hw2⟩ : ∃ w2, w'.setCell ⟨g, 0, none⟩ (.slice A' (S.data ++ m).length c') = w2 := ⟨_, rfl⟩
  have hfr2 : Fr (WFt (some g) v) w w2 := by rw [← hw2]; exact hfr.setCell (p := ⟨g, 0, none⟩) (fun _ => .inl rfl) _
  rw [hw2] at hrow' hb0
  have hwat : WAt w2 (some g) (.slice A' (S.data ++ m).length c') ⟨S.data ++ m, 0⟩ := by
    refine ⟨?_, ?_, ?_, ?_⟩
    · intro k e
      obtain rfl : g = k := Option.some.inj e
      exact hb0
    · exact hrow'
    · intro e; cases e
    · exact hle
  have H1 := Lib.hid hwat
  have H2 : Hid (WL (some g) v w (.slice A' (S.data ++ m).length c') w2) := Lib.hid ⟨hfr2, hown⟩
  have HW := Lib.hid hw2
  have hl := h.len
  obtain ⟨A, c, rfl⟩ := h.row.len
  have HR : Hid (∀ ty, (Builtin.append_ #[65, 9] ty #[.slice A S.data.length c, .string ⟨m.toArray⟩]).run Tryz.prog w = .ok (.slice A' (S.data ++ m).length c') w') := Lib.hid fun ty => hr
  have c0 : w.cell? ⟨g, 0, none⟩ = some (.slice A S.data.length c) := hb.cell 0
  have d0 : w'.cell? ⟨g, 0, none⟩ = some (.slice A S.data.length c) := hb'.cell 0
  have z0 := hb'.frozen 0
  clear h h0 hr hrow hgr hown hb hne hb' hfr hrow' hb0 hle hfr2 hw2 hwat
  rw [wpt_some] at HS ⊢
  generalize S.data.length = n at *
  generalize (S.data ++ m).length = n' at *
  go_enter Tryz.func136, Tryz.ntmps136
  go_wp2_with (first | (go_at_call 140; refine HS.out.mono ?_; rintro e w' ⟨rfl, rfl⟩) | (at_builtin; refine wpList_add rfl _ _ _ _ rfl _ _ _ _ rfl rfl (HR.out _) ?_; clear c0))
  go_end0
  exact ⟨rfl, _, by rw [HV.out, HW.out]; exact H1.out, by rw [HW.out]; exact H2.out⟩
theorem wlay_any (p : Option Nat) (v : Value) (S : WS) (m : List UInt8) (w : World) (h : WAt w p v S) (hm : m.length ≤ maxLen) : Calls Tryz.prog 136 #[wpt p, sv m] w (WP p v w (S.lay m)) := by
  by_cases h0 : S.fault = 0
  · obtain ⟨g, rfl⟩ : ∃ g, p = some g := by
      cases p with
      | none => obtain ⟨rfl, _⟩ := h.nil rfl; cases h0
      | some g => exact ⟨g, rfl⟩
    by_cases hf : m.length + S.data.length ≤ 65536
    · exact lay_ok g v S m w h h0 hf
    · exact lay_full g v S m w h h0 hm (by omega)
  · exact lay_no p v S m w h h0

/-! ### Done -/
def WDone (S : WS) (w : World) (e : Ending) (w' : World) : Prop := e = .returned (.tuple #[sv S.data, .int .i64 S.fault]) ∧ Fr No w w'
set_option maxHeartbeats 400000 in
theorem wdone_any (p : Option Nat) (v : Value) (S : WS) (w : World) (h : WAt w p v S) : Calls Tryz.prog 133 #[wpt p] w (WDone S w) := by
  cases p with
  | none =>
    obtain ⟨rfl, _⟩ := h.nil rfl
    unfold wpt
    go_enter Tryz.func133, Tryz.ntmps133
    go_wp2
    go_ret2
    exact ⟨rfl, Fr.refl _ _⟩
  | some g =>
    have hb := h.blk g rfl
    have c0 : w.cell? ⟨g, 0, none⟩ = some v := hb.cell 0
    have c1 : w.cell? ⟨g, 1, none⟩ = some (.int .i64 S.fault) := hb.cell 1
    have hcv : ∀ n, (convert 65 9 v).run Tryz.prog (w.drewN n) = .ok (sv S.data) (w.drewN n) := fun n => (h.row.of (w' := w.drewN n) fun _ _ => rfl).run_conv
    clear h hb
    rw [wpt_some]
    go_enter Tryz.func133, Tryz.ntmps133
    go_wp2
    go_quiet (fail)
    go_wp2
    go_ret2
    exact ⟨rfl, (Fr.refl _ w).drewN nq⟩
end Go.Proofs.YtoaiofjcjjkfaaaGreatDoor
/- A writer lays down bytes, numbers, counts, texts, cells. -/
namespace Go.Proofs.YtoaiofjcjjkfaaaGreatDoor
open Go.RowKit Go.Maps
set_option linter.unusedVariables false

/-- an int64's eight bytes -/
def enc8 (n : Int) : List UInt8 := low (n % 18446744073709551616).toNat 8
def WS.int (S : WS) (n : Int) : WS := S.lay (enc8 n)
def WS.byte (S : WS) (b : Nat) : WS := S.lay (low b 1)
def WS.count (S : WS) (n : Int) : WS := if n < 0 ∨ n > 4294967295 then S.fail 1 else S.lay (low n.toNat 4)
def WS.text (S : WS) (m : List UInt8) : WS := (S.count m.length).lay m

theorem WP.then {p : Option Nat} {v v1 : Value} {w w1 : World} {S' : WS} {e : Ending} {w' : World} (h : WL p v w v1 w1) (k : WP p v1 w1 S' e w') : WP p v w S' e w' := by
  obtain ⟨he, v', h1, h2⟩ := k
  exact ⟨he, v', h1, h.trans h2⟩
theorem low_max (n k : Nat) (hk : k ≤ 8) : (low n k).length ≤ maxLen := by rw [low_len]; unfold maxLen; omega

set_option maxHeartbeats 400000 in
theorem wint_any (p : Option Nat) (v : Value) (S : WS) (n : Int) (w : World) (h : WAt w p v S) : Calls Tryz.prog 79 #[wpt p, .int .i64 n] w (WP p v w (S.int n)) := by
  have hk : IntKind.u64.wrap n = (((n % 18446744073709551616).toNat : Nat) : Int) := by rw [IntKind.wrap_u64]; omega
  have HL := Lib.hid (low_any (n % 18446744073709551616).toNat 8 w (by omega) (by omega))
  have H := Lib.hid h
  have HV : Hid (S.int n = S.lay (low (n % 18446744073709551616).toNat 8)) := Lib.hid rfl
  clear h
  generalize (n % 18446744073709551616).toNat = k at *
  generalize hP : wpt p = P at *
  have HP := Lib.hid hP
  clear hP
  go_enter Tryz.func79, Tryz.ntmps79
  go_wp2_with (first
    | (go_at_call 137; refine HL.out.mono ?_; rintro e w1 ⟨rfl, hb1⟩; have B1 := Lib.hid hb1; clear hb1)
    | (go_at_call 136; rw [← HP.out]; refine (wlay_any p v S (low k 8) _ (H.out.below B1.out) (low_max _ _ (by omega))).mono ?_; rintro e w2 ⟨rfl, v', h1, h2⟩))
  go_end0
  exact ⟨rfl, v', by rw [HV.out]; exact h1, (WL.below B1.out).trans h2⟩
set_option maxHeartbeats 400000 in
theorem wcount_ok (p : Option Nat) (v : Value) (S : WS) (n : Int) (w : World) (h : WAt w p v S) (h0 : 0 ≤ n) (h1 : n ≤ 4294967295) : Calls Tryz.prog 81 #[wpt p, .int .i64 n] w (WP p v w (S.count n)) := by
  obtain ⟨k, rfl⟩ := Int.eq_ofNat_of_zero_le h0
  have hk : k ≤ 4294967295 := by omega
  have HL := Lib.hid (low_any k 4 w (by omega) (by omega))
  have H := Lib.hid h
  have HV : Hid (S.count (k : Int) = S.lay (low k 4)) := Lib.hid (by unfold WS.count; rw [if_neg (by omega)]; rfl)
  have hd : decide ((k : Int) < 0) = false := by simp
  clear h h0 h1
  generalize hP : wpt p = P at *
  have HP := Lib.hid hP
  clear hP
  go_enter Tryz.func81, Tryz.ntmps81
  go_wp2_with (first
    | (go_at_call 137; refine HL.out.mono ?_; rintro e w1 ⟨rfl, hb1⟩; have B1 := Lib.hid hb1; clear hb1)
    | (go_at_call 136; rw [← HP.out]; refine (wlay_any p v S (low k 4) _ (H.out.below B1.out) (low_max _ _ (by omega))).mono ?_; rintro e w2 ⟨rfl, v', h1, h2⟩))
  go_end0
  exact ⟨rfl, v', by rw [HV.out]; exact h1, (WL.below B1.out).trans h2⟩
set_option maxHeartbeats 400000 in
theorem wcount_no (p : Option Nat) (v : Value) (S : WS) (n : Int) (w : World) (h : WAt w p v S) (hn : n < 0 ∨ n > 4294967295) : Calls Tryz.prog 81 #[wpt p, .int .i64 n] w (WP p v w (S.count n)) := by
  have HF := Lib.hid (wfail_any p v S 1 w h)
  have HV : Hid (S.count n = S.fail 1) := Lib.hid (by unfold WS.count; rw [if_pos hn])
  clear h
  generalize wpt p = P at *
  rcases hn with hn | hn
  · have hd : decide (n < 0) = true := by simpa using hn
    clear hn
    go_enter Tryz.func81, Tryz.ntmps81
    go_wp2_with (go_at_call 139; refine HF.out.mono ?_; rintro e w' ⟨rfl, v', h1, h2⟩)
    go_end0
    exact ⟨rfl, v', by rw [HV.out]; exact h1, h2⟩
  · have hd : decide (n < 0) = false := by simp; omega
    have hd2 : decide (4294967295 < n) = true := by simpa using hn
    clear hn
    go_enter Tryz.func81, Tryz.ntmps81
    go_wp2_with (go_at_call 139; refine HF.out.mono ?_; rintro e w' ⟨rfl, v', h1, h2⟩)
    go_end0
    exact ⟨rfl, v', by rw [HV.out]; exact h1, h2⟩
theorem wcount_any (p : Option Nat) (v : Value) (S : WS) (n : Int) (w : World) (h : WAt w p v S) : Calls Tryz.prog 81 #[wpt p, .int .i64 n] w (WP p v w (S.count n)) := by
  by_cases hn : n < 0 ∨ n > 4294967295
  · exact wcount_no p v S n w h hn
  · exact wcount_ok p v S n w h (by omega) (by omega)
set_option maxHeartbeats 400000 in
theorem wtext_any (p : Option Nat) (v : Value) (S : WS) (m : List UInt8) (w : World) (h : WAt w p v S) (hm : m.length ≤ maxLen) : Calls Tryz.prog 168 #[wpt p, sv m] w (WP p v w (S.text m)) := by
  have HC := Lib.hid (wcount_any p v S (m.length : Int) w h)
  have HM := Lib.hid hm
  clear h hm
  generalize hP : wpt p = P at *
  have HP := Lib.hid hP
  clear hP
  go_enter Tryz.func168, Tryz.ntmps168
  go_wp2_with (first
    | (go_at_call 81; refine HC.out.mono ?_; rintro e w1 ⟨rfl, v1, h1, h2⟩; have H1 := Lib.hid h1; have H2 := Lib.hid h2; clear h1 h2)
    | (go_at_call 136; rw [← HP.out]; refine (wlay_any p v1 (S.count m.length) m _ H1.out HM.out).mono ?_; rintro e w2 ⟨rfl, v', h1, h2⟩))
  go_end0
  exact ⟨rfl, v', h1, H2.out.trans h2⟩
end Go.Proofs.YtoaiofjcjjkfaaaGreatDoor
/- Rows of things that came in; cells laid down; texts and numbers in a row. -/
namespace Go.Proofs.YtoaiofjcjjkfaaaGreatDoor
open Go.RowKit Go.Maps
set_option linter.unusedVariables false

/-! ### rows of anything -/
theorem cell_of_heap {w w' : World} {g o : Nat} (h : w'.heap[g]? = w.heap[g]?) : w'.cell? ⟨g, o, none⟩ = w.cell? ⟨g, o, none⟩ := by
  simp [World.cell?, h]
/-- v reads as l: elements of so many cells, in blocks of which K speaks. -/
def RowE {α : Type} (K : Nat → Prop) (w : World) (size : Nat) (E : α → List Value → Prop) (v : Value) (l : List α) : Prop :=
  ∃ A c, v = .slice A l.length c ∧ l.length ≤ maxLen ∧ (0 < l.length → ∃ g off, A = some ⟨g, off, none⟩ ∧ K g ∧ ∀ j (h : j < l.length), ∃ cs : List Value, cs.length = size ∧ (∀ i, i < size → w.cell? ⟨g, off + j * size + i, none⟩ = cs[i]?) ∧ E l[j] cs)
theorem RowE.of {α : Type} {K : Nat → Prop} {w w' : World} {size : Nat} {E E' : α → List Value → Prop} {v : Value} {l : List α} (h : RowE K w size E v l) (hk : ∀ k, K k → w'.heap[k]? = w.heap[k]?) (hE : ∀ x cs, E x cs → E' x cs) : RowE K w' size E' v l := by
  obtain ⟨A, c, e, hm, h⟩ := h
  refine ⟨A, c, e, hm, fun hl => ?_⟩
  obtain ⟨g, off, e1, hg, h⟩ := h hl
  refine ⟨g, off, e1, hg, fun j hj => ?_⟩
  obtain ⟨cs, h1, h2, h3⟩ := h j hj
  exact ⟨cs, h1, fun i hi => by rw [cell_of_heap (hk g hg)]; exact h2 i hi, hE _ _ h3⟩
theorem RowE.mono {α : Type} {K K' : Nat → Prop} {w : World} {size : Nat} {E : α → List Value → Prop} {v : Value} {l : List α} (h : RowE K w size E v l) (hk : ∀ k, K k → K' k) : RowE K' w size E v l := by
  obtain ⟨A, c, e, hm, h⟩ := h
  refine ⟨A, c, e, hm, fun hl => ?_⟩
  obtain ⟨g, off, e1, hg, h⟩ := h hl
  exact ⟨g, off, e1, hk g hg, h⟩
theorem RowE.nil {α : Type} (K : Nat → Prop) (w : World) (size : Nat) (E : α → List Value → Prop) (c : Nat) : RowE K w size E (.slice none 0 c) [] := ⟨none, c, rfl, by simp, fun h => absurd h (by simp)⟩

def strE (s : List UInt8) (cs : List Value) : Prop := cs = [sv s] ∧ s.length ≤ maxLen
def i64 (n : Int) : Prop := -9223372036854775808 ≤ n ∧ n ≤ 9223372036854775807
def intE (n : Int) (cs : List Value) : Prop := cs = [.int .i64 n] ∧ i64 n
structure CellP where
  kind : Int
  int : Int
  text : List UInt8
def CellP.val (c : CellP) : Value := .agg #[.int .i64 c.kind, .int .i64 c.int, sv c.text]
def CellP.Ok (c : CellP) : Prop := i64 c.kind ∧ i64 c.int ∧ c.text.length ≤ maxLen
def cellE (c : CellP) (cs : List Value) : Prop := cs = [.int .i64 c.kind, .int .i64 c.int, sv c.text] ∧ c.Ok
/-- A cell that may be. -/
def CellP.may (c : CellP) : Bool := (c.kind == 0 && c.int == 0 && c.text.isEmpty) || (c.kind == 1 && c.text.isEmpty) || (c.kind == 2 && c.int == 0)

/-! ### a cell laid down -/
def WS.cell (S : WS) (c : CellP) : WS :=
  if c.may then (if c.kind = 1 then (S.byte 1).int c.int else if c.kind = 2 then (S.byte 2).text c.text else S.byte 0) else S.fail 1
theorem may_kind {c : CellP} (h : c.may = true) : c.kind = 0 ∨ c.kind = 1 ∨ c.kind = 2 := by
  unfold CellP.may at h
  simp only [Bool.or_eq_true, Bool.and_eq_true, beq_iff_eq] at h
  omega
end Go.Proofs.YtoaiofjcjjkfaaaGreatDoor
/- A writer lays down rows: texts, numbers, cells, facts; a schema. -/
namespace Go.Proofs.YtoaiofjcjjkfaaaGreatDoor
open Go.RowKit Go.Maps
set_option linter.unusedVariables false

/-! ### behind the first error nothing more is laid down -/
theorem WS.lay_stop {S : WS} (h : S.fault ≠ 0) (m : List UInt8) : S.lay m = S := by unfold WS.lay; rw [if_neg h]
theorem WS.fail_stop {S : WS} (h : S.fault ≠ 0) (n : Int) : S.fail n = S := by unfold WS.fail; rw [if_neg h]
theorem WS.count_stop {S : WS} (h : S.fault ≠ 0) (n : Int) : S.count n = S := by unfold WS.count; split; exact WS.fail_stop h _; exact WS.lay_stop h _
theorem WS.text_stop {S : WS} (h : S.fault ≠ 0) (m : List UInt8) : S.text m = S := by unfold WS.text; rw [WS.count_stop h, WS.lay_stop h]
theorem WS.int_stop {S : WS} (h : S.fault ≠ 0) (n : Int) : S.int n = S := WS.lay_stop h _
theorem WS.byte_stop {S : WS} (h : S.fault ≠ 0) (n : Nat) : S.byte n = S := WS.lay_stop h _
theorem WS.cell_stop {S : WS} (h : S.fault ≠ 0) (c : CellP) : S.cell c = S := by
  unfold WS.cell
  rw [WS.byte_stop h, WS.byte_stop h, WS.byte_stop h, WS.fail_stop h, WS.int_stop h, WS.text_stop h]
  split <;> (try split) <;> (try split) <;> rfl
theorem fold_stop {α : Type} (f : WS → α → WS) (hf : ∀ S x, S.fault ≠ 0 → f S x = S) {S : WS} (h : S.fault ≠ 0) : ∀ l : List α, l.foldl f S = S
  | [] => rfl
  | x :: l => by rw [List.foldl_cons, hf S x h]; exact fold_stop f hf h l
/-- A row laid down. -/
def WS.row {α : Type} (f : WS → α → WS) (S : WS) (l : List α) : WS := l.foldl f (S.count l.length)
theorem row_stop {α : Type} (f : WS → α → WS) (hf : ∀ S x, S.fault ≠ 0 → f S x = S) {S : WS} (h : S.fault ≠ 0) (l : List α) : S.row f l = S := by
  unfold WS.row; rw [WS.count_stop h]; exact fold_stop f hf h l
/-- what is left of a row once it was stopped -/
theorem row_cut {α : Type} (f : WS → α → WS) (hf : ∀ S x, S.fault ≠ 0 → f S x = S) (S : WS) (l : List α) (j : Nat) (h : ((l.take j).foldl f (S.count l.length)).fault ≠ 0) : S.row f l = (l.take j).foldl f (S.count l.length) := by
  unfold WS.row
  conv => lhs; rw [← List.take_append_drop j l]
  rw [List.foldl_append, fold_stop f hf (by simpa using h)]
  simp
theorem fold_snoc {α : Type} (f : WS → α → WS) (S : WS) (l : List α) (j : Nat) (h : j < l.length) : (l.take (j + 1)).foldl f S = f ((l.take j).foldl f S) l[j] := by
  rw [List.take_succ_eq_append_getElem h, List.foldl_append]; rfl

/-- Blocks that were there, and are none of the writer's. -/
def Off (p : Option Nat) (v : Value) (w : World) (K : Nat → Prop) : Prop := ∀ k, K k → k < w.heap.size ∧ ¬ WFt p v k
theorem Off.wl {p : Option Nat} {v v1 : Value} {w w1 : World} {K : Nat → Prop} (h : Off p v w K) (l : WL p v w v1 w1) : Off p v1 w1 K := fun k hk => by
  obtain ⟨h1, h2⟩ := h k hk
  refine ⟨Nat.lt_of_lt_of_le h1 l.fr.size, fun e => ?_⟩
  rcases e with e | e
  · exact h2 (.inl e)
  · rcases l.own k e with e' | e'
    · exact h2 (.inr e')
    · omega
theorem Off.same {p : Option Nat} {v v1 : Value} {w w1 : World} {K : Nat → Prop} (h : Off p v w K) (l : WL p v w v1 w1) : ∀ k, K k → w1.heap[k]? = w.heap[k]? := fun k hk => l.fr.block k (h k hk).1 (h k hk).2

set_option maxRecDepth 100000 in
set_option maxHeartbeats 1000000 in
theorem wtexts_row (p : Option Nat) (v : Value) (S : WS) (K : Nat → Prop) (vl : Value) (l : List (List UInt8)) (w : World) (h : WAt w p v S) (hr : RowE K w 1 strE vl l) (hk : Off p v w K) :
    Calls Tryz.prog 174 #[wpt p, vl, .func (.func 168) #[wpt p] #[]] w (WP p v w (S.row WS.text l)) := by
  obtain ⟨A, c, rfl, hm, hel⟩ := hr
  have HC := Lib.hid (wcount_any p v S (l.length : Int) w h)
  have HK := Lib.hid hk
  have HE := Lib.hid hel
  unfold maxLen at hm
  clear h hk hel
  obtain ⟨n, hn⟩ : ∃ n, l.length = n := ⟨_, rfl⟩
  rw [hn] at hm
  have HN := Lib.hid hn
  have hcs : Hid (S.count (l.length : Int) = S.count (n : Int)) := Lib.hid (by rw [hn])
  rw [hn] at HC ⊢
  clear hn
  generalize hP : wpt p = P at *
  have HP := Lib.hid hP
  clear hP
  go_enter Tryz.func174, Tryz.ntmps174
  go_wp2_with fail
  refine HC.out.mono ?_
  rintro e w1 ⟨rfl, v1, h1, l1⟩
  have H1 := Lib.hid h1
  have L1 := Lib.hid l1
  clear h1 l1
  go_wp2
  go_loopw [14] (fun i wr => ∃ j : Nat, ∃ v2, j ≤ n ∧ i = .int .i64 j ∧ WAt wr p v2 ((l.take j).foldl WS.text (S.count n)) ∧ WL p v w v2 wr) (fun i _ => n - (intOf i).toNat)
  case atStart => exact ⟨0, v1, by omega, rfl, H1.out, L1.out⟩
  case round =>
    obtain ⟨j, v2, hj, rfl, h2, l2⟩ := hrel
    by_cases hlt : j < n
    · have hjl : j < l.length := by rw [HN.out]; exact hlt
      obtain ⟨g, off, rfl, hg, hcell⟩ := HE.out (by omega)
      obtain ⟨cs, hlen, hcs2, rfl, hmx⟩ := hcell j hjl
      have hc : _ = some (sv l[j]) := (cell_of_heap ((HK.out.same l2) g hg)).trans (hcs2 0 (by omega))
      simp only [Nat.mul_one, Nat.add_zero] at hc
      have H2 := Lib.hid h2
      have L2 := Lib.hid l2
      have HM := Lib.hid hmx
      clear hcell hcs2 h2 l2 hlen hmx
      by_cases hz : ((l.take j).foldl WS.text (S.count n)).fault = 0
      · have HZ := Lib.hid hz
        clear hz
        go_wp2_with fail
        rw [← HP.out]
        refine (wstop_no p v2 _ _ H2.out HZ.out).mono ?_
        rintro e w' ⟨rfl, rfl⟩
        go_wp2_with fail
        refine (wtext_any p v2 _ l[j] _ H2.out HM.out).mono ?_
        rintro e w3 ⟨rfl, v3, h3, l3⟩
        have H3 := Lib.hid h3
        have L3 := Lib.hid l3
        clear h3 l3
        rw [HP.out]
        go_wp2
        go_roundw
        case rel => exact ⟨j + 1, v3, by omega, by go_num, by rw [fold_snoc _ _ _ _ hjl]; exact H3.out, L2.out.trans L3.out⟩
        case measure => simp [intOf]; omega
      · have HZ := Lib.hid hz
        clear hz
        go_wp2_with fail
        rw [← HP.out]
        refine (wstop_yes p v2 _ _ H2.out HZ.out).mono ?_
        rintro e w' ⟨rfl, rfl⟩
        go_wp2
        refine bodyPost_ret (results_none rfl _ _ _) rfl ?_
        exact ⟨rfl, v2, by rw [row_cut WS.text (fun _ _ h => WS.text_stop h _) S l j (by rw [hcs.out]; exact HZ.out), hcs.out]; exact H2.out, L2.out⟩
    · obtain rfl : j = n := by omega
      have H2 := Lib.hid h2
      have L2 := Lib.hid l2
      clear h2 l2
      go_wp2
      go_end0
      exact ⟨rfl, v2, by unfold WS.row; rw [hcs.out, ← HN.out]; have := H2.out; rw [← HN.out, List.take_length] at this; exact this, L2.out⟩
end Go.Proofs.YtoaiofjcjjkfaaaGreatDoor
/- Numbers, cells, facts in a row; a schema. -/
namespace Go.Proofs.YtoaiofjcjjkfaaaGreatDoor
open Go.RowKit Go.Maps
set_option linter.unusedVariables false

set_option maxRecDepth 100000 in
set_option maxHeartbeats 1000000 in
theorem wints_row (p : Option Nat) (v : Value) (S : WS) (K : Nat → Prop) (vl : Value) (l : List Int) (w : World) (h : WAt w p v S) (hr : RowE K w 1 intE vl l) (hk : Off p v w K) :
    Calls Tryz.prog 141 #[wpt p, vl, .func (.func 79) #[wpt p] #[]] w (WP p v w (S.row WS.int l)) := by
  obtain ⟨A, c, rfl, hm, hel⟩ := hr
  have HC := Lib.hid (wcount_any p v S (l.length : Int) w h)
  have HK := Lib.hid hk
  have HE := Lib.hid hel
  unfold maxLen at hm
  clear h hk hel
  obtain ⟨n, hn⟩ : ∃ n, l.length = n := ⟨_, rfl⟩
  rw [hn] at hm
  have HN := Lib.hid hn
  have hcs : Hid (S.count (l.length : Int) = S.count (n : Int)) := Lib.hid (by rw [hn])
  rw [hn] at HC ⊢
  clear hn
  generalize hP : wpt p = P at *
  have HP := Lib.hid hP
  clear hP
  go_enter Tryz.func141, Tryz.ntmps141
  go_wp2_with fail
  refine HC.out.mono ?_
  rintro e w1 ⟨rfl, v1, h1, l1⟩
  have H1 := Lib.hid h1
  have L1 := Lib.hid l1
  clear h1 l1
  go_wp2
  go_loopw [14] (fun i wr => ∃ j : Nat, ∃ v2, j ≤ n ∧ i = .int .i64 j ∧ WAt wr p v2 ((l.take j).foldl WS.int (S.count n)) ∧ WL p v w v2 wr) (fun i _ => n - (intOf i).toNat)
  case atStart => exact ⟨0, v1, by omega, rfl, H1.out, L1.out⟩
  case round =>
    obtain ⟨j, v2, hj, rfl, h2, l2⟩ := hrel
    by_cases hlt : j < n
    · have hjl : j < l.length := by rw [HN.out]; exact hlt
      obtain ⟨g, off, rfl, hg, hcell⟩ := HE.out (by omega)
      obtain ⟨cs, hlen, hcs2, rfl, hmx⟩ := hcell j hjl
      have hc : _ = some (Value.int .i64 l[j]) := (cell_of_heap ((HK.out.same l2) g hg)).trans (hcs2 0 (by omega))
      simp only [Nat.mul_one, Nat.add_zero] at hc
      have H2 := Lib.hid h2
      have L2 := Lib.hid l2
      have HM := Lib.hid hmx
      clear hcell hcs2 h2 l2 hlen hmx
      by_cases hz : ((l.take j).foldl WS.int (S.count n)).fault = 0
      · have HZ := Lib.hid hz
        clear hz
        go_wp2_with fail
        rw [← HP.out]
        refine (wstop_no p v2 _ _ H2.out HZ.out).mono ?_
        rintro e w' ⟨rfl, rfl⟩
        go_wp2_with fail
        refine (wint_any p v2 _ l[j] _ H2.out).mono ?_
        rintro e w3 ⟨rfl, v3, h3, l3⟩
        have H3 := Lib.hid h3
        have L3 := Lib.hid l3
        clear h3 l3
        rw [HP.out]
        go_wp2
        go_roundw
        case rel => exact ⟨j + 1, v3, by omega, by go_num, by rw [fold_snoc _ _ _ _ hjl]; exact H3.out, L2.out.trans L3.out⟩
        case measure => simp [intOf]; omega
      · have HZ := Lib.hid hz
        clear hz
        go_wp2_with fail
        rw [← HP.out]
        refine (wstop_yes p v2 _ _ H2.out HZ.out).mono ?_
        rintro e w' ⟨rfl, rfl⟩
        go_wp2
        refine bodyPost_ret (results_none rfl _ _ _) rfl ?_
        exact ⟨rfl, v2, by rw [row_cut WS.int (fun _ _ h => WS.int_stop h _) S l j (by rw [hcs.out]; exact HZ.out), hcs.out]; exact H2.out, L2.out⟩
    · obtain rfl : j = n := by omega
      have H2 := Lib.hid h2
      have L2 := Lib.hid l2
      clear h2 l2
      go_wp2
      go_end0
      exact ⟨rfl, v2, by unfold WS.row; rw [hcs.out, ← HN.out]; have := H2.out; rw [← HN.out, List.take_length] at this; exact this, L2.out⟩
end Go.Proofs.YtoaiofjcjjkfaaaGreatDoor
/- The rows by their calls; facts; a schema. -/
namespace Go.Proofs.YtoaiofjcjjkfaaaGreatDoor
open Go.RowKit Go.Maps
set_option linter.unusedVariables false

def WS.texts (S : WS) (l : List (List UInt8)) : WS := S.row WS.text l
def WS.ints (S : WS) (l : List Int) : WS := S.row WS.int l
def WS.cells (S : WS) (l : List CellP) : WS := S.row WS.cell l
theorem WS.texts_stop {S : WS} (h : S.fault ≠ 0) (l : List (List UInt8)) : S.texts l = S := row_stop _ (fun _ _ h => WS.text_stop h _) h l
theorem WS.ints_stop {S : WS} (h : S.fault ≠ 0) (l : List Int) : S.ints l = S := row_stop _ (fun _ _ h => WS.int_stop h _) h l
theorem WS.cells_stop {S : WS} (h : S.fault ≠ 0) (l : List CellP) : S.cells l = S := row_stop _ (fun _ _ h => WS.cell_stop h _) h l
theorem mkf (fn : Fn) (first cap : Array Value) (w : World) : (Instr.makeFunc fn first cap).run Tryz.prog w = .ok (.func fn first cap) w := rfl

set_option maxHeartbeats 400000 in
theorem wtexts_any (p : Option Nat) (v : Value) (S : WS) (K : Nat → Prop) (vl : Value) (l : List (List UInt8)) (w : World) (h : WAt w p v S) (hr : RowE K w 1 strE vl l) (hk : Off p v w K) :
    Calls Tryz.prog 138 #[wpt p, vl] w (WP p v w (S.texts l)) := by
  have HR := Lib.hid (wtexts_row p v S K vl l w h hr hk)
  have hmf := mkf
  clear h hr hk
  generalize hP : wpt p = P at *
  clear hP
  go_enter Tryz.func138, Tryz.ntmps138
  go_wp2_with fail
  refine HR.out.mono ?_
  rintro e w1 ⟨rfl, v1, h1, l1⟩
  go_wp2
  go_end0
  exact ⟨rfl, v1, h1, l1⟩
/-! ### facts -/
structure FactP where
  dims : List (List UInt8)
  meas : List Int
def factE (K : Nat → Prop) (w : World) (f : FactP) (cs : List Value) : Prop := ∃ dv mv, cs = [dv, mv] ∧ RowE K w 1 strE dv f.dims ∧ RowE K w 1 intE mv f.meas
theorem factE.of {K : Nat → Prop} {w w' : World} {f : FactP} {cs : List Value} (h : factE K w f cs) (hk : ∀ k, K k → w'.heap[k]? = w.heap[k]?) : factE K w' f cs := by
  obtain ⟨dv, mv, e, h1, h2⟩ := h
  exact ⟨dv, mv, e, h1.of hk fun _ _ h => h, h2.of hk fun _ _ h => h⟩
def WS.fact (S : WS) (f : FactP) : WS := (S.texts f.dims).ints f.meas
theorem WS.fact_stop {S : WS} (h : S.fault ≠ 0) (f : FactP) : S.fact f = S := by unfold WS.fact; rw [WS.texts_stop h, WS.ints_stop h]
def WS.facts (S : WS) (l : List FactP) : WS := S.row WS.fact l
theorem WS.facts_stop {S : WS} (h : S.fault ≠ 0) (l : List FactP) : S.facts l = S := row_stop _ (fun _ _ h => WS.fact_stop h _) h l
def WS.schema (S : WS) (d m : List (List UInt8)) : WS := (S.texts d).texts m

theorem RowE.slice {α : Type} {K : Nat → Prop} {w : World} {size : Nat} {E : α → List Value → Prop} {v : Value} {l : List α} (h : RowE K w size E v l) : ∃ A n c, v = .slice A n c := by
  obtain ⟨A, c, e, _⟩ := h; exact ⟨_, _, _, e⟩

set_option maxHeartbeats 1000000 in
theorem wfact_any (p : Option Nat) (v : Value) (S : WS) (K : Nat → Prop) (dv mv : Value) (f : FactP) (w : World) (h : WAt w p v S) (hd : RowE K w 1 strE dv f.dims) (hm : RowE K w 1 intE mv f.meas) (hk : Off p v w K) :
    Calls Tryz.prog 83 #[wpt p, .agg #[dv, mv]] w (WP p v w (S.fact f)) := by
  obtain ⟨wa, hwa⟩ : ∃ wa, w.alloc (.cells #[dv, mv] 139) = wa := ⟨_, rfl⟩
  obtain ⟨gb, hgb⟩ : ∃ gb, w.heap.size = gb := ⟨_, rfl⟩
  have hbx : Blk wa gb 139 #[dv, mv] := by rw [← hwa, ← hgb]; exact Blk.new w 139 _
  have hat : WAt wa p v S := by rw [← hwa]; exact h.alloc _
  have hwl : WL p v w v wa := by rw [← hwa]; exact WL.alloc0 p v w _
  have hng : ¬ WFt p v gb := fun e => by have := h.lt gb e; omega
  have H1 := Lib.hid (wtexts_any p v S K dv f.dims wa hat (hd.of (hk.same hwl) fun _ _ h => h) (hk.wl hwl))
  have c0 : wa.cell? ⟨gb, 0, none⟩ = some dv := hbx.cell 0
  have HX := Lib.hid hbx
  have HW := Lib.hid hwl
  have HN := Lib.hid hng
  have HK := Lib.hid hk
  have HM := Lib.hid hm
  obtain ⟨A1, n1, k1, rfl⟩ := hd.slice
  obtain ⟨A2, n2, k2, rfl⟩ := hm.slice
  have hmf := mkf
  clear hbx hat hwl hng hk hd hm h
  generalize hP : wpt p = P at *
  have HP := Lib.hid hP
  clear hP
  go_enter Tryz.func83, Tryz.ntmps83
  go_wp2_with fail
  refine H1.out.mono ?_
  rintro e w1 ⟨rfl, v1, h1, l1⟩
  have hx1 := HX.out.of (l1.fr.block gb HX.out.lt HN.out)
  have d1 : w1.cell? ⟨gb, 1, none⟩ = some (.slice A2 n2 k2) := hx1.cell 1
  have L1 := Lib.hid (HW.out.trans l1)
  have H2 := Lib.hid (wints_row p v1 _ K _ f.meas w1 h1 (HM.out.of (HK.out.same L1.out) fun _ _ h => h) (HK.out.wl L1.out))
  rw [HP.out] at H2
  clear hx1 h1 l1 c0 hwa hgb
  go_wp2_with fail
  refine H2.out.mono ?_
  rintro e w2 ⟨rfl, v2, h2, l2⟩
  go_wp2
  go_end0
  exact ⟨rfl, v2, h2, L1.out.trans l2⟩
set_option maxHeartbeats 1000000 in
theorem wschema_any (p : Option Nat) (v : Value) (S : WS) (K : Nat → Prop) (dv mv : Value) (d m : List (List UInt8)) (w : World) (h : WAt w p v S) (hd : RowE K w 1 strE dv d) (hm : RowE K w 1 strE mv m) (hk : Off p v w K) :
    Calls Tryz.prog 80 #[wpt p, .agg #[dv, mv]] w (WP p v w (S.schema d m)) := by
  obtain ⟨wa, hwa⟩ : ∃ wa, w.alloc (.cells #[dv, mv] 24) = wa := ⟨_, rfl⟩
  obtain ⟨gb, hgb⟩ : ∃ gb, w.heap.size = gb := ⟨_, rfl⟩
  have hbx : Blk wa gb 24 #[dv, mv] := by rw [← hwa, ← hgb]; exact Blk.new w 24 _
  have hat : WAt wa p v S := by rw [← hwa]; exact h.alloc _
  have hwl : WL p v w v wa := by rw [← hwa]; exact WL.alloc0 p v w _
  have hng : ¬ WFt p v gb := fun e => by have := h.lt gb e; omega
  have H1 := Lib.hid (wtexts_any p v S K dv d wa hat (hd.of (hk.same hwl) fun _ _ h => h) (hk.wl hwl))
  have c0 : wa.cell? ⟨gb, 0, none⟩ = some dv := hbx.cell 0
  have HX := Lib.hid hbx
  have HW := Lib.hid hwl
  have HN := Lib.hid hng
  have HK := Lib.hid hk
  have HM := Lib.hid hm
  obtain ⟨A1, n1, k1, rfl⟩ := hd.slice
  obtain ⟨A2, n2, k2, rfl⟩ := hm.slice
  have hmf := mkf
  clear hbx hat hwl hng hk hd hm h
  generalize hP : wpt p = P at *
  have HP := Lib.hid hP
  clear hP
  go_enter Tryz.func80, Tryz.ntmps80
  go_wp2_with fail
  refine H1.out.mono ?_
  rintro e w1 ⟨rfl, v1, h1, l1⟩
  have hx1 := HX.out.of (l1.fr.block gb HX.out.lt HN.out)
  have d1 : w1.cell? ⟨gb, 1, none⟩ = some (.slice A2 n2 k2) := hx1.cell 1
  have L1 := Lib.hid (HW.out.trans l1)
  have H2 := Lib.hid (wtexts_any p v1 _ K _ m w1 h1 (HM.out.of (HK.out.same L1.out) fun _ _ h => h) (HK.out.wl L1.out))
  rw [HP.out] at H2
  clear hx1 h1 l1 c0 hwa hgb
  go_wp2_with fail
  refine H2.out.mono ?_
  rintro e w2 ⟨rfl, v2, h2, l2⟩
  go_wp2
  go_end0
  exact ⟨rfl, v2, h2, L1.out.trans l2⟩

set_option maxRecDepth 100000 in
set_option maxHeartbeats 1000000 in
theorem wfacts_row (p : Option Nat) (v : Value) (S : WS) (K : Nat → Prop) (vl : Value) (l : List FactP) (w : World) (h : WAt w p v S) (hr : RowE K w 2 (factE K w) vl l) (hk : Off p v w K) :
    Calls Tryz.prog 82 #[wpt p, vl, .func (.func 83) #[wpt p] #[]] w (WP p v w (S.row WS.fact l)) := by
  obtain ⟨A, c, rfl, hm, hel⟩ := hr
  have HC := Lib.hid (wcount_any p v S (l.length : Int) w h)
  have HK := Lib.hid hk
  have HE := Lib.hid hel
  unfold maxLen at hm
  clear h hk hel
  obtain ⟨n, hn⟩ : ∃ n, l.length = n := ⟨_, rfl⟩
  rw [hn] at hm
  have HN := Lib.hid hn
  have hcs : Hid (S.count (l.length : Int) = S.count (n : Int)) := Lib.hid (by rw [hn])
  rw [hn] at HC ⊢
  clear hn
  generalize hP : wpt p = P at *
  have HP := Lib.hid hP
  clear hP
  go_enter Tryz.func82, Tryz.ntmps82
  go_wp2_with fail
  refine HC.out.mono ?_
  rintro e w1 ⟨rfl, v1, h1, l1⟩
  have H1 := Lib.hid h1
  have L1 := Lib.hid l1
  clear h1 l1
  go_wp2
  go_loopw [14] (fun i wr => ∃ j : Nat, ∃ v2, j ≤ n ∧ i = .int .i64 j ∧ WAt wr p v2 ((l.take j).foldl WS.fact (S.count n)) ∧ WL p v w v2 wr) (fun i _ => n - (intOf i).toNat)
  case atStart => exact ⟨0, v1, by omega, rfl, H1.out, L1.out⟩
  case round =>
    obtain ⟨j, v2, hj, rfl, h2, l2⟩ := hrel
    by_cases hlt : j < n
    · have hjl : j < l.length := by rw [HN.out]; exact hlt
      obtain ⟨g, off, rfl, hg, hcell⟩ := HE.out (by omega)
      obtain ⟨cs, hlen, hcs2, dv, mv, rfl, hdv, hmv⟩ := hcell j hjl
      have hc0 : _ = some dv := (cell_of_heap ((HK.out.same l2) g hg)).trans (hcs2 0 (by omega))
      have hc1 : _ = some mv := (cell_of_heap ((HK.out.same l2) g hg)).trans (hcs2 1 (by omega))
      simp only [Nat.add_zero] at hc0
      have hmx := And.intro hdv hmv
      obtain ⟨A1, n1, k1, rfl⟩ := hdv.slice
      obtain ⟨A2, n2, k2, rfl⟩ := hmv.slice
      have H2 := Lib.hid h2
      have L2 := Lib.hid l2
      have HM := Lib.hid hmx
      clear hcell hcs2 h2 l2 hlen hmx hdv hmv
      by_cases hz : ((l.take j).foldl WS.fact (S.count n)).fault = 0
      · have HZ := Lib.hid hz
        clear hz
        obtain ⟨wx, hwx⟩ : ∃ wx, wr.alloc (.cells #[.slice A1 n1 k1, .slice A2 n2 k2] 139) = wx := ⟨_, rfl⟩
        obtain ⟨gx, hgx⟩ : ∃ gx, wr.heap.size = gx := ⟨_, rfl⟩
        have hbx : Blk wx gx 139 #[.slice A1 n1 k1, .slice A2 n2 k2] := by rw [← hwx, ← hgx]; exact Blk.new wr 139 _
        have b0 : wx.cell? ⟨gx, 0, none⟩ = some (.slice A1 n1 k1) := hbx.cell 0
        have b1 : wx.cell? ⟨gx, 1, none⟩ = some (.slice A2 n2 k2) := hbx.cell 1
        have HX : Hid (WAt wx p v2 ((l.take j).foldl WS.fact (S.count n))) := Lib.hid (by rw [← hwx]; exact H2.out.alloc _)
        have LX : Hid (WL p v w v2 wx) := Lib.hid (by rw [← hwx]; exact L2.out.alloc _)
        clear hbx
        go_wp2_with fail
        rw [← HP.out]
        refine (wstop_no p v2 _ _ HX.out HZ.out).mono ?_
        rintro e w' ⟨rfl, rfl⟩
        go_wp2_with fail
        refine (wfact_any p v2 _ K _ _ l[j] _ HX.out (HM.out.1.of (HK.out.same LX.out) fun _ _ h => h) (HM.out.2.of (HK.out.same LX.out) fun _ _ h => h) (HK.out.wl LX.out)).mono ?_
        rintro e w3 ⟨rfl, v3, h3, l3⟩
        have H3 := Lib.hid h3
        have L3 := Lib.hid l3
        clear h3 l3 b0 b1 hc0 hc1 hwx hgx
        rw [HP.out]
        go_wp2
        go_roundw
        case rel => exact ⟨j + 1, v3, by omega, by go_num, by rw [fold_snoc _ _ _ _ hjl]; exact H3.out, LX.out.trans L3.out⟩
        case measure => simp [intOf]; omega
      · have HZ := Lib.hid hz
        clear hz
        obtain ⟨wx, hwx⟩ : ∃ wx, wr.alloc (.cells #[.slice A1 n1 k1, .slice A2 n2 k2] 139) = wx := ⟨_, rfl⟩
        obtain ⟨gx, hgx⟩ : ∃ gx, wr.heap.size = gx := ⟨_, rfl⟩
        have hbx : Blk wx gx 139 #[.slice A1 n1 k1, .slice A2 n2 k2] := by rw [← hwx, ← hgx]; exact Blk.new wr 139 _
        have b0 : wx.cell? ⟨gx, 0, none⟩ = some (.slice A1 n1 k1) := hbx.cell 0
        have b1 : wx.cell? ⟨gx, 1, none⟩ = some (.slice A2 n2 k2) := hbx.cell 1
        have HX : Hid (WAt wx p v2 ((l.take j).foldl WS.fact (S.count n))) := Lib.hid (by rw [← hwx]; exact H2.out.alloc _)
        have LX : Hid (WL p v w v2 wx) := Lib.hid (by rw [← hwx]; exact L2.out.alloc _)
        clear hbx
        go_wp2_with fail
        rw [← HP.out]
        refine (wstop_yes p v2 _ _ HX.out HZ.out).mono ?_
        rintro e w' ⟨rfl, rfl⟩
        go_wp2
        refine bodyPost_ret (results_none rfl _ _ _) rfl ?_
        exact ⟨rfl, v2, by rw [row_cut WS.fact (fun _ _ h => WS.fact_stop h _) S l j (by rw [hcs.out]; exact HZ.out), hcs.out]; exact HX.out, LX.out⟩
    · obtain rfl : j = n := by omega
      have H2 := Lib.hid h2
      have L2 := Lib.hid l2
      clear h2 l2
      go_wp2
      go_end0
      exact ⟨rfl, v2, by unfold WS.row; rw [hcs.out, ← HN.out]; have := H2.out; rw [← HN.out, List.take_length] at this; exact this, L2.out⟩
set_option maxHeartbeats 400000 in
theorem wfacts_any (p : Option Nat) (v : Value) (S : WS) (K : Nat → Prop) (vl : Value) (l : List FactP) (w : World) (h : WAt w p v S) (hr : RowE K w 2 (factE K w) vl l) (hk : Off p v w K) :
    Calls Tryz.prog 36 #[wpt p, vl] w (WP p v w (S.facts l)) := by
  have HR := Lib.hid (wfacts_row p v S K vl l w h hr hk)
  have hmf := mkf
  clear h hr hk
  generalize hP : wpt p = P at *
  clear hP
  go_enter Tryz.func36, Tryz.ntmps36
  go_wp2_with fail
  refine HR.out.mono ?_
  rintro e w1 ⟨rfl, v1, h1, l1⟩
  go_wp2
  go_end0
  exact ⟨rfl, v1, h1, l1⟩
end Go.Proofs.YtoaiofjcjjkfaaaGreatDoor
/- A reader in memory, nil too: stopped, Fail, Left, Done, take, many. -/
namespace Go.Proofs.YtoaiofjcjjkfaaaGreatDoor
open Go.RowKit Go.Maps
set_option linter.unusedVariables false

/-- A reader: what is left, what was first wrong. -/
structure RS where
  rest : List UInt8
  fault : Int
def RS.none : RS := ⟨[], 1⟩
def RS.fail (S : RS) (e : Int) : RS := if e ≠ 0 ∧ S.fault = 0 then ⟨[], e⟩ else S
def RS.take (S : RS) (n : Nat) : List UInt8 × RS := if S.fault = 0 then (if S.rest.length < n then ([], ⟨[], 20⟩) else (S.rest.take n, ⟨S.rest.drop n, 0⟩)) else ([], S)
def RS.many (S : RS) (least : Nat) : Nat × RS := if num (S.take 4).1 > (S.take 4).2.rest.length / least then (0, (S.take 4).2.fail 20) else (num (S.take 4).1, (S.take 4).2)

/-- How it lies. -/
structure RAt (w : World) (p : Option Nat) (S : RS) : Prop where
  blk : ∀ g, p = some g → Blk w g 159 #[sv S.rest, .int .i64 S.fault]
  nil : p = Option.none → S = RS.none
  len : S.rest.length ≤ 1073741824
def RFt (p : Option Nat) (k : Nat) : Prop := p = some k
theorem RAt.of {w w' : World} {p : Option Nat} {S : RS} (h : RAt w p S) (hk : ∀ k, RFt p k → w'.heap[k]? = w.heap[k]?) : RAt w' p S :=
  ⟨fun g e => (h.blk g e).of (hk g e), h.nil, h.len⟩
theorem RAt.lt {w : World} {p : Option Nat} {S : RS} (h : RAt w p S) : ∀ k, RFt p k → k < w.heap.size := fun k e => (h.blk k e).lt
theorem RAt.below {w w' : World} {p : Option Nat} {S : RS} (h : RAt w p S) (hb : Below w.heap.size w w') : RAt w' p S := h.of fun k hk => hb.block k (h.lt k hk)
theorem RAt.keep {w w' : World} {p : Option Nat} {S : RS} (h : RAt w p S) (hb : Fr No w w') : RAt w' p S := h.of fun k hk => hb.block k (h.lt k hk) id
theorem RAt.alloc {w : World} {p : Option Nat} {S : RS} (h : RAt w p S) (o : Obj) : RAt (w.alloc o) p S := h.keep ((Fr.refl _ w).alloc o)
theorem RAt.new (w : World) (l : List UInt8) (hl : l.length ≤ 1073741824) : RAt (w.alloc (.cells #[sv l, .int .i64 0] 159)) (some w.heap.size) ⟨l, 0⟩ :=
  ⟨fun g e => by obtain rfl := Option.some.inj e; exact Blk.new w 159 _, fun e => (by cases e), hl⟩
theorem RAt.nilr (w : World) : RAt w Option.none RS.none := ⟨fun g e => (by cases e), fun _ => rfl, by simp [RS.none]⟩
theorem RAt.some_of {w : World} {p : Option Nat} {S : RS} (h : RAt w p S) (h0 : S.fault = 0) : ∃ g, p = some g := by
  cases p with
  | none => have := h.nil rfl; subst this; cases h0
  | some g => exact ⟨g, rfl⟩

/-- A call of a reader that tells v. -/
def RP (p : Option Nat) (w : World) (v : Value) (S' : RS) (e : Ending) (w' : World) : Prop := e = .returned v ∧ RAt w' p S' ∧ Fr (RFt p) w w'

theorem rstop_any (p : Option Nat) (S : RS) (w : World) (h : RAt w p S) :
    Calls Tryz.prog 151 #[wpt p] w fun e w' => e = .returned (.bool (S.fault != 0)) ∧ w = w' := by
  cases p with
  | none =>
    obtain rfl := h.nil rfl
    unfold wpt
    go_enter Tryz.func151, Tryz.ntmps151
    go_wp2
    go_ret
    exact ⟨rfl, rfl⟩
  | some g =>
    have c1 : w.cell? ⟨g, 1, none⟩ = some (.int .i64 S.fault) := (h.blk g rfl).cell 1
    clear h
    rw [wpt_some]
    go_enter Tryz.func151, Tryz.ntmps151
    go_wp2
    go_ret
    exact ⟨rfl, rfl⟩
theorem rstop_no (p : Option Nat) (S : RS) (w : World) (h : RAt w p S) (h0 : S.fault = 0) : Calls Tryz.prog 151 #[wpt p] w fun e w' => e = .returned (.bool false) ∧ w = w' := by
  have := rstop_any p S w h
  rwa [h0] at this
theorem rstop_yes (p : Option Nat) (S : RS) (w : World) (h : RAt w p S) (h0 : S.fault ≠ 0) : Calls Tryz.prog 151 #[wpt p] w fun e w' => e = .returned (.bool true) ∧ w = w' := by
  have := rstop_any p S w h
  rwa [show (S.fault != 0) = true by simpa using h0] at this

/-! ### Fail -/
theorem rfail_any (p : Option Nat) (S : RS) (n : Int) (w : World) (h : RAt w p S) : Calls Tryz.prog 88 #[wpt p, .int .i64 n] w (RP p w (.tuple #[]) (S.fail n)) := by
  have hnot : ∀ (x : Bool) (w : World), (Op.unary .not (.bool x)).run Tryz.prog w = .ok (.bool (!x)) w := fun _ _ => rfl
  by_cases hn : n = 0
  · have HV : Hid (S.fail n = S) := Lib.hid (by unfold RS.fail; rw [if_neg (by simp [hn])])
    have H := Lib.hid h
    have hd : (n != 0) = false := by simp [hn]
    clear h hn
    generalize wpt p = P at *
    go_enter Tryz.func88, Tryz.ntmps88
    go_wp2
    go_end0
    exact ⟨rfl, by rw [HV.out]; exact H.out, Fr.refl _ _⟩
  · have hd : (n != 0) = true := by simpa using hn
    by_cases h0 : S.fault = 0
    · have HS := Lib.hid (rstop_no p S w h h0)
      have HV : Hid (S.fail n = ⟨[], n⟩) := Lib.hid (by unfold RS.fail; rw [if_pos ⟨hn, h0⟩])
      obtain ⟨g, rfl⟩ := h.some_of h0
      have hb := h.blk g rfl
      have c0 : w.cell? ⟨g, 0, none⟩ = some (sv S.rest) := hb.cell 0
      have c1 : w.cell? ⟨g, 1, none⟩ = some (.int .i64 S.fault) := hb.cell 1
      have f0 := hb.frozen 0
      have f1 := hb.frozen 1
      have HB := Lib.hid hb
      clear h hb h0 hn
      rw [wpt_some] at HS ⊢
      go_enter Tryz.func88, Tryz.ntmps88
      go_wp2_with (go_at_call 151; refine HS.out.mono ?_; rintro e w' ⟨rfl, rfl⟩)
      go_end0
      refine ⟨rfl, ?_, ((Fr.refl (RFt (some g)) w).setCell (p := ⟨g, 0, none⟩) (fun _ => (rfl : some g = some g)) _).setCell (p := ⟨g, 1, none⟩) (fun _ => (rfl : some g = some g)) _⟩
      rw [HV.out]
      exact ⟨fun k e => by obtain rfl := Option.some.inj e; exact (HB.out.set_ 0 _).set_ 1 _, fun e => (by cases e), by simp⟩
    · have HS := Lib.hid (rstop_yes p S w h h0)
      have HV : Hid (S.fail n = S) := Lib.hid (by unfold RS.fail; rw [if_neg (by simp [h0])])
      have H := Lib.hid h
      clear h h0 hn
      generalize wpt p = P at *
      go_enter Tryz.func88, Tryz.ntmps88
      go_wp2_with (go_at_call 151; refine HS.out.mono ?_; rintro e w' ⟨rfl, rfl⟩)
      go_end0
      exact ⟨rfl, by rw [HV.out]; exact H.out, Fr.refl _ _⟩

/-! ### Left, Done, Read -/
theorem rleft_any (p : Option Nat) (S : RS) (w : World) (h : RAt w p S) : Calls Tryz.prog 91 #[wpt p] w fun e w' => e = .returned (.int .i64 (S.rest.length : Nat)) ∧ w = w' := by
  cases p with
  | none =>
    obtain rfl := h.nil rfl
    unfold wpt
    go_enter Tryz.func91, Tryz.ntmps91
    go_wp2
    go_ret
    exact ⟨rfl, rfl⟩
  | some g =>
    have c0 : w.cell? ⟨g, 0, none⟩ = some (sv S.rest) := (h.blk g rfl).cell 0
    have hl := h.len
    clear h
    rw [wpt_some]
    generalize S.rest = R at *
    go_enter Tryz.func91, Tryz.ntmps91
    go_wp2
    go_ret
    exact ⟨rfl, rfl⟩
def RS.done (S : RS) : Int := if S.fault = 0 ∧ S.rest ≠ [] then 22 else S.fault
theorem rdone_any (p : Option Nat) (S : RS) (w : World) (h : RAt w p S) : Calls Tryz.prog 45 #[wpt p] w fun e w' => e = .returned (.int .i64 S.done) ∧ w = w' := by
  cases p with
  | none =>
    obtain rfl := h.nil rfl
    unfold wpt
    go_enter Tryz.func45, Tryz.ntmps45
    go_wp2
    go_ret
    exact ⟨rfl, rfl⟩
  | some g =>
    have c0 : w.cell? ⟨g, 0, none⟩ = some (sv S.rest) := (h.blk g rfl).cell 0
    have c1 : w.cell? ⟨g, 1, none⟩ = some (.int .i64 S.fault) := (h.blk g rfl).cell 1
    clear h
    rw [wpt_some]
    obtain ⟨R, f⟩ := S
    by_cases h0 : f = 0
    · subst h0
      cases hr : R.isEmpty with
      | true =>
        have HV : Hid (RS.done ⟨R, 0⟩ = 0) := Lib.hid (by unfold RS.done; rw [if_neg (by simpa using hr)])
        go_enter Tryz.func45, Tryz.ntmps45
        go_wp2
        go_ret
        exact ⟨ret_int HV.out.symm, rfl⟩
      | false =>
        have HV : Hid (RS.done ⟨R, 0⟩ = 22) := Lib.hid (by unfold RS.done; rw [if_pos (by simpa using hr)])
        go_enter Tryz.func45, Tryz.ntmps45
        go_wp2
        go_ret
        exact ⟨ret_int HV.out.symm, rfl⟩
    · have HV : Hid (RS.done ⟨R, f⟩ = f) := Lib.hid (by unfold RS.done; rw [if_neg (by simp [h0])])
      have hd : (f == 0) = false := by simpa using h0
      clear h0
      go_enter Tryz.func45, Tryz.ntmps45
      go_wp2
      go_ret
      exact ⟨ret_int HV.out.symm, rfl⟩
theorem read_any (l : List UInt8) (w : World) : Calls Tryz.prog 87 #[sv l] w fun e w' => e = .returned (.pointer (some ⟨w.heap.size, 0, none⟩)) ∧ w.alloc (.cells #[sv l, .int .i64 0] 159) = w' := by
  go_enter Tryz.func87, Tryz.ntmps87
  go_wp2
  go_ret
  exact ⟨rfl, rfl⟩

/-! ### take -/
theorem rtake_stop (p : Option Nat) (S : RS) (n : Int) (w : World) (h : RAt w p S) (h0 : S.fault ≠ 0) : Calls Tryz.prog 93 #[wpt p, .int .i64 n] w (RP p w (sv []) S) := by
  have HS := Lib.hid (rstop_yes p S w h h0)
  have H := Lib.hid h
  clear h h0
  generalize wpt p = P at *
  go_enter Tryz.func93, Tryz.ntmps93
  go_wp2_with (go_at_call 151; refine HS.out.mono ?_; rintro e w' ⟨rfl, rfl⟩)
  go_ret
  exact ⟨rfl, H.out, Fr.refl _ _⟩
set_option maxHeartbeats 400000 in
theorem rtake_short (p : Option Nat) (S : RS) (n : Nat) (w : World) (h : RAt w p S) (h0 : S.fault = 0) (hl : S.rest.length < n) : Calls Tryz.prog 93 #[wpt p, .int .i64 n] w (RP p w (sv []) ⟨[], 20⟩) := by
  have HS := Lib.hid (rstop_no p S w h h0)
  have HF := Lib.hid (rfail_any p S 20 w h)
  have HV : Hid (S.fail 20 = ⟨[], 20⟩) := Lib.hid (by unfold RS.fail; rw [if_pos ⟨by decide, h0⟩])
  obtain ⟨g, rfl⟩ := h.some_of h0
  have c0 : w.cell? ⟨g, 0, none⟩ = some (sv S.rest) := (h.blk g rfl).cell 0
  have hm := h.len
  clear h h0
  rw [wpt_some] at HS HF ⊢
  generalize S.rest = R at *
  go_enter Tryz.func93, Tryz.ntmps93
  go_wp2_with (first | (go_at_call 151; refine HS.out.mono ?_; rintro e w' ⟨rfl, rfl⟩) | (go_at_call 88; refine HF.out.mono ?_; rintro e w' ⟨rfl, h1, h2⟩))
  go_ret
  exact ⟨rfl, by rw [← HV.out]; exact h1, h2⟩
set_option maxHeartbeats 400000 in
theorem rtake_ok (p : Option Nat) (S : RS) (n : Nat) (w : World) (h : RAt w p S) (h0 : S.fault = 0) (hl : n ≤ S.rest.length) : Calls Tryz.prog 93 #[wpt p, .int .i64 n] w (RP p w (sv (S.rest.take n)) ⟨S.rest.drop n, 0⟩) := by
  have HS := Lib.hid (rstop_no p S w h h0)
  obtain ⟨g, rfl⟩ := h.some_of h0
  have hb := h.blk g rfl
  have c0 : w.cell? ⟨g, 0, none⟩ = some (sv S.rest) := hb.cell 0
  have f0 := hb.frozen 0
  have hm := h.len
  rw [h0] at hb
  have hs := hb.set_ 0 (sv (S.rest.drop n))
  have HW : Hid (RAt (w.setCell ⟨g, 0, none⟩ (sv (S.rest.drop n))) (some g) ⟨S.rest.drop n, 0⟩) := Lib.hid ⟨fun k e => by obtain rfl := Option.some.inj e; exact hs, fun e => (by cases e), by simp; omega⟩
  clear h h0 hb hs
  rw [wpt_some] at HS ⊢
  generalize S.rest = R at *
  have ht : (ByteArray.mk R.toArray).extract 0 n = ⟨(R.take n).toArray⟩ := by rw [ext_list, List.drop_zero]
  have hd : (ByteArray.mk R.toArray).extract n R.length = ⟨(R.drop n).toArray⟩ := by rw [ext_list, List.take_length]
  go_enter Tryz.func93, Tryz.ntmps93
  go_wp2_with (go_at_call 151; refine HS.out.mono ?_; rintro e w' ⟨rfl, rfl⟩)
  go_ret
  exact ⟨rfl, HW.out, (Fr.refl (RFt (some g)) w).setCell (p := ⟨g, 0, none⟩) (fun _ => (rfl : some g = some g)) _⟩
theorem rtake_any (p : Option Nat) (S : RS) (n : Nat) (w : World) (h : RAt w p S) : Calls Tryz.prog 93 #[wpt p, .int .i64 n] w (RP p w (sv (S.take n).1) (S.take n).2) := by
  unfold RS.take
  by_cases h0 : S.fault = 0
  · rw [if_pos h0]
    by_cases hl : S.rest.length < n
    · rw [if_pos hl]; exact rtake_short p S n w h h0 hl
    · rw [if_neg hl]; exact rtake_ok p S n w h h0 (by omega)
  · rw [if_neg h0]; exact rtake_stop p S n w h h0
theorem take_len (S : RS) (n : Nat) : (S.take n).1.length ≤ n := by
  unfold RS.take
  split
  · split
    · simp
    · simp; omega
  · simp
theorem take_rest (S : RS) (n : Nat) : (S.take n).2.rest.length ≤ S.rest.length := by
  unfold RS.take
  split
  · split
    · simp
    · simp
  · simp
theorem number_l (l : List UInt8) (hl : l.length ≤ 8) (w : World) : Calls Tryz.prog 92 #[sv l] w fun e w' => e = .returned (.int .u64 (num l : Nat)) ∧ w = w' := number_any ⟨l.toArray⟩ w (by rw [sz]; exact hl)

/-! ### many -/
set_option maxHeartbeats 1000000 in
theorem rmany_any (p : Option Nat) (S : RS) (k : Nat) (hk : 0 < k) (hk8 : k ≤ 8) (w : World) (h : RAt w p S) : Calls Tryz.prog 154 #[wpt p, .int .i64 k] w (RP p w (.int .i64 (S.many k).1) (S.many k).2) := by
  have HT : Hid (Calls Tryz.prog 93 #[wpt p, .int .i64 4] w (RP p w (sv (S.take 4).1) (S.take 4).2)) := Lib.hid (rtake_any p S 4 w h)
  have hl4 := take_len S 4
  have HN : Hid (∀ w, Calls Tryz.prog 92 #[sv (S.take 4).1] w fun e w' => e = .returned (.int .u64 (num (S.take 4).1 : Nat)) ∧ w = w') := Lib.hid fun w => number_l _ (by omega) w
  have hn : num (S.take 4).1 < 4294967296 := by
    have h1 := num_lt (S.take 4).1
    have h2 : 256 ^ (S.take 4).1.length ≤ 256 ^ 4 := Nat.pow_le_pow_right (by decide) hl4
    omega
  have hr : (S.take 4).2.rest.length ≤ 1073741824 := Nat.le_trans (take_rest S 4) h.len
  have HV : Hid (S.many k = if num (S.take 4).1 > (S.take 4).2.rest.length / k then (0, (S.take 4).2.fail 20) else (num (S.take 4).1, (S.take 4).2)) := Lib.hid rfl
  clear h hl4
  generalize (S.take 4).1 = B at *
  generalize (S.take 4).2 = S1 at *
  obtain ⟨q, hq⟩ : ∃ q, S1.rest.length / k = q := ⟨_, rfl⟩
  have hqq : ((S1.rest.length : Nat) : Int) / (k : Int) = (q : Int) := by rw [← hq]; omega
  have hqr : q ≤ 1073741824 := by rw [← hq]; exact Nat.le_trans (Nat.div_le_self _ _) hr
  rw [hq] at HV
  have HQ := Lib.hid hq
  generalize num B = n at *
  generalize hP : wpt p = P at *
  have HP := Lib.hid hP
  clear hP hq
  by_cases hgt : q < n
  · have HV2 : Hid (S.many k = (0, S1.fail 20)) := Lib.hid (by rw [HV.out, if_pos hgt])
    clear HV
    go_enter Tryz.func154, Tryz.ntmps154
    go_wp2_with fail
    refine HT.out.mono ?_
    rintro e w1 ⟨rfl, h1, f1⟩
    have H1 := Lib.hid h1
    have F1 := Lib.hid f1
    clear h1 f1
    go_wp2_with (first
      | (go_at_call 92; refine (HN.out _).mono ?_; rintro e w' ⟨rfl, rfl⟩)
      | (go_at_call 91; rw [← HP.out]; refine (rleft_any p S1 _ H1.out).mono ?_; rintro e w' ⟨rfl, rfl⟩)
      | (go_at_call 88; refine (rfail_any p S1 20 _ H1.out).mono ?_; rintro e w2 ⟨rfl, h2, f2⟩))
    go_ret
    exact ⟨by rw [HV2.out]; rfl, by rw [HV2.out]; exact h2, F1.out.trans f2 fun _ _ h => h⟩
  · have HV2 : Hid (S.many k = (n, S1)) := Lib.hid (by rw [HV.out, if_neg hgt])
    clear HV
    go_enter Tryz.func154, Tryz.ntmps154
    go_wp2_with fail
    refine HT.out.mono ?_
    rintro e w1 ⟨rfl, h1, f1⟩
    have H1 := Lib.hid h1
    have F1 := Lib.hid f1
    clear h1 f1
    go_wp2_with (first
      | (go_at_call 92; refine (HN.out _).mono ?_; rintro e w' ⟨rfl, rfl⟩)
      | (go_at_call 91; rw [← HP.out]; refine (rleft_any p S1 _ H1.out).mono ?_; rintro e w' ⟨rfl, rfl⟩))
    go_ret
    exact ⟨by rw [HV2.out]; rfl, by rw [HV2.out]; exact H1.out, F1.out⟩
end Go.Proofs.YtoaiofjcjjkfaaaGreatDoor
/- What a reader tells: plain things, and the zero one with an error. -/
namespace Go.Proofs.YtoaiofjcjjkfaaaGreatDoor
open Go.RowKit Go.Maps
set_option linter.unusedVariables false

theorem told88_ok (V : Value) (P : Value) (w : World) (HS : Hid (Calls Tryz.prog 151 #[P] w fun e w' => e = .returned (.bool false) ∧ w = w')) : Calls Tryz.prog 94 #[P, V] w fun e w' => e = .returned (V) ∧ w = w' := by
  go_enter Tryz.func94, Tryz.ntmps94
  go_wp2_with (go_at_call 151; refine HS.out.mono ?_; rintro e w' ⟨rfl, rfl⟩)
  go_ret
  exact ⟨rfl, rfl⟩
theorem told88_no (V : Value) (P : Value) (w : World) (HS : Hid (Calls Tryz.prog 151 #[P] w fun e w' => e = .returned (.bool true) ∧ w = w')) : Calls Tryz.prog 94 #[P, V] w fun e w' => e = .returned (.int .i64 0) ∧ w = w' := by
  go_enter Tryz.func94, Tryz.ntmps94
  go_wp2_with (go_at_call 151; refine HS.out.mono ?_; rintro e w' ⟨rfl, rfl⟩)
  go_ret
  exact ⟨rfl, rfl⟩
theorem told88 (p : Option Nat) (S : RS) (V : Value) (w : World) (h : RAt w p S) : Calls Tryz.prog 94 #[wpt p, V] w fun e w' => e = .returned (if S.fault = 0 then V else .int .i64 0) ∧ w = w' := by
  by_cases h0 : S.fault = 0
  · rw [if_pos h0]; exact told88_ok V _ w (Lib.hid (rstop_no p S w h h0))
  · rw [if_neg h0]; exact told88_no V _ w (Lib.hid (rstop_yes p S w h h0))
theorem told103_ok (V : Value) (P : Value) (w : World) (HS : Hid (Calls Tryz.prog 151 #[P] w fun e w' => e = .returned (.bool false) ∧ w = w')) : Calls Tryz.prog 200 #[P, V] w fun e w' => e = .returned (V) ∧ w = w' := by
  go_enter Tryz.func200, Tryz.ntmps200
  go_wp2_with (go_at_call 151; refine HS.out.mono ?_; rintro e w' ⟨rfl, rfl⟩)
  go_ret
  exact ⟨rfl, rfl⟩
theorem told103_no (V : Value) (P : Value) (w : World) (HS : Hid (Calls Tryz.prog 151 #[P] w fun e w' => e = .returned (.bool true) ∧ w = w')) : Calls Tryz.prog 200 #[P, V] w fun e w' => e = .returned (.slice none 0 0) ∧ w = w' := by
  go_enter Tryz.func200, Tryz.ntmps200
  go_wp2_with (go_at_call 151; refine HS.out.mono ?_; rintro e w' ⟨rfl, rfl⟩)
  go_ret
  exact ⟨rfl, rfl⟩
theorem told103 (p : Option Nat) (S : RS) (V : Value) (w : World) (h : RAt w p S) : Calls Tryz.prog 200 #[wpt p, V] w fun e w' => e = .returned (if S.fault = 0 then V else .slice none 0 0) ∧ w = w' := by
  by_cases h0 : S.fault = 0
  · rw [if_pos h0]; exact told103_ok V _ w (Lib.hid (rstop_no p S w h h0))
  · rw [if_neg h0]; exact told103_no V _ w (Lib.hid (rstop_yes p S w h h0))
theorem told105_ok (V : Value) (P : Value) (w : World) (HS : Hid (Calls Tryz.prog 151 #[P] w fun e w' => e = .returned (.bool false) ∧ w = w')) : Calls Tryz.prog 181 #[P, V] w fun e w' => e = .returned (V) ∧ w = w' := by
  go_enter Tryz.func181, Tryz.ntmps181
  go_wp2_with (go_at_call 151; refine HS.out.mono ?_; rintro e w' ⟨rfl, rfl⟩)
  go_ret
  exact ⟨rfl, rfl⟩
theorem told105_no (V : Value) (P : Value) (w : World) (HS : Hid (Calls Tryz.prog 151 #[P] w fun e w' => e = .returned (.bool true) ∧ w = w')) : Calls Tryz.prog 181 #[P, V] w fun e w' => e = .returned (.slice none 0 0) ∧ w = w' := by
  go_enter Tryz.func181, Tryz.ntmps181
  go_wp2_with (go_at_call 151; refine HS.out.mono ?_; rintro e w' ⟨rfl, rfl⟩)
  go_ret
  exact ⟨rfl, rfl⟩
theorem told105 (p : Option Nat) (S : RS) (V : Value) (w : World) (h : RAt w p S) : Calls Tryz.prog 181 #[wpt p, V] w fun e w' => e = .returned (if S.fault = 0 then V else .slice none 0 0) ∧ w = w' := by
  by_cases h0 : S.fault = 0
  · rw [if_pos h0]; exact told105_ok V _ w (Lib.hid (rstop_no p S w h h0))
  · rw [if_neg h0]; exact told105_no V _ w (Lib.hid (rstop_yes p S w h h0))
theorem told106_ok (V : Value) (P : Value) (w : World) (HS : Hid (Calls Tryz.prog 151 #[P] w fun e w' => e = .returned (.bool false) ∧ w = w')) : Calls Tryz.prog 155 #[P, V] w fun e w' => e = .returned (V) ∧ w = w' := by
  go_enter Tryz.func155, Tryz.ntmps155
  go_wp2_with (go_at_call 151; refine HS.out.mono ?_; rintro e w' ⟨rfl, rfl⟩)
  go_ret
  exact ⟨rfl, rfl⟩
theorem told106_no (V : Value) (P : Value) (w : World) (HS : Hid (Calls Tryz.prog 151 #[P] w fun e w' => e = .returned (.bool true) ∧ w = w')) : Calls Tryz.prog 155 #[P, V] w fun e w' => e = .returned (.slice none 0 0) ∧ w = w' := by
  go_enter Tryz.func155, Tryz.ntmps155
  go_wp2_with (go_at_call 151; refine HS.out.mono ?_; rintro e w' ⟨rfl, rfl⟩)
  go_ret
  exact ⟨rfl, rfl⟩
theorem told106 (p : Option Nat) (S : RS) (V : Value) (w : World) (h : RAt w p S) : Calls Tryz.prog 155 #[wpt p, V] w fun e w' => e = .returned (if S.fault = 0 then V else .slice none 0 0) ∧ w = w' := by
  by_cases h0 : S.fault = 0
  · rw [if_pos h0]; exact told106_ok V _ w (Lib.hid (rstop_no p S w h h0))
  · rw [if_neg h0]; exact told106_no V _ w (Lib.hid (rstop_yes p S w h h0))
set_option maxHeartbeats 400000 in
theorem told93_ok (P : Value) (A1 A2 : Option Addr) (n1 n2 c1 c2 : Nat) (w : World) (HS : Hid (∀ w1, Below w.heap.size w w1 → Calls Tryz.prog 151 #[P] w1 fun e w' => e = .returned (.bool false) ∧ w1 = w')) : Calls Tryz.prog 157 #[P, .agg #[.slice A1 n1 c1, .slice A2 n2 c2]] w fun e w' => e = .returned (.agg #[.slice A1 n1 c1, .slice A2 n2 c2]) ∧ Below w.heap.size w w' := by
  go_enter Tryz.func157, Tryz.ntmps157
  go_wp2_with (go_at_call 151; refine (HS.out _ (((Below.refl _ _).alloc (Nat.le_refl _) _).alloc (by simp) _)).mono ?_; rintro e w' ⟨rfl, rfl⟩)
  refine bodyPost_ret (v := .agg #[.slice A1 n1 c1, .slice A2 n2 c2]) (by simp [results, Tryz.results157, go_sem]) rfl ⟨rfl, ?_⟩
  first | exact Fr.below (((Fr.refl No w).alloc _).alloc _) | exact Fr.below ((((Fr.refl No w).alloc _).alloc _).alloc _)
set_option maxHeartbeats 400000 in
theorem told93_no (P : Value) (A1 A2 : Option Addr) (n1 n2 c1 c2 : Nat) (w : World) (HS : Hid (∀ w1, Below w.heap.size w w1 → Calls Tryz.prog 151 #[P] w1 fun e w' => e = .returned (.bool true) ∧ w1 = w')) : Calls Tryz.prog 157 #[P, .agg #[.slice A1 n1 c1, .slice A2 n2 c2]] w fun e w' => e = .returned (.agg #[.slice none 0 0, .slice none 0 0]) ∧ Below w.heap.size w w' := by
  go_enter Tryz.func157, Tryz.ntmps157
  go_wp2_with (go_at_call 151; refine (HS.out _ (((Below.refl _ _).alloc (Nat.le_refl _) _).alloc (by simp) _)).mono ?_; rintro e w' ⟨rfl, rfl⟩)
  refine bodyPost_ret (v := .agg #[.slice none 0 0, .slice none 0 0]) (by simp [results, Tryz.results157, go_sem]) rfl ⟨rfl, ?_⟩
  first | exact Fr.below (((Fr.refl No w).alloc _).alloc _) | exact Fr.below ((((Fr.refl No w).alloc _).alloc _).alloc _)
theorem told93 (p : Option Nat) (S : RS) (A1 A2 : Option Addr) (n1 n2 c1 c2 : Nat) (w : World) (h : RAt w p S) : Calls Tryz.prog 157 #[wpt p, .agg #[.slice A1 n1 c1, .slice A2 n2 c2]] w fun e w' => e = .returned (.agg (if S.fault = 0 then #[.slice A1 n1 c1, .slice A2 n2 c2] else #[.slice none 0 0, .slice none 0 0])) ∧ Below w.heap.size w w' := by
  by_cases h0 : S.fault = 0
  · rw [if_pos h0]; exact told93_ok _ A1 A2 n1 n2 c1 c2 w (Lib.hid fun w1 hb => rstop_no p S w1 (h.below hb) h0)
  · rw [if_neg h0]; exact told93_no _ A1 A2 n1 n2 c1 c2 w (Lib.hid fun w1 hb => rstop_yes p S w1 (h.below hb) h0)
set_option maxHeartbeats 400000 in
theorem told95_ok (P : Value) (A1 A2 : Option Addr) (n1 n2 c1 c2 : Nat) (w : World) (HS : Hid (∀ w1, Below w.heap.size w w1 → Calls Tryz.prog 151 #[P] w1 fun e w' => e = .returned (.bool false) ∧ w1 = w')) : Calls Tryz.prog 153 #[P, .agg #[.slice A1 n1 c1, .slice A2 n2 c2]] w fun e w' => e = .returned (.agg #[.slice A1 n1 c1, .slice A2 n2 c2]) ∧ Below w.heap.size w w' := by
  go_enter Tryz.func153, Tryz.ntmps153
  go_wp2_with (go_at_call 151; refine (HS.out _ (((Below.refl _ _).alloc (Nat.le_refl _) _).alloc (by simp) _)).mono ?_; rintro e w' ⟨rfl, rfl⟩)
  refine bodyPost_ret (v := .agg #[.slice A1 n1 c1, .slice A2 n2 c2]) (by simp [results, Tryz.results153, go_sem]) rfl ⟨rfl, ?_⟩
  first | exact Fr.below (((Fr.refl No w).alloc _).alloc _) | exact Fr.below ((((Fr.refl No w).alloc _).alloc _).alloc _)
set_option maxHeartbeats 400000 in
theorem told95_no (P : Value) (A1 A2 : Option Addr) (n1 n2 c1 c2 : Nat) (w : World) (HS : Hid (∀ w1, Below w.heap.size w w1 → Calls Tryz.prog 151 #[P] w1 fun e w' => e = .returned (.bool true) ∧ w1 = w')) : Calls Tryz.prog 153 #[P, .agg #[.slice A1 n1 c1, .slice A2 n2 c2]] w fun e w' => e = .returned (.agg #[.slice none 0 0, .slice none 0 0]) ∧ Below w.heap.size w w' := by
  go_enter Tryz.func153, Tryz.ntmps153
  go_wp2_with (go_at_call 151; refine (HS.out _ (((Below.refl _ _).alloc (Nat.le_refl _) _).alloc (by simp) _)).mono ?_; rintro e w' ⟨rfl, rfl⟩)
  refine bodyPost_ret (v := .agg #[.slice none 0 0, .slice none 0 0]) (by simp [results, Tryz.results153, go_sem]) rfl ⟨rfl, ?_⟩
  first | exact Fr.below (((Fr.refl No w).alloc _).alloc _) | exact Fr.below ((((Fr.refl No w).alloc _).alloc _).alloc _)
theorem told95 (p : Option Nat) (S : RS) (A1 A2 : Option Addr) (n1 n2 c1 c2 : Nat) (w : World) (h : RAt w p S) : Calls Tryz.prog 153 #[wpt p, .agg #[.slice A1 n1 c1, .slice A2 n2 c2]] w fun e w' => e = .returned (.agg (if S.fault = 0 then #[.slice A1 n1 c1, .slice A2 n2 c2] else #[.slice none 0 0, .slice none 0 0])) ∧ Below w.heap.size w w' := by
  by_cases h0 : S.fault = 0
  · rw [if_pos h0]; exact told95_ok _ A1 A2 n1 n2 c1 c2 w (Lib.hid fun w1 hb => rstop_no p S w1 (h.below hb) h0)
  · rw [if_neg h0]; exact told95_no _ A1 A2 n1 n2 c1 c2 w (Lib.hid fun w1 hb => rstop_yes p S w1 (h.below hb) h0)
end Go.Proofs.YtoaiofjcjjkfaaaGreatDoor
/- A reader takes up bytes, numbers, counts, texts. -/
namespace Go.Proofs.YtoaiofjcjjkfaaaGreatDoor
open Go.RowKit Go.Maps
set_option linter.unusedVariables false

def RS.byte (S : RS) : Nat × RS := (num (S.take 1).1, (S.take 1).2)
def RS.int (S : RS) : Int × RS := (IntKind.i64.wrap (num (S.take 8).1 : Nat), (S.take 8).2)
def RS.count (S : RS) (most : Int) : Nat × RS := if ((num (S.take 4).1 : Nat) : Int) > most then (0, (S.take 4).2.fail 23) else (if (S.take 4).2.fault = 0 then num (S.take 4).1 else 0, (S.take 4).2)
def RS.text (S : RS) : List UInt8 × RS := (S.many 1).2.take (S.many 1).1
theorem num_le (l : List UInt8) (k : Nat) (h : l.length ≤ k) : num l < 256 ^ k := Nat.lt_of_lt_of_le (num_lt l) (Nat.pow_le_pow_right (by decide) h)
theorem Fr.then {F : Nat → Prop} {a b c : World} (h : Fr F a b) (k : Fr F b c) : Fr F a c := h.trans k fun _ _ h => h

set_option maxHeartbeats 400000 in
theorem rint_any (p : Option Nat) (S : RS) (w : World) (h : RAt w p S) : Calls Tryz.prog 89 #[wpt p] w (RP p w (.int .i64 S.int.1) S.int.2) := by
  have HT : Hid (Calls Tryz.prog 93 #[wpt p, .int .i64 8] w (RP p w (sv (S.take 8).1) (S.take 8).2)) := Lib.hid (rtake_any p S 8 w h)
  have hl := take_len S 8
  have HN : Hid (∀ w, Calls Tryz.prog 92 #[sv (S.take 8).1] w fun e w' => e = .returned (.int .u64 (num (S.take 8).1 : Nat)) ∧ w = w') := Lib.hid fun w => number_l _ (by omega) w
  have HV : Hid (S.int = (IntKind.i64.wrap (num (S.take 8).1 : Nat), (S.take 8).2)) := Lib.hid rfl
  clear h hl
  generalize (S.take 8).1 = B at *
  generalize (S.take 8).2 = S1 at *
  generalize num B = n at *
  obtain ⟨m, hm⟩ : ∃ m, IntKind.i64.wrap (n : Int) = m := ⟨_, rfl⟩
  rw [hm] at HV
  generalize wpt p = P at *
  go_enter Tryz.func89, Tryz.ntmps89
  go_wp2_with fail
  refine HT.out.mono ?_
  rintro e w1 ⟨rfl, h1, f1⟩
  have H1 := Lib.hid h1
  have F1 := Lib.hid f1
  clear h1 f1
  go_wp2_with (go_at_call 92; refine (HN.out _).mono ?_; rintro e w' ⟨rfl, rfl⟩)
  go_ret
  exact ⟨by rw [HV.out]; rfl, by rw [HV.out]; exact H1.out, F1.out⟩
set_option maxHeartbeats 1000000 in
theorem rcount_any (p : Option Nat) (S : RS) (most : Int) (w : World) (h : RAt w p S) : Calls Tryz.prog 44 #[wpt p, .int .i64 most] w (RP p w (.int .i64 ((S.count most).1 : Nat)) (S.count most).2) := by
  have HT : Hid (Calls Tryz.prog 93 #[wpt p, .int .i64 4] w (RP p w (sv (S.take 4).1) (S.take 4).2)) := Lib.hid (rtake_any p S 4 w h)
  have hl := take_len S 4
  have hn : num (S.take 4).1 < 4294967296 := num_le _ 4 hl
  have HN : Hid (∀ w, Calls Tryz.prog 92 #[sv (S.take 4).1] w fun e w' => e = .returned (.int .u64 (num (S.take 4).1 : Nat)) ∧ w = w') := Lib.hid fun w => number_l _ (by omega) w
  have HV : Hid (S.count most = if ((num (S.take 4).1 : Nat) : Int) > most then (0, (S.take 4).2.fail 23) else (if (S.take 4).2.fault = 0 then num (S.take 4).1 else 0, (S.take 4).2)) := Lib.hid rfl
  clear h hl
  generalize (S.take 4).1 = B at *
  generalize (S.take 4).2 = S1 at *
  generalize num B = n at *
  generalize hP : wpt p = P at *
  have HP := Lib.hid hP
  clear hP
  by_cases hgt : (n : Int) > most
  · have HV2 : Hid (S.count most = (0, S1.fail 23)) := Lib.hid (by rw [HV.out, if_pos hgt])
    have hd : decide (most < (n : Int)) = true := by simpa using hgt
    clear HV hgt
    go_enter Tryz.func44, Tryz.ntmps44
    go_wp2_with fail
    refine HT.out.mono ?_
    rintro e w1 ⟨rfl, h1, f1⟩
    have H1 := Lib.hid h1
    have F1 := Lib.hid f1
    clear h1 f1
    go_wp2_with (first
      | (go_at_call 92; refine (HN.out _).mono ?_; rintro e w' ⟨rfl, rfl⟩)
      | (go_at_call 88; rw [← HP.out]; refine (rfail_any p S1 23 _ H1.out).mono ?_; rintro e w2 ⟨rfl, h2, f2⟩))
    go_ret
    exact ⟨by rw [HV2.out]; rfl, by rw [HV2.out]; exact h2, F1.out.then f2⟩
  · have HV2 : Hid (S.count most = (if S1.fault = 0 then n else 0, S1)) := Lib.hid (by rw [HV.out, if_neg hgt])
    have hd : decide (most < (n : Int)) = false := by simpa using hgt
    have HI : Hid ((if S1.fault = 0 then (.int .i64 (n : Int) : Value) else .int .i64 0) = .int .i64 ((if S1.fault = 0 then n else 0 : Nat) : Int)) := Lib.hid (by split <;> rfl)
    clear HV hgt
    generalize (if S1.fault = 0 then n else 0) = m at *
    go_enter Tryz.func44, Tryz.ntmps44
    go_wp2_with fail
    refine HT.out.mono ?_
    rintro e w1 ⟨rfl, h1, f1⟩
    have H1 := Lib.hid h1
    have F1 := Lib.hid f1
    have HTO : Hid (Calls Tryz.prog 94 #[P, .int .i64 (n : Int)] w1 fun e w' => e = .returned (.int .i64 (m : Int)) ∧ w1 = w') := Lib.hid (by rw [← HP.out, ← HI.out]; exact told88 p S1 _ w1 h1)
    clear h1 f1
    go_wp2_with (first
      | (go_at_call 92; refine (HN.out _).mono ?_; rintro e w' ⟨rfl, rfl⟩)
      | (go_at_call 94; refine HTO.out.mono ?_; rintro e w2 ⟨rfl, rfl⟩))
    go_ret
    exact ⟨by rw [HV2.out]; rfl, by rw [HV2.out]; exact H1.out, F1.out⟩
set_option maxHeartbeats 400000 in
theorem rtext_any (p : Option Nat) (S : RS) (w : World) (h : RAt w p S) : Calls Tryz.prog 162 #[wpt p] w (RP p w (sv S.text.1) S.text.2) := by
  have HM : Hid (Calls Tryz.prog 154 #[wpt p, .int .i64 1] w (RP p w (.int .i64 ((S.many 1).1 : Nat)) (S.many 1).2)) := Lib.hid (rmany_any p S 1 (by omega) (by omega) w h)
  have HV : Hid (S.text = (S.many 1).2.take (S.many 1).1) := Lib.hid rfl
  clear h
  generalize (S.many 1).1 = n at *
  generalize (S.many 1).2 = S1 at *
  generalize hP : wpt p = P at *
  have HP := Lib.hid hP
  clear hP
  go_enter Tryz.func162, Tryz.ntmps162
  go_wp2_with fail
  refine HM.out.mono ?_
  rintro e w1 ⟨rfl, h1, f1⟩
  have F1 := Lib.hid f1
  have H2 := Lib.hid (rtake_any p S1 n w1 h1)
  rw [HP.out] at H2
  clear h1 f1
  go_wp2_with (go_at_call 93; refine H2.out.mono ?_; rintro e w2 ⟨rfl, h2, f2⟩)
  go_ret
  exact ⟨by rw [HV.out]; rfl, by rw [HV.out]; exact h2, F1.out.then f2⟩
end Go.Proofs.YtoaiofjcjjkfaaaGreatDoor
/- A reader takes up a cell. -/
namespace Go.Proofs.YtoaiofjcjjkfaaaGreatDoor
open Go.RowKit Go.Maps
set_option linter.unusedVariables false

def RS.cellV (S1 : RS) (k : Nat) : CellP × RS :=
  if k = 0 then (⟨0, 0, []⟩, S1) else if k = 1 then (⟨1, S1.int.1, []⟩, S1.int.2) else if k = 2 then (⟨2, 0, S1.text.1⟩, S1.text.2) else (⟨k, 0, []⟩, S1.fail 22)
def CellP.zero : CellP := ⟨0, 0, []⟩
def RS.cell (S : RS) : CellP × RS := (if (S.byte.2.cellV S.byte.1).2.fault = 0 then (S.byte.2.cellV S.byte.1).1 else CellP.zero, (S.byte.2.cellV S.byte.1).2)
theorem RAt.fr {w w' : World} {p : Option Nat} {S : RS} (h : RAt w p S) {F : Nat → Prop} (hf : Fr F w w') (hF : ∀ k, F k → ¬ RFt p k) : RAt w' p S := h.of fun k hk => hf.block k (h.lt k hk) fun hF' => hF k hF' hk

theorem byte_lt (S : RS) : S.byte.1 < 256 := num_le _ 1 (take_len S 1)
end Go.Proofs.YtoaiofjcjjkfaaaGreatDoor
/- A row of one's own that grows by what a reader tells. -/
namespace Go.Proofs.YtoaiofjcjjkfaaaGreatDoor
open Go.RowKit Go.Maps
set_option linter.unusedVariables false

section
variable {α : Type}
/-- What an element's cells mean may hang on blocks of its own: K says which. -/
structure Elem (E : (Nat → Prop) → World → α → List Value → Prop) : Prop where
  mono : ∀ K K' w w' x cs, E K w x cs → (∀ k, K k → k < w.heap.size → K' k ∧ w'.heap[k]? = w.heap[k]?) → E K' w' x cs

/-- v is a row of one's own in blocks from b on, and reads as l. -/
def Grow (b e size : Nat) (E : (Nat → Prop) → World → α → List Value → Prop) (w : World) (v : Value) (l : List α) : Prop :=
  ∃ (K : Nat → Prop) (xs : List Value), w.ownsRow b e size v l.length xs ∧ (∀ j (h : j < l.length), ∃ cs : List Value, cs.length = size ∧ (∀ i, i < size → xs[j * size + i]? = cs[i]?) ∧ E K w l[j] cs) ∧ (∀ k, K k → b ≤ k ∧ k < w.heap.size ∧ v.ownBlock ≠ some k)

theorem Grow.nil (b e size : Nat) (E : (Nat → Prop) → World → α → List Value → Prop) (w : World) (hb : b ≤ w.heap.size) : Grow b e size E (w.alloc (.cells #[] e)) (.slice (some ⟨w.heap.size, 0, none⟩) 0 0) ([] : List α) := by
  refine ⟨fun _ => False, [], ⟨by simp, .inr ⟨w.heap.size, 0, #[], rfl, hb, heap_alloc_new w _, Nat.le_refl _, by simp, by simp, by simp⟩⟩, fun j h => absurd h (by simp), fun k h => h.elim⟩

theorem Grow.len {b e size : Nat} {E : (Nat → Prop) → World → α → List Value → Prop} {w : World} {v : Value} {l : List α} (h : Grow b e size E w v l) : ∃ A c, v = .slice A l.length c := by
  obtain ⟨K, xs, ho, _⟩ := h
  rcases ho.2 with ⟨e1, h0⟩ | ⟨g, cap, cur, e1, _⟩
  · exact ⟨_, _, by rw [h0]; exact e1⟩
  · exact ⟨_, _, e1⟩

/-- The reader's block, and what is new, are none of the row's. -/
theorem Grow.keep {b e size : Nat} {E : (Nat → Prop) → World → α → List Value → Prop} (hE : Elem E) {w w' : World} {v : Value} {l : List α} (h : Grow b e size E w v l) {F : Nat → Prop} (hf : Fr F w w') (hF : ∀ k, F k → k < b) : Grow b e size E w' v l := by
  obtain ⟨K, xs, ho, hel, hK⟩ := h
  refine ⟨K, xs, own_of ho fun k hk => ?_, fun j hj => ?_, fun k hk => ?_⟩
  · have := ho.lt k hk
    exact hf.block k this.2 fun hF' => by have := hF k hF'; omega
  · obtain ⟨cs, h1, h2, h3⟩ := hel j hj
    exact ⟨cs, h1, h2, hE.mono _ _ _ _ _ _ h3 fun k hk hlt => ⟨hk, hf.block k hlt fun hF' => by have := hF k hF'; have := (hK k hk).1; omega⟩⟩
  · obtain ⟨h1, h2, h3⟩ := hK k hk
    exact ⟨h1, Nat.lt_of_lt_of_le h2 hf.size, h3⟩

/-- One more, laid ahead in a block of its own. -/
theorem Grow.more {b e size bytes : Nat} {E : (Nat → Prop) → World → α → List Value → Prop} (hE : Elem E) {w0 w : World} {v : Value} {l : List α} (h : Grow b e size E w v l) (hb : b ≤ w0.heap.size) (hw0 : w0.heap.size ≤ w.heap.size) (hv0 : ∀ k, v.ownBlock = some k → k < w0.heap.size)
    (t : TypeId) (ht : Tryz.prog.underlying t = some (.slice e)) (z : Value) (hinfo : (Tryz.prog.info? e).map (fun i => (i.zero, i.size, i.bytes)) = some (some z, size, bytes)) (hzs : z.cells.size = size) (hsz : 0 < size)
    (x : α) (cs : List Value) (hcs : cs.length = size) (hone : ∀ u ∈ cs, u.oneCell' = true) (hx : E (fun k => w0.heap.size ≤ k) w x cs) (hlen : (l.length + 1) * bytes ≤ 140737488355328) (hmax : l.length + 1 ≤ maxLen) :
    ∃ A c w', (∀ ty, (Builtin.append_ #[t, t] ty #[v, .slice (some ⟨w.heap.size, 0, none⟩) 1 1]).run Tryz.prog (w.alloc (.cells cs.toArray e)) = .ok (.slice A (l.length + 1) c) w') ∧ Grow b e size E w' (.slice A (l.length + 1) c) (l ++ [x]) ∧
      Fr (fun k => v.ownBlock = some k) w w' ∧ (∀ k, (Value.slice A (l.length + 1) c).ownBlock = some k → k < w'.heap.size) := by
  obtain ⟨K, xs, ho, hel, hK⟩ := h
  obtain ⟨i0, hi, hz0, hz1, hz2⟩ := info_parts hinfo
  have hfa : Fr No w (w.alloc (.cells cs.toArray e)) := (Fr.refl No w).alloc _
  have ho' : (w.alloc (.cells cs.toArray e)).ownsRow b e size v l.length xs := own_of ho fun k hk => hfa.block k (ho.lt k hk).2 id
  have hnews : ∀ j u, cs[j]? = some u → (w.alloc (.cells cs.toArray e)).cell? ((⟨w.heap.size, 0, none⟩ : Addr).add j) = some u := by
    intro j u hu
    rw [Addr.add_lit, Nat.zero_add]
    exact ((Blk.new w e cs.toArray).cell j).trans (by simpa using hu)
  obtain ⟨v', w', hr, how, hgr, hnil, hat⟩ := run_append_own_at (P := Tryz.prog) (w.alloc (.cells cs.toArray e)) b t 0 e i0 z size bytes ht hi hz0 hz1 hz2 hzs hsz v l.length xs ho' ⟨w.heap.size, 0, none⟩ 1 1 cs (by omega) hnews hone hmax hlen (by simp; omega)
  have hv' : ∃ A c, v' = .slice A (l.length + 1) c := by
    rcases how.2 with ⟨e1, h0⟩ | ⟨g, cap, cur, e1, _⟩
    · omega
    · exact ⟨_, _, e1⟩
  obtain ⟨A, c, rfl⟩ := hv'
  have hsize : w.heap.size < (w.alloc (.cells cs.toArray e)).heap.size := by simp
  have hfr : Fr (fun k => v.ownBlock = some k) w w' := hfa.any.grown hgr fun k hk _ => hk
  have hw' : w.heap.size < w'.heap.size := Nat.lt_of_lt_of_le hsize hgr.size
  refine ⟨A, c, w', fun ty => hr, ⟨fun k => K k ∨ (w0.heap.size ≤ k ∧ k < w.heap.size), xs ++ cs, by simpa using how, fun j hj => ?_, fun k hk => ?_⟩, hfr, fun k hk => ?_⟩
  · rw [List.length_append, List.length_singleton] at hj
    by_cases hjl : j < l.length
    · obtain ⟨cs', h1, h2, h3⟩ := hel j hjl
      refine ⟨cs', h1, fun i hi' => ?_, ?_⟩
      · have hlt : j * size + i < xs.length := by
          rw [ho.1]
          have := Nat.mul_le_mul_right size (show j + 1 ≤ l.length by omega)
          rw [Nat.add_mul, Nat.one_mul] at this
          omega
        rw [List.getElem?_append_left hlt]; exact h2 i hi'
      · rw [List.getElem_append_left hjl]
        exact hE.mono _ _ _ _ _ _ h3 fun k hk hlt => ⟨.inl hk, hfr.block k hlt (hK k hk).2.2⟩
    · obtain rfl : j = l.length := by omega
      refine ⟨cs, hcs, fun i hi' => ?_, ?_⟩
      · rw [List.getElem?_append_right (by rw [ho.1]; omega), ho.1, Nat.add_sub_cancel_left]
      · rw [List.getElem_append_right (by omega)]
        simp only [Nat.sub_self, List.getElem_cons_zero]
        exact hE.mono _ _ _ _ _ _ hx fun k hk hlt => ⟨.inr ⟨hk, hlt⟩, hfr.block k hlt fun e => by have := hv0 k e; omega⟩
  · have hatk : ∀ j, (Value.slice A (l.length + 1) c).ownBlock = some j → v.ownBlock = some j ∨ j = (w.alloc (.cells cs.toArray e)).heap.size := fun j hj => by
      rcases hat with e1 | e1
      · exact .inl (e1 ▸ hj)
      · rw [hj] at e1; exact .inr (Option.some.inj e1)
    rcases hk with hk | hk
    · obtain ⟨h1, h2, h3⟩ := hK k hk
      refine ⟨h1, by omega, fun e1 => ?_⟩
      rcases hatk k e1 with e2 | e2
      · exact h3 e2
      · omega
    · refine ⟨by omega, by omega, fun e1 => ?_⟩
      rcases hatk k e1 with e2 | e2
      · have := hv0 k e2; omega
      · omega
  · exact (how.lt k hk).2

/-- What was built, read as any row. -/
theorem Grow.row {b e size : Nat} {E : (Nat → Prop) → World → α → List Value → Prop} (hE : Elem E) {w : World} {v : Value} {l : List α} (h : Grow b e size E w v l) (hl : l.length ≤ maxLen) : RowE (fun k => b ≤ k) w size (E (fun k => b ≤ k) w) v l := by
  obtain ⟨A, c, rfl⟩ := h.len
  obtain ⟨K, xs, ho, hel, hK⟩ := h
  refine ⟨A, c, rfl, hl, fun h0 => ?_⟩
  rcases ho.2 with ⟨e1, h0'⟩ | ⟨g, cap, cur, e1, hg, hh, hn, hcm, hcs, htk⟩
  · omega
  · injection e1 with e1 _ e2
    subst e1; subst e2
    refine ⟨g, 0, rfl, hg, fun j hj => ?_⟩
    obtain ⟨cs, h1, h2, h3⟩ := hel j hj
    refine ⟨cs, h1, fun i hi => ?_, hE.mono _ _ _ _ _ _ h3 fun k hk hlt => ⟨(hK k hk).1, rfl⟩⟩
    rw [cell_of_row w g _ cur e (0, 0) hh, ← h2 i hi, ← htk, List.getElem?_take, Nat.zero_add]
    have hlt : j * size + i < l.length * size := by
      have := Nat.mul_le_mul_right size (show j + 1 ≤ l.length by omega)
      rw [Nat.add_mul, Nat.one_mul] at this
      omega
    rw [if_pos hlt]
    simp
theorem Grow.lt {b e size : Nat} {E : (Nat → Prop) → World → α → List Value → Prop} {w : World} {v : Value} {l : List α} (h : Grow b e size E w v l) : ∀ k, v.ownBlock = some k → b ≤ k ∧ k < w.heap.size := by
  obtain ⟨K, xs, ho, _⟩ := h
  intro k hk
  exact ho.lt k hk
end

def strG (_ : Nat → Prop) (_ : World) (s : List UInt8) (cs : List Value) : Prop := strE s cs
def intG (_ : Nat → Prop) (_ : World) (n : Int) (cs : List Value) : Prop := intE n cs
def cellG (_ : Nat → Prop) (_ : World) (c : CellP) (cs : List Value) : Prop := cellE c cs
theorem strG_elem : Elem strG := ⟨fun _ _ _ _ _ _ h _ => h⟩
theorem intG_elem : Elem intG := ⟨fun _ _ _ _ _ _ h _ => h⟩
theorem cellG_elem : Elem cellG := ⟨fun _ _ _ _ _ _ h _ => h⟩
end Go.Proofs.YtoaiofjcjjkfaaaGreatDoor
/- A reader takes up rows: texts, numbers, cells. -/
namespace Go.Proofs.YtoaiofjcjjkfaaaGreatDoor
open Go.RowKit Go.Maps
set_option linter.unusedVariables false

/-- so many things, one behind the other -/
def seq {α : Type} (f : RS → α × RS) : Nat → RS → List α × RS
  | 0, S => ([], S)
  | j + 1, S => ((seq f j S).1 ++ [(f (seq f j S).2).1], (f (seq f j S).2).2)
theorem seq_len {α : Type} (f : RS → α × RS) (S : RS) : ∀ j, (seq f j S).1.length = j
  | 0 => rfl
  | j + 1 => by simp [seq, seq_len f S j]
/-- behind an error nothing more is taken up -/
def Stops {α : Type} (f : RS → α × RS) : Prop := ∀ S : RS, S.fault ≠ 0 → (f S).2 = S
theorem seq_stop {α : Type} {f : RS → α × RS} (hf : Stops f) (S : RS) (j n : Nat) (hj : j ≤ n) (h : (seq f j S).2.fault ≠ 0) : (seq f n S).2 = (seq f j S).2 := by
  induction n with
  | zero => obtain rfl : j = 0 := by omega
            rfl
  | succ n ih =>
    rcases Nat.lt_or_ge n j with hlt | hge
    · obtain rfl : j = n + 1 := by omega
      rfl
    · have e := ih hge
      show (f (seq f n S).2).2 = _
      rw [e]; exact hf _ h
def RS.several {α : Type} (f : RS → α × RS) (S : RS) (least : Nat) : List α × RS :=
  (if (seq f (S.many least).1 (S.many least).2).2.fault = 0 then (seq f (S.many least).1 (S.many least).2).1 else [], (seq f (S.many least).1 (S.many least).2).2)
theorem take_stops (n : Nat) : Stops fun S => S.take n := fun S h => by
  show (S.take n).2 = S
  unfold RS.take; rw [if_neg h]
theorem many_stop {S : RS} (h : S.fault ≠ 0) (k : Nat) : S.many k = (0, S) := by
  have ht : S.take 4 = ([], S) := by unfold RS.take; rw [if_neg h]
  unfold RS.many
  rw [ht]
  simp [num]
theorem text_stops : Stops RS.text := fun S h => by unfold RS.text; rw [many_stop h]; exact take_stops 0 S h
theorem int_stops : Stops RS.int := fun S h => take_stops 8 S h
theorem byte_stops : Stops RS.byte := fun S h => take_stops 1 S h
theorem fail_stops {S : RS} (h : S.fault ≠ 0) (e : Int) : S.fail e = S := by unfold RS.fail; rw [if_neg (by simp [h])]
theorem cell_stops : Stops RS.cell := fun S h => by
  have hb : S.byte.2 = S := byte_stops S h
  show (S.byte.2.cellV S.byte.1).2 = S
  rw [hb]
  unfold RS.cellV
  split
  · rfl
  · split
    · exact int_stops S h
    · split
      · exact text_stops S h
      · exact fail_stops h 22
theorem several_stops {α : Type} {f : RS → α × RS} (hf : Stops f) (k : Nat) : Stops fun S => S.several f k := fun S h => by
  show (seq f (S.many k).1 (S.many k).2).2 = S
  rw [many_stop h]; rfl
/-- no reader has more left than ahead -/
def Shrinks {α : Type} (f : RS → α × RS) : Prop := ∀ S : RS, (f S).2.rest.length ≤ S.rest.length
theorem fail_rest (S : RS) (e : Int) : (S.fail e).rest.length ≤ S.rest.length := by unfold RS.fail; split <;> simp
theorem many_le (S : RS) (k : Nat) : (S.many k).1 ≤ S.rest.length := by
  unfold RS.many
  split
  · simp
  · have h1 := take_rest S 4
    have h2 : (S.take 4).2.rest.length / k ≤ (S.take 4).2.rest.length := Nat.div_le_self _ _
    simp only
    omega

/-- A call of a reader that tells a row. -/
def RPr {α : Type} (p : Option Nat) (w : World) (size : Nat) (E : (Nat → Prop) → World → α → List Value → Prop) (l : List α) (S' : RS) (e : Ending) (w' : World) : Prop :=
  ∃ V, e = .returned V ∧ RAt w' p S' ∧ Fr (RFt p) w w' ∧ RowE (fun k => w.heap.size ≤ k) w' size (E (fun k => w.heap.size ≤ k) w') V l

theorem take_le (S : RS) (n : Nat) : (S.take n).1.length ≤ S.rest.length := by
  unfold RS.take
  split
  · split
    · simp
    · simp only [List.length_take]; omega
  · simp
theorem many_rest (S : RS) (k : Nat) : (S.many k).2.rest.length ≤ S.rest.length := by
  unfold RS.many
  split
  · exact Nat.le_trans (fail_rest _ _) (take_rest S 4)
  · exact take_rest S 4
theorem text_le (S : RS) : S.text.1.length ≤ S.rest.length := Nat.le_trans (take_le _ _) (many_rest S 1)
theorem int_bd (S : RS) : i64 S.int.1 := by
  unfold RS.int i64
  rw [IntKind.wrap_i64]
  omega
theorem byte_lt' (S : RS) : S.byte.1 < 256 := num_le _ 1 (take_len S 1)
theorem i64_small (n : Nat) (h : n ≤ 1000) : i64 (n : Int) := by unfold i64; omega
theorem cellV_ok (S : RS) (k : Nat) (hk : k < 256) (h : S.rest.length ≤ 1073741824) : (S.cellV k).1.Ok := by
  have hb := int_bd S
  have ht : S.text.1.length ≤ maxLen := by have := text_le S; unfold maxLen; omega
  have hz : ([] : List UInt8).length ≤ maxLen := by simp
  unfold RS.cellV
  split
  · exact ⟨i64_small 0 (by omega), i64_small 0 (by omega), hz⟩
  · split
    · exact ⟨i64_small 1 (by omega), hb, hz⟩
    · split
      · exact ⟨i64_small 2 (by omega), i64_small 0 (by omega), ht⟩
      · exact ⟨i64_small k (by omega), i64_small 0 (by omega), hz⟩
theorem cell_ok (S : RS) (h : S.rest.length ≤ 1073741824) : S.cell.1.Ok := by
  show (if (S.byte.2.cellV S.byte.1).2.fault = 0 then (S.byte.2.cellV S.byte.1).1 else CellP.zero).Ok
  split
  · exact cellV_ok _ _ (byte_lt' S) (Nat.le_trans (take_rest S 1) h)
  · exact ⟨i64_small 0 (by omega), i64_small 0 (by omega), by simp [CellP.zero]⟩

theorem info9 : (Tryz.prog.info? 9).map (fun i => (i.zero, i.size, i.bytes)) = some (some (.string ⟨#[]⟩), 1, 16) := by kernel_rfl
set_option maxRecDepth 100000 in
set_option maxHeartbeats 4000000 in
theorem several_texts (p : Option Nat) (S : RS) (k : Nat) (hk : 0 < k) (hk8 : k ≤ 8) (w : World) (h : RAt w p S) :
    Calls Tryz.prog 180 #[wpt p, .int .i64 (k : Int), .func (.func 162) #[wpt p] #[]] w (RPr p w 1 strG (S.several RS.text k).1 (S.several RS.text k).2) := by
  obtain ⟨b, hb⟩ : ∃ b, w.heap.size = b := ⟨_, rfl⟩
  obtain ⟨w0, hw0⟩ : ∃ w0, w.alloc (.cells #[] 9) = w0 := ⟨_, rfl⟩
  have hpb : ∀ j, RFt p j → j < b := fun j hj => by have := h.lt j hj; omega
  have hg0 : Grow b 9 1 strG w0 (.slice (some ⟨b, 0, none⟩) 0 0) [] := by rw [← hw0, ← hb]; exact Grow.nil w.heap.size 9 1 strG w (Nat.le_refl _)
  have h0 : RAt w0 p S := by rw [← hw0]; exact h.alloc _
  have f0 : Fr (RFt p) w w0 := by rw [← hw0]; exact (Fr.refl _ w).alloc _
  have hml := many_le S k
  have hsl := h.len
  have HM := Lib.hid (rmany_any p S k hk hk8 w0 h0)
  have HV : Hid (S.several RS.text k = (if (seq RS.text (S.many k).1 (S.many k).2).2.fault = 0 then (seq RS.text (S.many k).1 (S.many k).2).1 else [], (seq RS.text (S.many k).1 (S.many k).2).2)) := Lib.hid rfl
  have HG0 := Lib.hid hg0
  have F0 := Lib.hid f0
  have PB := Lib.hid hpb
  have hn : (S.many k).1 ≤ 1073741824 := by omega
  have HBS := Lib.hid (show b = w.heap.size from hb.symm)
  have HW0 := Lib.hid hw0
  generalize (S.many k).1 = n at *
  generalize (S.many k).2 = S1 at *
  generalize hP : wpt p = P at *
  have HP := Lib.hid hP
  clear hP h h0 f0 hpb hg0 hml hsl hk hk8
  go_enter Tryz.func180, Tryz.ntmps180
  go_wp2_with fail
  refine HM.out.mono ?_
  rintro e w1 ⟨rfl, h1, f1⟩
  have hg1 := HG0.out.keep strG_elem f1 PB.out
  have H1 := Lib.hid h1
  have F1 := Lib.hid (F0.out.then f1)
  have G1 := Lib.hid hg1
  clear h1 f1 hg1 hb hw0
  go_wp2
  go_loopw [7, 12] (fun v i wr => ∃ j : Nat, ∃ A c, j ≤ n ∧ i = .int .i64 j ∧ v = .slice A j c ∧ Grow b 9 1 strG wr (.slice A j c) (seq RS.text j S1).1 ∧ RAt wr p (seq RS.text j S1).2 ∧ Fr (RFt p) w wr) (fun _ i _ => n - (intOf i).toNat)
  case atStart => exact ⟨0, _, _, by omega, rfl, rfl, G1.out, H1.out, F1.out⟩
  case round =>
    obtain ⟨j, A, c, hj, rfl, rfl, hg, hr, hf⟩ := hrel
    have HG := Lib.hid hg
    have HR0 := Lib.hid hr
    have HF := Lib.hid hf
    have HQ : Hid (seq RS.text (j + 1) S1 = ((seq RS.text j S1).1 ++ [(RS.text (seq RS.text j S1).2).1], (RS.text (seq RS.text j S1).2).2)) := Lib.hid rfl
    have HL := Lib.hid (seq_len RS.text S1 j)
    clear hg hr hf
    by_cases hlt : j < n
    · go_wp2_with fail
      rw [← HP.out]
      refine (rtext_any p (seq RS.text j S1).2 wr HR0.out).mono ?_
      rintro e w3 ⟨rfl, h3, f3⟩
      have hg3 := HG.out.keep strG_elem f3 PB.out
      have hel : strG (fun x => wr.heap.size ≤ x) w3 (RS.text (seq RS.text j S1).2).1 [sv (RS.text (seq RS.text j S1).2).1] := ⟨rfl, by have := text_le (seq RS.text j S1).2; have := HR0.out.len; unfold maxLen; omega⟩
      obtain ⟨A', c', w4, hap, hg4, f4, hlt4⟩ := hg3.more strG_elem (w0 := wr) (by rw [HBS.out]; exact HF.out.size) f3.size (fun x hx => (HG.out.lt x hx).2) 22 Tryz.underlying22 (.string ⟨#[]⟩) info9 rfl (by omega) _ [sv (RS.text (seq RS.text j S1).2).1] rfl (by simp [Value.oneCell']) hel (by rw [HL.out]; omega) (by rw [HL.out]; unfold maxLen; omega)
      rw [HL.out] at hap hg4
      have h4 : RAt w4 p (RS.text (seq RS.text j S1).2).2 := h3.fr f4 fun x hx hx' => by have := (HG.out.lt x hx).1; have := PB.out x hx'; omega
      have hf4 : Fr (RFt p) w w4 := (HF.out.then f3).trans f4 fun x hlx hx => by have := (HG.out.lt x hx).1; have := HBS.out; omega
      have HAP := Lib.hid hap
      have HG4 : Hid (Grow b 9 1 strG w4 (.slice A' (j + 1) c') (seq RS.text (j + 1) S1).1) := Lib.hid (by rw [HQ.out]; exact hg4)
      have HR4 : Hid (RAt w4 p (seq RS.text (j + 1) S1).2) := Lib.hid (by rw [HQ.out]; exact h4)
      have HF4 := Lib.hid hf4
      clear h3 f3 hg3 hel hap hg4 f4 hlt4 h4 hf4
      rw [HP.out]
      go_wp2_with (at_builtin; refine wpList_add rfl _ _ _ _ rfl _ _ _ _ rfl rfl (HAP.out _) ?_)
      by_cases hz : (seq RS.text (j + 1) S1).2.fault = 0
      · have HZ := Lib.hid hz
        clear hz
        rw [← HP.out]
        refine (rstop_no p _ w4 HR4.out HZ.out).mono ?_
        rintro e w' ⟨rfl, rfl⟩
        rw [HP.out]
        go_wp2
        go_roundw
        case rel => exact ⟨j + 1, A', c', by omega, by go_num, by go_num, HG4.out, HR4.out, HF4.out⟩
        case measure => simp [intOf]; omega
      · have HZ := Lib.hid hz
        clear hz
        rw [← HP.out]
        refine (rstop_yes p _ w4 HR4.out HZ.out).mono ?_
        rintro e w' ⟨rfl, rfl⟩
        rw [HP.out]
        go_wp2_with fail
        rw [← HP.out]
        refine (told103 p _ _ w4 HR4.out).mono ?_
        rw [if_neg HZ.out]
        rintro e w' ⟨rfl, rfl⟩
        have HE : Hid (S.several RS.text k = ([], (seq RS.text (j + 1) S1).2)) := Lib.hid (by rw [HV.out, seq_stop text_stops S1 (j + 1) n (by omega) HZ.out, if_neg HZ.out])
        go_wp2
        go_ret
        exact ⟨_, rfl, by rw [HE.out]; exact HR4.out, HF4.out, by rw [HE.out]; exact RowE.nil _ _ _ _ _⟩
    · obtain rfl : j = n := by omega
      go_wp2_with fail
      rw [← HP.out]
      refine (told103 p _ _ _ HR0.out).mono ?_
      by_cases hz : (seq RS.text j S1).2.fault = 0
      · rw [if_pos hz]
        rintro e w' ⟨rfl, rfl⟩
        have HE : Hid (S.several RS.text k = seq RS.text j S1) := Lib.hid (by rw [HV.out, if_pos hz])
        have hrow := HG.out.row strG_elem (by rw [HL.out]; unfold maxLen; omega)
        rw [HBS.out] at hrow
        have HROW := Lib.hid hrow
        clear hz hrow
        go_wp2
        go_ret
        exact ⟨_, rfl, by rw [HE.out]; exact HR0.out, HF.out, by rw [HE.out]; exact HROW.out⟩
      · rw [if_neg hz]
        rintro e w' ⟨rfl, rfl⟩
        have HE : Hid (S.several RS.text k = ([], (seq RS.text j S1).2)) := Lib.hid (by rw [HV.out, if_neg hz])
        clear hz
        go_wp2
        go_ret
        exact ⟨_, rfl, by rw [HE.out]; exact HR0.out, HF.out, by rw [HE.out]; exact RowE.nil _ _ _ _ _⟩
end Go.Proofs.YtoaiofjcjjkfaaaGreatDoor
/- A reader takes up rows of numbers, of cells. -/
namespace Go.Proofs.YtoaiofjcjjkfaaaGreatDoor
open Go.RowKit Go.Maps
set_option linter.unusedVariables false

theorem info2 : (Tryz.prog.info? 2).map (fun i => (i.zero, i.size, i.bytes)) = some (some (.int .i64 0), 1, 8) := by kernel_rfl
set_option maxRecDepth 100000 in
set_option maxHeartbeats 4000000 in
theorem several_ints (p : Option Nat) (S : RS) (k : Nat) (hk : 0 < k) (hk8 : k ≤ 8) (w : World) (h : RAt w p S) :
    Calls Tryz.prog 156 #[wpt p, .int .i64 (k : Int), .func (.func 89) #[wpt p] #[]] w (RPr p w 1 intG (S.several RS.int k).1 (S.several RS.int k).2) := by
  obtain ⟨b, hb⟩ : ∃ b, w.heap.size = b := ⟨_, rfl⟩
  obtain ⟨w0, hw0⟩ : ∃ w0, w.alloc (.cells #[] 2) = w0 := ⟨_, rfl⟩
  have hpb : ∀ j, RFt p j → j < b := fun j hj => by have := h.lt j hj; omega
  have hg0 : Grow b 2 1 intG w0 (.slice (some ⟨b, 0, none⟩) 0 0) [] := by rw [← hw0, ← hb]; exact Grow.nil w.heap.size 2 1 intG w (Nat.le_refl _)
  have h0 : RAt w0 p S := by rw [← hw0]; exact h.alloc _
  have f0 : Fr (RFt p) w w0 := by rw [← hw0]; exact (Fr.refl _ w).alloc _
  have hml := many_le S k
  have hsl := h.len
  have HM := Lib.hid (rmany_any p S k hk hk8 w0 h0)
  have HV : Hid (S.several RS.int k = (if (seq RS.int (S.many k).1 (S.many k).2).2.fault = 0 then (seq RS.int (S.many k).1 (S.many k).2).1 else [], (seq RS.int (S.many k).1 (S.many k).2).2)) := Lib.hid rfl
  have HG0 := Lib.hid hg0
  have F0 := Lib.hid f0
  have PB := Lib.hid hpb
  have hn : (S.many k).1 ≤ 1073741824 := by omega
  have HBS := Lib.hid (show b = w.heap.size from hb.symm)
  have HW0 := Lib.hid hw0
  generalize (S.many k).1 = n at *
  generalize (S.many k).2 = S1 at *
  generalize hP : wpt p = P at *
  have HP := Lib.hid hP
  clear hP h h0 f0 hpb hg0 hml hsl hk hk8
  go_enter Tryz.func156, Tryz.ntmps156
  go_wp2_with fail
  refine HM.out.mono ?_
  rintro e w1 ⟨rfl, h1, f1⟩
  have hg1 := HG0.out.keep intG_elem f1 PB.out
  have H1 := Lib.hid h1
  have F1 := Lib.hid (F0.out.then f1)
  have G1 := Lib.hid hg1
  clear h1 f1 hg1 hb hw0
  go_wp2
  go_loopw [7, 12] (fun v i wr => ∃ j : Nat, ∃ A c, j ≤ n ∧ i = .int .i64 j ∧ v = .slice A j c ∧ Grow b 2 1 intG wr (.slice A j c) (seq RS.int j S1).1 ∧ RAt wr p (seq RS.int j S1).2 ∧ Fr (RFt p) w wr) (fun _ i _ => n - (intOf i).toNat)
  case atStart => exact ⟨0, _, _, by omega, rfl, rfl, G1.out, H1.out, F1.out⟩
  case round =>
    obtain ⟨j, A, c, hj, rfl, rfl, hg, hr, hf⟩ := hrel
    have HG := Lib.hid hg
    have HR0 := Lib.hid hr
    have HF := Lib.hid hf
    have HQ : Hid (seq RS.int (j + 1) S1 = ((seq RS.int j S1).1 ++ [(RS.int (seq RS.int j S1).2).1], (RS.int (seq RS.int j S1).2).2)) := Lib.hid rfl
    have HL := Lib.hid (seq_len RS.int S1 j)
    clear hg hr hf
    by_cases hlt : j < n
    · go_wp2_with fail
      rw [← HP.out]
      refine (rint_any p (seq RS.int j S1).2 wr HR0.out).mono ?_
      rintro e w3 ⟨rfl, h3, f3⟩
      have hg3 := HG.out.keep intG_elem f3 PB.out
      have hel : intG (fun x => wr.heap.size ≤ x) w3 (RS.int (seq RS.int j S1).2).1 [.int .i64 (RS.int (seq RS.int j S1).2).1] := ⟨rfl, int_bd _⟩
      obtain ⟨A', c', w4, hap, hg4, f4, hlt4⟩ := hg3.more intG_elem (w0 := wr) (by rw [HBS.out]; exact HF.out.size) f3.size (fun x hx => (HG.out.lt x hx).2) 137 Tryz.underlying137 (.int .i64 0) info2 rfl (by omega) _ [.int .i64 (RS.int (seq RS.int j S1).2).1] rfl (by simp [Value.oneCell']) hel (by rw [HL.out]; omega) (by rw [HL.out]; unfold maxLen; omega)
      rw [HL.out] at hap hg4
      have h4 : RAt w4 p (RS.int (seq RS.int j S1).2).2 := h3.fr f4 fun x hx hx' => by have := (HG.out.lt x hx).1; have := PB.out x hx'; omega
      have hf4 : Fr (RFt p) w w4 := (HF.out.then f3).trans f4 fun x hlx hx => by have := (HG.out.lt x hx).1; have := HBS.out; omega
      have HAP := Lib.hid hap
      have HG4 : Hid (Grow b 2 1 intG w4 (.slice A' (j + 1) c') (seq RS.int (j + 1) S1).1) := Lib.hid (by rw [HQ.out]; exact hg4)
      have HR4 : Hid (RAt w4 p (seq RS.int (j + 1) S1).2) := Lib.hid (by rw [HQ.out]; exact h4)
      have HF4 := Lib.hid hf4
      clear h3 f3 hg3 hel hap hg4 f4 hlt4 h4 hf4
      rw [HP.out]
      go_wp2_with (at_builtin; refine wpList_add rfl _ _ _ _ rfl _ _ _ _ rfl rfl (HAP.out _) ?_)
      by_cases hz : (seq RS.int (j + 1) S1).2.fault = 0
      · have HZ := Lib.hid hz
        clear hz
        rw [← HP.out]
        refine (rstop_no p _ w4 HR4.out HZ.out).mono ?_
        rintro e w' ⟨rfl, rfl⟩
        rw [HP.out]
        go_wp2
        go_roundw
        case rel => exact ⟨j + 1, A', c', by omega, by go_num, by go_num, HG4.out, HR4.out, HF4.out⟩
        case measure => simp [intOf]; omega
      · have HZ := Lib.hid hz
        clear hz
        rw [← HP.out]
        refine (rstop_yes p _ w4 HR4.out HZ.out).mono ?_
        rintro e w' ⟨rfl, rfl⟩
        rw [HP.out]
        go_wp2_with fail
        rw [← HP.out]
        refine (told105 p _ _ w4 HR4.out).mono ?_
        rw [if_neg HZ.out]
        rintro e w' ⟨rfl, rfl⟩
        have HE : Hid (S.several RS.int k = ([], (seq RS.int (j + 1) S1).2)) := Lib.hid (by rw [HV.out, seq_stop int_stops S1 (j + 1) n (by omega) HZ.out, if_neg HZ.out])
        go_wp2
        go_ret
        exact ⟨_, rfl, by rw [HE.out]; exact HR4.out, HF4.out, by rw [HE.out]; exact RowE.nil _ _ _ _ _⟩
    · obtain rfl : j = n := by omega
      go_wp2_with fail
      rw [← HP.out]
      refine (told105 p _ _ _ HR0.out).mono ?_
      by_cases hz : (seq RS.int j S1).2.fault = 0
      · rw [if_pos hz]
        rintro e w' ⟨rfl, rfl⟩
        have HE : Hid (S.several RS.int k = seq RS.int j S1) := Lib.hid (by rw [HV.out, if_pos hz])
        have hrow := HG.out.row intG_elem (by rw [HL.out]; unfold maxLen; omega)
        rw [HBS.out] at hrow
        have HROW := Lib.hid hrow
        clear hz hrow
        go_wp2
        go_ret
        exact ⟨_, rfl, by rw [HE.out]; exact HR0.out, HF.out, by rw [HE.out]; exact HROW.out⟩
      · rw [if_neg hz]
        rintro e w' ⟨rfl, rfl⟩
        have HE : Hid (S.several RS.int k = ([], (seq RS.int j S1).2)) := Lib.hid (by rw [HV.out, if_neg hz])
        clear hz
        go_wp2
        go_ret
        exact ⟨_, rfl, by rw [HE.out]; exact HR0.out, HF.out, by rw [HE.out]; exact RowE.nil _ _ _ _ _⟩
theorem info93 : (Tryz.prog.info? 185).map (fun i => (i.zero, i.size, i.bytes)) = some (some (.agg #[.int .i64 0, .int .i64 0, .string ⟨#[]⟩]), 3, 32) := by kernel_rfl
end Go.Proofs.YtoaiofjcjjkfaaaGreatDoor
