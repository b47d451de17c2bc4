/- fail; the size of a text in quotes. -/
import Derived.Test.YtpdfenpmnpoehaaGreatDoorXA5
namespace Go.Proofs.YtpdfenpmnpoehaaGreatDoor
open Go.RowKit Go.Maps
set_option linter.unusedVariables false

def FailP (B d : Nat) (s : ByteArray) (w : World) (p c f : Nat) (e : Ending) (w' : World) : Prop := e = .returned (.tuple #[]) ∧ ∃ v, Sc B d s w' v p [] c f ∧ Below B w w'
set_option maxRecDepth 100000 in
theorem fail_any {B d : Nat} {s : ByteArray} {w : World} {v : Value} {p : Nat} {l : List Wd} (h : Sc B d s w v p l 0 0) (c on : Nat) (hp : p + on ≤ s.size) (hs : s.size ≤ maxLen) :
    Calls Tryz.prog 57 #[.pointer (some ⟨d, 0, none⟩), .int .i64 (c : Nat), .int .i64 (on : Nat)] w (FailP B d s w p c (p + on)) := by
  have HEND : Hid (FailP B d s w p c (p + on) (.returned (.tuple #[])) (((w.setCell ⟨d, 2, none⟩ (.slice none 0 0)).setCell ⟨d, 3, none⟩ (.int .i64 (c : Nat))).setCell ⟨d, 4, none⟩ (.int .i64 (p + on : Nat)))) := Lib.hid (by
    refine ⟨rfl, .slice none 0 0, ?_⟩
    have hb : Blk (((w.setCell ⟨d, 2, none⟩ (.slice none 0 0)).setCell ⟨d, 3, none⟩ (.int .i64 (c : Nat))).setCell ⟨d, 4, none⟩ (.int .i64 (p + on : Nat))) d 84 #[.string s, .int .i64 (p : Nat), .slice none 0 0, .int .i64 (c : Nat), .int .i64 (p + on : Nat)] := ((h.blk.set_ 2 _).set_ 3 _).set_ 4 _
    have hf : Fr (fun k => k = d) w (((w.setCell ⟨d, 2, none⟩ (.slice none 0 0)).setCell ⟨d, 3, none⟩ (.int .i64 (c : Nat))).setCell ⟨d, 4, none⟩ (.int .i64 (p + on : Nat))) :=
      (((Fr.refl (fun k => k = d) w).setCell (p := ⟨d, 2, none⟩) (fun _ => rfl) _).setCell (p := ⟨d, 3, none⟩) (fun _ => rfl) _).setCell (p := ⟨d, 4, none⟩) (fun _ => rfl) _
    have hbel : Below B w (((w.setCell ⟨d, 2, none⟩ (.slice none 0 0)).setCell ⟨d, 3, none⟩ (.int .i64 (c : Nat))).setCell ⟨d, 4, none⟩ (.int .i64 (p + on : Nat))) := hf.below_of (by have := h.le; have := h.blk.lt; omega) (by rintro k rfl; exact h.le)
    exact ⟨{ blk := hb, row := ⟨rfl, .inl ⟨rfl, rfl⟩⟩, le := h.le, lr := h.lr.keep h.b2 hbel, b2 := h.b2 }, hbel⟩)
  have c1 : w.cell? ⟨d, 1, none⟩ = some (.int .i64 (p : Nat)) := h.blk.cell 1
  have z2 := h.blk.frozen 2
  have z3 := h.blk.frozen 3
  have z4 := h.blk.frozen 4
  have c2 : w.cell? ⟨d, 2, none⟩ = some v := h.blk.cell 2
  have c3 : w.cell? ⟨d, 3, none⟩ = some (.int .i64 (0 : Nat)) := h.blk.cell 3
  have c4 : w.cell? ⟨d, 4, none⟩ = some (.int .i64 (0 : Nat)) := h.blk.cell 4
  unfold maxLen at hs
  have e1 : IntKind.i64.wrap ((p : Int) + (on : Int)) = ((p + on : Nat) : Int) := by rw [IntWalk.i64_in _ (by omega)]; omega
  obtain ⟨q, hq⟩ : ∃ q, p + on = q := ⟨_, rfl⟩
  rw [hq] at e1 HEND ⊢
  clear hq h
  go_enter Tryz.func57, Tryz.ntmps57
  go_wp2
  go_end0
  exact HEND.out

/-! ### texts in quotes -/
theorem two_any (s : ByteArray) (w : World) (hs : s.size ≤ maxLen) : Calls Tryz.prog 147 #[.string s, .string ⟨#[39, 39]⟩] w fun e w' => e = .returned (.bool (decide (2 ≤ s.size) && (s.data.toList.take 2 == [39, 39]))) ∧ w = w' := by
  unfold maxLen at hs
  by_cases h2 : 2 ≤ s.size
  · have HV : Hid ((decide (2 ≤ s.size) && (s.data.toList.take 2 == [39, 39])) = ((s.extract 0 2).toList == [39, 39])) := Lib.hid (by
      rw [ByteArray.toList_eq, ext_toList, List.drop_zero, decide_eq_true h2, Bool.true_and])
    go_enter Tryz.func147, Tryz.ntmps147
    go_wp2
    go_ret
    exact ⟨ret_bool (by first | rfl | rw [HV.out]), rfl⟩
  · have HV : Hid ((decide (2 ≤ s.size) && (s.data.toList.take 2 == [39, 39])) = false) := Lib.hid (by rw [decide_eq_false h2, Bool.false_and])
    go_enter Tryz.func147, Tryz.ntmps147
    go_wp2
    go_ret
    exact ⟨ret_bool (by first | rfl | rw [HV.out]), rfl⟩

def unqN (l : Tx) : Option Nat := (unq l).map (·.2)
theorem unqN_skip {l : Tx} {i : Nat} (h : i < l.length) (hb : l[i] ≠ 39) : unqN (l.drop i) = (unqN (l.drop (i + 1))).map (· + 1) := by
  rw [List.drop_eq_getElem_cons h]
  generalize l[i] = b at *
  unfold unqN
  cases l.drop (i + 1) with
  | nil => unfold unq; rw [if_neg hb]; rfl
  | cons c m =>
    conv => lhs; unfold unq
    rw [if_neg hb]
    cases unq (c :: m) <;> rfl
theorem unqN_two {l : Tx} {i : Nat} (h : i + 1 < l.length) (hb : l[i] = 39) (hc : l[i + 1] = 39) : unqN (l.drop i) = (unqN (l.drop (i + 2))).map (· + 2) := by
  rw [List.drop_eq_getElem_cons (by omega : i < l.length), List.drop_eq_getElem_cons h, hb, hc]
  unfold unqN
  conv => lhs; unfold unq
  rw [if_pos rfl, if_pos rfl]
  cases unq (l.drop (i + 1 + 1)) <;> rfl
theorem unqN_end {l : Tx} {i : Nat} (h : i < l.length) (hb : l[i] = 39) (hc : ∀ h2 : i + 1 < l.length, l[i + 1] ≠ 39) : unqN (l.drop i) = some 1 := by
  rw [List.drop_eq_getElem_cons h, hb]
  unfold unqN
  rcases Nat.lt_or_ge (i + 1) l.length with h2 | h2
  · rw [List.drop_eq_getElem_cons h2]
    unfold unq
    rw [if_pos rfl, if_neg (hc h2)]; rfl
  · rw [List.drop_eq_nil_of_le h2]; rfl
/-- How many bytes a text in quotes has at the beginning; 0 if it has no end. -/
def qsize (l : Tx) : Nat := match unq (l.drop 1) with | none => 0 | some x => x.2 + 1
theorem qsize_of {l : Tx} {i : Nat} {o : Option Nat} (hi : 1 ≤ i) (h : unqN (l.drop 1) = o.map (· + (i - 1))) : qsize l = match o with | none => 0 | some n => n + i := by
  unfold qsize
  unfold unqN at h
  cases hu : unq (l.drop 1) with
  | none =>
    rw [hu] at h
    cases o with
    | none => rfl
    | some n => cases h
  | some x =>
    rw [hu] at h
    cases o with
    | none => cases h
    | some n =>
      have : x.2 = n + (i - 1) := by simpa using h
      show x.2 + 1 = n + i
      omega
theorem take2_eq {l : Tx} {i : Nat} (h : i < l.length) (hb : l[i] = 39) : (decide (2 ≤ (l.drop i).length) && ((l.drop i).take 2 == [39, 39])) = true ↔ ∃ h2 : i + 1 < l.length, l[i + 1] = 39 := by
  rw [List.length_drop]
  rcases Nat.lt_or_ge (i + 1) l.length with h2 | h2
  · rw [decide_eq_true (by omega), Bool.true_and, List.drop_eq_getElem_cons h, List.drop_eq_getElem_cons h2, hb]
    simp only [h2, List.take_succ_cons, List.take_zero, beq_iff_eq, List.cons.injEq, true_and, and_true, exists_true_left]
  · rw [decide_eq_false (by omega), Bool.false_and]
    constructor
    · intro e; cases e
    · rintro ⟨h3, _⟩; omega
def QInv (l : Tx) (i : Nat) : Prop := 1 ≤ i ∧ i ≤ l.length ∧ unqN (l.drop 1) = (unqN (l.drop i)).map (· + (i - 1))
theorem QInv.zero {l : Tx} (h : 1 ≤ l.length) : QInv l 1 := ⟨by omega, h, by cases unqN (l.drop 1) <;> simp⟩
theorem QInv.next {l : Tx} {i k : Nat} (h : QInv l i) (hk : i + k ≤ l.length) (e : unqN (l.drop i) = (unqN (l.drop (i + k))).map (· + k)) : QInv l (i + k) := by
  obtain ⟨h1, h2, h3⟩ := h
  refine ⟨by omega, hk, ?_⟩
  rw [h3, e]
  cases unqN (l.drop (i + k)) with
  | none => rfl
  | some n => simp; omega
theorem QInv.done {l : Tx} {i : Nat} (h : QInv l i) (e : unqN (l.drop i) = some 1) : qsize l = i + 1 := by
  obtain ⟨h1, h2, h3⟩ := h
  rw [e] at h3
  rw [qsize_of h1 h3]
  show 1 + i = i + 1
  omega
theorem QInv.over {l : Tx} {i : Nat} (h : QInv l i) (hi : i = l.length) : qsize l = 0 := by
  obtain ⟨h1, h2, h3⟩ := h
  rw [hi, List.drop_length] at h3
  rw [← hi] at h3
  rw [qsize_of h1 (o := none) h3]

set_option maxRecDepth 100000 in
set_option maxHeartbeats 2000000 in
theorem quotedSize_any (s : ByteArray) (w : World) (h1 : 1 ≤ s.size) (hs : s.size ≤ maxLen) : Calls Tryz.prog 111 #[.string s] w fun e w' => e = .returned (.int .i64 (qsize s.data.toList : Nat)) ∧ w = w' := by
  have hl := len_data s
  have HL := Lib.hid hl
  have hq0 : QInv s.data.toList 1 := QInv.zero (by omega)
  have HQ0 := Lib.hid hq0
  have HS := Lib.hid hs
  unfold maxLen at hs
  clear hl hq0
  go_enter Tryz.func111, Tryz.ntmps111
  go_wp2
  go_loop [3] (fun iv => ∃ k : Nat, iv = .int .i64 k ∧ k ≤ s.size ∧ 1 ≤ k ∧ Hid (QInv s.data.toList k)) (fun iv => s.size - (intOf iv).toNat)
  case atStart => exact ⟨1, rfl, h1, Nat.le_refl _, HQ0⟩
  case round =>
    obtain ⟨k, rfl, hk, hk1, HQ⟩ := hrel
    by_cases hlt : k < s.size
    · have hb := u8_lt s[k]
      have hkl : k < s.data.toList.length := by rw [HL.out]; exact hlt
      have hg : s.data.toList[k] = s[k] := rfl
      by_cases h39 : s[k] = 39
      · have hne : ((s[k].toNat : Int) != 39) = false := by rw [h39]; rfl
        have HT : Hid ((decide (2 ≤ (s.extract k s.size).size) && ((s.extract k s.size).data.toList.take 2 == [39, 39])) = true ↔ ∃ h2 : k + 1 < s.data.toList.length, s.data.toList[k + 1] = 39) := Lib.hid (by
          rw [← len_data, ext_toList, show s.data.toList.take s.size = s.data.toList by rw [← HL.out, List.take_length]]
          exact take2_eq hkl (hg.trans h39))
        have HTW := Lib.hid (two_any (s.extract k s.size) w (by
          rw [← len_data, ext_toList, List.length_drop]
          have := HL.out
          unfold maxLen
          have := List.length_take_le s.size s.data.toList
          omega))
        generalize (decide (2 ≤ (s.extract k s.size).size) && ((s.extract k s.size).data.toList.take 2 == [39, 39])) = tw at *
        cases tw with
        | true =>
          have h2 := HT.out.1 rfl
          have hk2 : k + 2 ≤ s.size := by obtain ⟨h3, _⟩ := h2; rw [HL.out] at h3; omega
          have HN : Hid (QInv s.data.toList (k + 2)) := Lib.hid (HQ.out.next (by rw [HL.out]; exact hk2) (by
            obtain ⟨h3, h4⟩ := h2
            exact unqN_two h3 (hg.trans h39) h4))
          clear h2 hg h39
          go_wp2_with (go_at_call 147; refine HTW.out.mono ?_; rintro e w' ⟨rfl, rfl⟩)
          refine ⟨⟨k + 2, by go_num, by omega, by omega, HN⟩, by simp [intOf]; omega⟩
        | false =>
          have HN : Hid (qsize s.data.toList = k + 1) := Lib.hid (HQ.out.done (unqN_end hkl (hg.trans h39) fun h2 h3 => by
            have := HT.out.2 ⟨h2, h3⟩; cases this))
          clear hg h39
          go_wp2_with (go_at_call 147; refine HTW.out.mono ?_; rintro e w' ⟨rfl, rfl⟩)
          go_ret
          exact ⟨ret_int (by rw [HN.out]; omega), rfl⟩
      · have hne : ((s[k].toNat : Int) != 39) = true := by
          have : s[k].toNat ≠ 39 := fun e => h39 (UInt8.toNat_inj.1 e)
          simp; omega
        have HN : Hid (QInv s.data.toList (k + 1)) := Lib.hid (HQ.out.next (by omega) (unqN_skip hkl h39))
        clear hg h39
        go_wp2
        refine ⟨⟨k + 1, by go_num, by omega, by omega, HN⟩, by simp [intOf]; omega⟩
    · obtain rfl : k = s.size := by omega
      have HN : Hid (qsize s.data.toList = 0) := Lib.hid (HQ.out.over HL.out.symm)
      go_wp2
      go_ret
      exact ⟨ret_int (by rw [HN.out]; rfl), rfl⟩
theorem qsize_le {l : Tx} (h : qsize l ≠ 0) : 2 ≤ qsize l ∧ qsize l ≤ l.length ∧ ∃ t n, unq (l.drop 1) = some (t, n) ∧ qsize l = n + 1 ∧ (l.drop 1).take (n - 1) = dbl t := by
  unfold qsize at *
  cases hu : unq (l.drop 1) with
  | none => rw [hu] at h; exact absurd rfl h
  | some x =>
    obtain ⟨t, n⟩ := x
    obtain ⟨r, h1, h2, h3⟩ := unq_inv _ _ _ hu
    have hl := congrArg List.length h1
    rw [List.length_drop, List.length_append, List.length_cons] at hl
    refine ⟨by show 2 ≤ n + 1; omega, by show n + 1 ≤ _; omega, t, n, rfl, rfl, ?_⟩
    rw [h1, h3, Nat.add_sub_cancel, take_app]
end Go.Proofs.YtpdfenpmnpoehaaGreatDoor
