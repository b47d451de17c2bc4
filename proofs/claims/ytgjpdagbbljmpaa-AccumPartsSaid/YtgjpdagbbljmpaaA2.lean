/- Adding, negating, telling: the program's own. -/
import Derived.Test.YtgjpdagbbljmpaaA1
import Derived.Shelf.Spec.BitsCarry
import Derived.Laws.BitsAllLaws
import Derived.Laws.Shifts
namespace Go.Proofs.Ytgjpdagbbljmpaa
open Go.RowKit Go.Maps
set_option linter.unusedVariables false

theorem add64_0 (x y : Int) (hx : 0 ≤ x) (hy : 0 ≤ y) (w : World) : (callFunc 33 #[.int .u64 x, .int .u64 y, .int .u64 0]).run Try.prog w =
    .ok (.value (.tuple #[.int .u64 ((x + y) % 18446744073709551616), .int .u64 ((x + y) / 18446744073709551616)])) w := by
  rw [run_callFunc_extern Try.func33 (by kernel_rfl) (by kernel_rfl) (by kernel_rfl) (e := add64Entry) (by kernel_rfl), run_add64 x y 0 hx hy (by omega) (by omega)]
  simp only [Result.andThen, Int.add_zero]
theorem not_u64 (n : Int) (h0 : 0 ≤ n) (h1 : n < 18446744073709551616) : bits .xor .u64 18446744073709551615 n = 18446744073709551615 - n := by
  obtain ⟨N, rfl⟩ := Int.eq_ofNat_of_zero_le h0
  show IntKind.u64.wrap ((BitVec.ofInt 64 18446744073709551615 ^^^ BitVec.ofInt 64 (N : Int)).toNat : Int) = _
  have e1 : BitVec.ofInt 64 18446744073709551615 = BitVec.allOnes 64 := by decide
  rw [e1, BitVec.allOnes_xor, BitVec.toNat_not, ofInt_u64 N (by omega)]
  simp [IntKind.wrap, IntKind.bits, IntKind.signed]
  omega
theorem not_i64 (n : Int) (h0 : -9223372036854775808 ≤ n) (h1 : n < 9223372036854775808) : bits .xor .i64 (-1) n = -1 - n := by
  show IntKind.i64.wrap ((BitVec.ofInt 64 (-1) ^^^ BitVec.ofInt 64 n).toNat : Int) = _
  have e1 : BitVec.ofInt 64 (-1) = BitVec.allOnes 64 := by decide
  have e2 : (BitVec.ofInt 64 n).toNat = (n % 18446744073709551616).toNat := by rw [BitVec.toNat_ofInt]; rfl
  rw [e1, BitVec.allOnes_xor, BitVec.toNat_not, e2]
  simp [IntKind.wrap, IntKind.bits, IntKind.signed]
  omega
set_option maxRecDepth 100000 in
/-- Plus. -/
theorem plus_any (a b : Sm) (ha : a.ok) (hb : b.ok) (w : World) : Calls Try.prog 13 #[smV a, smV b] w (TellsS (plusS a b) w) := by
  obtain ⟨ah, al⟩ := a
  obtain ⟨bh, bl⟩ := b
  unfold Sm.ok at ha hb
  simp only at ha hb
  obtain ⟨s, hs⟩ : ∃ s, (al + bl) % 18446744073709551616 = s := ⟨_, rfl⟩
  obtain ⟨c, hc⟩ : ∃ c, (al + bl) / 18446744073709551616 = c := ⟨_, rfl⟩
  have hadd := add64_0 al bl ha.2.2.1 hb.2.2.1
  rw [hs, hc] at hadd
  obtain ⟨h1, hh1⟩ : ∃ x, IntKind.i64.wrap (ah + bh) = x := ⟨_, rfl⟩
  have hc1 : IntKind.i64.wrap c = c := by rw [IntKind.wrap_i64]; omega
  obtain ⟨h2, hh2⟩ : ∃ x, IntKind.i64.wrap (h1 + c) = x := ⟨_, rfl⟩
  have HE : Hid (plusS ⟨ah, al⟩ ⟨bh, bl⟩ = ⟨h2, s⟩) := Lib.hid (by
    unfold plusS w64
    rw [IntKind.wrap_i64] at hh1 hh2
    ext <;> simp only <;> omega)
  rw [HE.out]
  clear HE ha hb hs hc
  go_enter Try.func13, Try.ntmps13
  go_wp2_with (simp only [hadd])
  refine bodyPost_ret (v := smV ⟨h2, s⟩) (by simp [results, Try.results13, go_sem]) rfl ⟨rfl, (((Fr.refl _ _).alloc _).alloc _).alloc _⟩

theorem Blk.no {w w1 : World} {g : Nat} {t : TypeId} {cs : Array Value} (h : Blk w g t cs) (f : Fr No w w1) : Blk w1 g t cs := h.of (f.block g h.lt id)
/-- A block that was made last, behind a call. -/
theorem new_blk {w0 w1 : World} {t : TypeId} {cs : Array Value} (f : Fr No (w0.alloc (.cells cs t)) w1) {y : Nat} (hy : w0.heap.size = y) : Blk w1 y t cs := by
  subst hy
  exact (Blk.new w0 t cs).no f
theorem blk2 {w : World} {g : Nat} {t : TypeId} {a b : Value} (h : Blk w g t #[a, b]) : w.cell? ⟨g, 0, none⟩ = some a ∧ w.cell? ⟨g, 1, none⟩ = some b ∧ w.frozen? ⟨g, 0, none⟩ = false ∧ w.frozen? ⟨g, 1, none⟩ = false :=
  ⟨h.cell 0, h.cell 1, h.frozen 0, h.frozen 1⟩
theorem blk5 {w : World} {g : Nat} {t : TypeId} {a b c d e : Value} (h : Blk w g t #[a, b, c, d, e]) : (w.cell? ⟨g, 0, none⟩ = some a ∧ w.cell? ⟨g, 1, none⟩ = some b ∧ w.cell? ⟨g, 2, none⟩ = some c ∧ w.cell? ⟨g, 3, none⟩ = some d ∧ w.cell? ⟨g, 4, none⟩ = some e) ∧ w.frozen? ⟨g, 0, none⟩ = false ∧ w.frozen? ⟨g, 1, none⟩ = false ∧ w.frozen? ⟨g, 2, none⟩ = false ∧ w.frozen? ⟨g, 3, none⟩ = false ∧ w.frozen? ⟨g, 4, none⟩ = false :=
  ⟨⟨h.cell 0, h.cell 1, h.cell 2, h.cell 3, h.cell 4⟩, h.frozen 0, h.frozen 1, h.frozen 2, h.frozen 3, h.frozen 4⟩
/-- Stores into what is new. -/
theorem Fr.set_new {w0 w : World} (f : Fr No w0 w) {g o : Nat} (hg : w0.heap.size ≤ g) (u : Value) : Fr No w0 (w.setCell ⟨g, o, none⟩ u) := f.setCell (fun h => absurd h (by simp only; omega)) u
theorem tellsV_frame {f : FuncId} {args : Array Value} {v : Value} {w w1 : World} (h : Calls Try.prog f args w1 (TellsV v w1)) (f1 : Fr No w w1) : Calls Try.prog f args w1 (TellsV v w) :=
  h.mono fun _ _ ⟨e, k⟩ => ⟨e, f1.trans k fun _ _ h => h⟩
set_option maxRecDepth 100000 in
/-- Add. -/
theorem add_any (a : Sm) (n : Int) (ha : a.ok) (hn : i64 n) (w : World) : Calls Try.prog 15 #[smV a, .int .i64 n] w (TellsS (addS a n) w) := by
  have HC := Lib.hid (fun w' => plus_any a (ofS n) ha (ofS_ok hn) w')
  obtain ⟨ah, al⟩ := a
  obtain ⟨p, hp⟩ : ∃ p, n / 9223372036854775808 = p := ⟨_, rfl⟩
  obtain ⟨q, hq⟩ : ∃ q, n % 18446744073709551616 = q := ⟨_, rfl⟩
  have hw : IntKind.u64.wrap n = q := by rw [← hq]; simp [IntKind.wrap, IntKind.bits, IntKind.signed]
  obtain ⟨⟨h, l⟩, hs⟩ : ∃ s, addS ⟨ah, al⟩ n = s := ⟨_, rfl⟩
  have HCC : Hid (∀ w', Calls Try.prog 13 #[.agg #[.int .i64 ah, .int .u64 al], .agg #[.int .i64 p, .int .u64 q]] w' (TellsV (.agg #[.int .i64 h, .int .u64 l]) w')) := Lib.hid fun w' => by
    have := HC.out w'
    unfold ofS at this
    rw [hp, hq] at this
    have e : plusS ⟨ah, al⟩ ⟨p, q⟩ = ⟨h, l⟩ := by rw [← hs]; unfold addS ofS; rw [hp, hq]
    rw [e] at this
    exact this
  rw [hs]
  clear ha hn hq hs HC
  go_enter Try.func15, Try.ntmps15
  go_wp2_with (go_at_call 13; refine (HCC.out _).mono ?_; rintro e w1 ⟨rfl, f1⟩; have HF1 := Lib.hid f1; have hb : Blk w1 (w.heap.size + 1) 24 #[.int .i64 0, .int .u64 0] := new_blk f1 (by simp); obtain ⟨c0, c1, z0, z1⟩ := blk2 hb; clear f1 hb)
  refine bodyPost_ret (v := smV ⟨h, l⟩) (by simp [results, Try.results15, go_sem, c0, c1]) rfl ⟨rfl, ?_⟩
  exact ((((Fr.refl No w).alloc _).alloc _).trans HF1.out fun _ _ h => h).set_new (by omega) _ |>.set_new (by omega) _
set_option maxRecDepth 100000 in
/-- Minus. -/
theorem minus_any (a : Sm) (ha : a.ok) (w : World) : Calls Try.prog 17 #[smV a] w (TellsS (minusS a) w) := by
  have ha2 := ha
  obtain ⟨ah, al⟩ := a
  unfold Sm.ok at ha
  simp only at ha
  obtain ⟨p, hp⟩ : ∃ p, -1 - ah = p := ⟨_, rfl⟩
  obtain ⟨q, hq⟩ : ∃ q, 18446744073709551615 - al = q := ⟨_, rfl⟩
  have HC := Lib.hid (fun w' => add_any ⟨p, q⟩ 1 (by unfold Sm.ok; simp only; omega) (by unfold i64 i64'; omega) w')
  have hb1 : bits .xor .i64 (if IntKind.i64.signed = true then -1 else 9223372036854775807) ah = p := by
    rw [show (if IntKind.i64.signed = true then (-1 : Int) else 9223372036854775807) = -1 by kernel_rfl, not_i64 ah (by omega) (by omega), hp]
  have hb2 : bits .xor .u64 (if IntKind.u64.signed = true then -1 else IntKind.u64.max) al = q := by
    rw [show (if IntKind.u64.signed = true then -1 else IntKind.u64.max) = 18446744073709551615 by kernel_rfl, not_u64 al (by omega) (by omega), hq]
  obtain ⟨⟨h, l⟩, hs⟩ : ∃ s, minusS ⟨ah, al⟩ = s := ⟨_, rfl⟩
  have HCC : Hid (∀ w', Calls Try.prog 15 #[.agg #[.int .i64 p, .int .u64 q], .int .i64 1] w' (TellsV (.agg #[.int .i64 h, .int .u64 l]) w')) := Lib.hid fun w' => by
    have := HC.out w'
    have e : addS ⟨p, q⟩ 1 = ⟨h, l⟩ := by rw [← hs, ← hp, ← hq]; rfl
    rw [e] at this
    exact this
  rw [hs]
  clear ha ha2 hp hq hs HC
  go_enter Try.func17, Try.ntmps17
  go_wp2_with (go_at_call 15; refine (HCC.out _).mono ?_; rintro e w1 ⟨rfl, f1⟩; have HF1 := Lib.hid f1; have hb : Blk w1 (w.heap.size + 1) 24 #[.int .i64 0, .int .u64 0] := new_blk f1 (by simp); obtain ⟨c0, c1, z0, z1⟩ := blk2 hb; clear f1 hb)
  refine bodyPost_ret (v := smV ⟨h, l⟩) (by simp [results, Try.results17, go_sem, c0, c1]) rfl ⟨rfl, ?_⟩
  exact ((((Fr.refl No w).alloc _).alloc _).trans HF1.out fun _ _ h => h).set_new (by omega) _ |>.set_new (by omega) _
set_option maxRecDepth 100000 in
/-- Value. -/
theorem value_any (a : Sm) (ha : a.ok) (w : World) : Calls Try.prog 11 #[smV a] w (TellsV (.tuple #[.int .i64 (valS a), .bool (fitS a)]) w) := by
  obtain ⟨ah, al⟩ := a
  obtain ⟨n, hn⟩ : ∃ n, w64 al = n := ⟨_, rfl⟩
  have hw : IntKind.i64.wrap al = n := by rw [← hn, IntKind.wrap_i64]; rfl
  obtain ⟨q, hq⟩ : ∃ q, n / 9223372036854775808 = q := ⟨_, rfl⟩
  unfold valS fitS
  simp only [hn, hq]
  clear ha hn
  by_cases hh : q = ah
  · subst hh
    rw [if_pos rfl, decide_eq_true rfl]
    go_enter Try.func11, Try.ntmps11
    go_wp2_with fail
    go_ret2
    exact ⟨rfl, (Fr.refl _ _).alloc _⟩
  · rw [if_neg hh, decide_eq_false hh]
    go_enter Try.func11, Try.ntmps11
    go_wp2_with fail
    go_ret2
    exact ⟨rfl, (Fr.refl _ _).alloc _⟩
end Go.Proofs.Ytgjpdagbbljmpaa
