/- A sum's text. -/
import Derived.Test.YtgjpdagbbljmpaaA3
import Derived.Laws.IdiomStrings
namespace Go.Proofs.Ytgjpdagbbljmpaa
open Go.RowKit Go.Maps
set_option linter.unusedVariables false

/-- Digits laid from behind into an array of 40 bytes. -/
def DgAt (w : World) (y : Nat) (t : Tx) : Prop := ∃ cs : Array Value, Blk w y 63 cs ∧ cs.size = 40 ∧ ∀ i (h : i < t.length), cs[40 - t.length + i]? = some (.int .u8 (t[i].toNat : Nat))
theorem DgAt.cell {w : World} {y : Nat} {t : Tx} (h : DgAt w y t) (hl : t.length < 40) : (∃ v, w.cell? ⟨y, 39 - t.length, none⟩ = some v) ∧ w.frozen? ⟨y, 39 - t.length, none⟩ = false := by
  obtain ⟨cs, hb, hs, _⟩ := h
  refine ⟨⟨cs[39 - t.length], ?_⟩, hb.frozen _⟩
  rw [hb.cell]
  exact Array.getElem?_eq_getElem (by omega)
theorem DgAt.put {w : World} {y : Nat} {t : Tx} (h : DgAt w y t) (hl : t.length < 40) (c : UInt8) : DgAt (w.setCell ⟨y, 39 - t.length, none⟩ (.int .u8 (c.toNat : Nat))) y (c :: t) := by
  obtain ⟨cs, hb, hs, hi⟩ := h
  refine ⟨_, hb.set_ _ _, by simp [hs], fun i h => ?_⟩
  rw [List.length_cons] at h
  rw [List.length_cons, Array.getElem?_setIfInBounds]
  cases i with
  | zero => rw [if_pos (by omega), if_pos (by omega)]; rfl
  | succ i =>
    rw [if_neg (by omega), show 40 - (t.length + 1) + (i + 1) = 40 - t.length + i by omega]
    exact hi i (by omega)
theorem DgAt.no {w w1 : World} {y : Nat} {t : Tx} (h : DgAt w y t) (f : Fr No w w1) : DgAt w1 y t := by
  obtain ⟨cs, hb, hs, hi⟩ := h
  exact ⟨cs, hb.no f, hs, hi⟩
theorem DgAt.conv {w : World} {y : Nat} {t : Tx} (h : DgAt w y t) (hl : t.length ≤ 40) : (convert 67 9 (.slice (some ⟨y, 40 - t.length, none⟩) t.length t.length)).run Try.prog w = .ok (.string ⟨t.toArray⟩) w := by
  obtain ⟨cs, hb, hs, hi⟩ := h
  refine run_convert_bytes_back (P := Try.prog) w 67 9 5 ⟨y, 40 - t.length, none⟩ t.length t Try.underlying67 Try.underlying5 Try.underlying9 (fun j hj => ?_)
  rw [Addr.add_lit, hb.cell]
  exact hi j hj
theorem dec_step {m n f : Nat} {t : Tx} (h : decF (f + 1) n t = dec m) (hn : n / 10 ≠ 0) : decF f (n / 10) (UInt8.ofNat (48 + n % 10) :: t) = dec m := by
  rw [← h]; conv => rhs; unfold decF
  rw [if_neg hn]
theorem dec_end {m n f : Nat} {t : Tx} (h : decF (f + 1) n t = dec m) (hn : n / 10 = 0) : UInt8.ofNat (48 + n % 10) :: t = dec m := by
  rw [← h]; conv => rhs; unfold decF
  rw [if_pos hn]
theorem slice63 (b l L : Nat) (hl : l < 40) (hL : 40 - l = L) : ∀ wx : World, (Instr.sliceAt 63 (.pointer (some ⟨b, 0, none⟩)) (some (.int .i64 (l : Int))) none none).run Try.prog wx = .ok (.slice (some ⟨b, l, none⟩) L L) wx := by
  have hal : Try.prog.arrayLen 63 = 40 := by kernel_rfl
  have hel : Try.prog.elem 63 = 5 := by kernel_rfl
  have hu : Try.prog.underlying 63 = some (.array (Try.prog.arrayLen 63) (Try.prog.elem 63)) := by rw [hal, hel]; exact Try.underlying63
  intro wx
  rw [run_sliceAt_array_l (P := Try.prog) wx 63 ⟨b, 0, none⟩ hu .i64 (l : Int) (by omega) (by rw [hal]; omega), hal, hel]
  have h5 : (sizeOf 5).run Try.prog wx = .ok 1 wx := by kernel_rfl
  rw [h5]
  subst hL
  simp only [Result.andThen, slicedAt, Int.toNat_natCast]
  rw [if_neg (by omega), Nat.mul_one, Addr.add_lit, Nat.zero_add]
def TellsT (t : Tx) : World → Ending → World → Prop := TellsV (sv t)
set_option maxRecDepth 100000 in
theorem text_any (a : Sm) (ha : a.ok) (w : World) : Calls Try.prog 19 #[smV a] w (TellsT (textS a) w) := by
  have HC := Lib.hid (fun w' => size_any a ha w')
  have hmag := natAbs_lt ha
  obtain ⟨m, hm⟩ : ∃ m, a.v.natAbs = m := ⟨_, rfl⟩
  rw [hm] at hmag
  have hmm : magS a = (m : Int) := by unfold magS; rw [hm]
  have HT : Hid (textS a = (if a.hi < 0 then [45] else []) ++ dec m) := Lib.hid (by unfold textS; rw [hm])
  rw [hmm] at HC
  obtain ⟨ah, al⟩ := a
  obtain ⟨x, hx⟩ : ∃ x, (m : Int) / 18446744073709551616 = x := ⟨_, rfl⟩
  obtain ⟨y, hy⟩ : ∃ x, (m : Int) % 18446744073709551616 = x := ⟨_, rfl⟩
  rw [hx, hy] at HC
  have HCC : Hid (∀ w', Calls Try.prog 36 #[.agg #[.int .i64 ah, .int .u64 al]] w' (TellsV (.tuple #[.int .u64 x, .int .u64 y]) w')) := Lib.hid fun w' => HC.out w'
  obtain ⟨b, hb⟩ : ∃ b, w.heap.size = b := ⟨_, rfl⟩
  obtain ⟨w2, hw2⟩ : ∃ w2, (w.alloc (.cells #[.int .i64 ah, .int .u64 al] 24)).alloc (.cells #[.int .u8 0, .int .u8 0, .int .u8 0, .int .u8 0, .int .u8 0, .int .u8 0, .int .u8 0, .int .u8 0, .int .u8 0, .int .u8 0, .int .u8 0, .int .u8 0, .int .u8 0, .int .u8 0, .int .u8 0, .int .u8 0, .int .u8 0, .int .u8 0, .int .u8 0, .int .u8 0, .int .u8 0, .int .u8 0, .int .u8 0, .int .u8 0, .int .u8 0, .int .u8 0, .int .u8 0, .int .u8 0, .int .u8 0, .int .u8 0, .int .u8 0, .int .u8 0, .int .u8 0, .int .u8 0, .int .u8 0, .int .u8 0, .int .u8 0, .int .u8 0, .int .u8 0, .int .u8 0] 63) = w2 := ⟨_, rfl⟩
  have f2 : Fr No w w2 := by rw [← hw2]; exact ((Fr.refl No w).alloc _).alloc _
  have hbx : Blk w2 b 24 #[.int .i64 ah, .int .u64 al] := by
    rw [← hw2, ← hb]
    exact (Blk.new w 24 _).no ((Fr.refl No _).alloc _)
  have hdg : DgAt w2 (b + 1) [] := by
    refine ⟨#[.int .u8 0, .int .u8 0, .int .u8 0, .int .u8 0, .int .u8 0, .int .u8 0, .int .u8 0, .int .u8 0, .int .u8 0, .int .u8 0, .int .u8 0, .int .u8 0, .int .u8 0, .int .u8 0, .int .u8 0, .int .u8 0, .int .u8 0, .int .u8 0, .int .u8 0, .int .u8 0, .int .u8 0, .int .u8 0, .int .u8 0, .int .u8 0, .int .u8 0, .int .u8 0, .int .u8 0, .int .u8 0, .int .u8 0, .int .u8 0, .int .u8 0, .int .u8 0, .int .u8 0, .int .u8 0, .int .u8 0, .int .u8 0, .int .u8 0, .int .u8 0, .int .u8 0, .int .u8 0], ?_, rfl, fun i h => absurd h (by simp)⟩
    rw [← hw2, ← hb]
    exact new_blk (Fr.refl No _) (by simp)
  have HW2 := Lib.hid hw2
  have HB := Lib.hid hb
  have HF2 := Lib.hid f2
  have HBX := Lib.hid hbx
  have HDG := Lib.hid hdg
  have HXY := Lib.hid (And.intro hx hy)
  have HM := Lib.hid hmag
  have hbs : w.heap.size ≤ b := by omega
  clear HC hmm hm hx hy hb hw2 f2 hbx hdg hmag
  go_enter Try.func19, Try.ntmps19
  go_upto_region 2 with fail
  rw [HW2.out, HB.out]
  have c := HBX.out.cell 0
  have c' := HBX.out.cell 1
  go_upto_region 3 with (go_at_call 36; refine (HCC.out _).mono ?_; rintro e w3 ⟨rfl, f3⟩; have HF3 := Lib.hid f3; clear f3)
  clear c c'
  go_wp2_with fail
  go_loopg [4, 5, 6, 7] 39 (fun k r4 r5 r6 r7 wr => Hid (∃ (f n : Nat) (t : Tx) (p q : Int), r4 = .int .u64 p ∧ r5 = .int .u64 q ∧ p = (n : Int) / 18446744073709551616 ∧ q = (n : Int) % 18446744073709551616 ∧ r6 = .int .i64 ((40 - t.length : Nat) : Int) ∧ decF f n t = dec m ∧ t.length + k = 39 ∧ n < 10 ^ (39 - t.length) ∧ f + t.length = 50 ∧ (n = 0 → t = []) ∧ n ≤ 170141183460469231731687303715884105728 ∧ DgAt wr (b + 1) t ∧ Fr (fun k => k = b + 1) w2 wr))
  case atStart => exact Lib.hid ⟨50, m, [], x, y, rfl, rfl, HXY.out.1.symm, HXY.out.2.symm, rfl, rfl, rfl, Nat.lt_of_le_of_lt HM.out (by decide), rfl, fun _ => rfl, HM.out, HDG.out.no HF3.out, HF3.out.any⟩
  case round =>
  obtain ⟨f, n, t, p, q, rfl, rfl, hp, hq, rfl, hdec, hk, hn, hft, hn0, hnm, hd, hfr⟩ := hrel.out
  clear hrel
  have hl38 : t.length ≤ 38 := by
    rcases Nat.lt_or_ge t.length 39 with h | h
    · omega
    · exfalso
      have h39 : t.length = 39 := by omega
      rw [h39] at hn
      have h0 : n = 0 := by simpa using hn
      rw [hn0 h0] at h39
      simp at h39
  obtain ⟨f', rfl⟩ : ∃ f', f = f' + 1 := ⟨f - 1, by omega⟩
  have hn38 : n / 10 < 10 ^ (38 - t.length) := by
    rw [show 39 - t.length = (38 - t.length) + 1 by omega, Nat.pow_succ] at hn
    omega
  have HTN := Lib.hid (fun w' => tenth_any p q (by omega) (by omega) (by omega) (by omega) w')
  obtain ⟨p2, hp2⟩ : ∃ x, p / 10 = x := ⟨_, rfl⟩
  obtain ⟨q2, hq2⟩ : ∃ x, (p % 10 * 18446744073709551616 + q) / 10 = x := ⟨_, rfl⟩
  obtain ⟨d, hd2⟩ : ∃ x, (p % 10 * 18446744073709551616 + q) % 10 = x := ⟨_, rfl⟩
  rw [hp2, hq2, hd2] at HTN
  have hd3 : d = ((n % 10 : Nat) : Int) := by omega
  have HP3 : Hid (p2 = ((n / 10 : Nat) : Int) / 18446744073709551616) := Lib.hid (by omega)
  have HQ3 : Hid (q2 = ((n / 10 : Nat) : Int) % 18446744073709551616) := Lib.hid (by omega)
  obtain ⟨c, hc⟩ : ∃ c, UInt8.ofNat (48 + n % 10) = c := ⟨_, rfl⟩
  have hcn : ((c.toNat : Nat) : Int) = 48 + d := by rw [← hc, digit_val, hd3]; omega
  have e1 : IntKind.u8.wrap d = d := by simp [IntKind.wrap, IntKind.bits, IntKind.signed]; omega
  obtain ⟨x8, hx8⟩ : ∃ x : Nat, c.toNat = x := ⟨_, rfl⟩
  have e2 : IntKind.u8.wrap (48 + d) = (x8 : Int) := by rw [← hx8, hcn]; simp [IntKind.wrap, IntKind.bits, IntKind.signed]; omega
  obtain ⟨A, hA⟩ : ∃ A, 40 - t.length = A := ⟨_, rfl⟩
  obtain ⟨A1, hA1⟩ : ∃ A, 39 - t.length = A := ⟨_, rfl⟩
  obtain ⟨A2, hA2⟩ : ∃ A, 38 - t.length = A := ⟨_, rfl⟩
  have e3 : IntKind.i64.wrap ((A : Int) - 1) = (A1 : Int) := by rw [IntKind.wrap_i64]; omega
  have e4 : IntKind.i64.wrap ((A1 : Int) - 1) = (A2 : Int) := by rw [IntKind.wrap_i64]; omega
  have a1 : (A1 : Int) < 40 := by omega
  have a2 : (A2 : Int) < 40 := by omega
  have HW : Hid (∀ w4, Fr No wr w4 → (∃ v, w4.cell? ⟨b + 1, A1, none⟩ = some v) ∧ w4.frozen? ⟨b + 1, A1, none⟩ = false ∧ w4.cell? ⟨b, 0, none⟩ = some (.int .i64 ah) ∧
      DgAt (w4.setCell ⟨b + 1, A1, none⟩ (.int .u8 (x8 : Int))) (b + 1) (c :: t) ∧ Fr (fun k => k = b + 1) w2 (w4.setCell ⟨b + 1, A1, none⟩ (.int .u8 (x8 : Int)))) := Lib.hid fun w4 f4 => by
    have h4 := hd.no f4
    have f24 : Fr (fun k => k = b + 1) w2 w4 := hfr.trans f4.any fun _ _ h => h
    have hx4 := (HBX.out.of (f24.block b HBX.out.lt (by omega))).cell 0
    obtain ⟨g1, g2⟩ := h4.cell (by omega)
    have g3 := h4.put (by omega) c
    rw [hA1, hx8] at g3
    rw [hA1] at g1 g2
    exact ⟨g1, g2, hx4, g3, f24.setCell (fun _ => rfl) _⟩
  have HL : Hid ((40 - (c :: t).length : Nat) = A1 ∧ (39 - (c :: t).length : Nat) = A2 ∧ (40 - ((45 : UInt8) :: c :: t).length : Nat) = A2 ∧ (c :: t).length = t.length + 1 ∧ t.length + gk = 39 ∧ f' + (c :: t).length = 50 ∧ n / 10 < 10 ^ (39 - (c :: t).length)) := Lib.hid (by
    exact ⟨by rw [List.length_cons]; omega, by rw [List.length_cons]; omega, by rw [List.length_cons, List.length_cons]; omega, List.length_cons, hk, by rw [List.length_cons]; omega, by rw [List.length_cons, show 39 - (t.length + 1) = 38 - t.length by omega]; exact hn38⟩)
  have HDEC := Lib.hid hdec
  have HC := Lib.hid hc
  obtain ⟨L1, hL1⟩ : ∃ L, 40 - A1 = L := ⟨_, rfl⟩
  obtain ⟨L2, hL2⟩ : ∃ L, 40 - A2 = L := ⟨_, rfl⟩
  have S1 := slice63 (b + 1) A1 L1 (by omega) hL1
  have S2 := slice63 (b + 1) A2 L2 (by omega) hL2
  have hL1' : (c :: t).length = L1 := by rw [List.length_cons]; omega
  have hL2' : ((45 : UInt8) :: c :: t).length = L2 := by rw [List.length_cons, List.length_cons]; omega
  have HCV1 : Hid (∀ wx, DgAt wx (b + 1) (c :: t) → (convert 67 9 (.slice (some ⟨b + 1, A1, none⟩) L1 L1)).run Try.prog wx = .ok (sv (c :: t)) wx) := Lib.hid fun wx hx => by
    have := hx.conv (by rw [hL1']; omega)
    rw [HL.out.1, hL1'] at this
    exact this
  have HCV2 : Hid (∀ wx, DgAt wx (b + 1) (45 :: c :: t) → (convert 67 9 (.slice (some ⟨b + 1, A2, none⟩) L2 L2)).run Try.prog wx = .ok (sv (45 :: c :: t)) wx) := Lib.hid fun wx hx => by
    have := hx.conv (by rw [hL2']; omega)
    rw [HL.out.2.2.1, hL2'] at this
    exact this
  have HPUT : Hid (∀ wx, DgAt wx (b + 1) (c :: t) → (∃ v, wx.cell? ⟨b + 1, A2, none⟩ = some v) ∧ wx.frozen? ⟨b + 1, A2, none⟩ = false ∧ DgAt (wx.setCell ⟨b + 1, A2, none⟩ (.int .u8 45)) (b + 1) (45 :: c :: t)) := Lib.hid fun wx hx => by
    obtain ⟨g1, g2⟩ := hx.cell (by rw [hL1']; omega)
    have g3 := hx.put (by rw [hL1']; omega) 45
    rw [HL.out.2.1] at g1 g2 g3
    exact ⟨g1, g2, g3⟩
  clear hL1 hL2 hL1' hL2'
  rw [hA]
  by_cases h10 : n / 10 = 0
  · have p0 : p2 = 0 := by rw [HP3.out, h10]; rfl
    have q0 : q2 = 0 := by rw [HQ3.out, h10]; rfl
    subst p0
    subst q0
    have HE : Hid (dec m = c :: t) := Lib.hid (by rw [← dec_end hdec h10, hc])
    clear hp hq hdec hk hn hft hn0 hnm hd hfr hl38 hn38 hp2 hq2 hd2 hd3 hc hcn hx8 hA hA1 hA2 HP3 HQ3 h10
    by_cases hs : ah < 0
    · have s1 : (ah < 0) = True := eq_true hs
      have HR : Hid (textS ⟨ah, al⟩ = 45 :: c :: t) := Lib.hid (by rw [HT.out, if_pos hs, HE.out]; rfl)
      clear hs
      go_wp2_with (go_at_call 37; refine (HTN.out _).mono ?_; rintro e w4 ⟨rfl, f4⟩; obtain ⟨⟨v, g1⟩, g2, g3, g4, g5⟩ := HW.out w4 f4; have K1 := HCV1.out _ g4; obtain ⟨⟨v2, k1⟩, k2, k3⟩ := HPUT.out _ g4; have K2 := HCV2.out _ k3; have HG5 := Lib.hid g5; clear g4 g5 f4 k3 K1)
      go_ret
      exact ⟨by rw [HR.out]; rfl, HF2.out.trans (HG5.out.setCell (fun _ => rfl) _) fun j hj e => absurd hj (by omega)⟩
    · have s1 : (ah < 0) = False := eq_false hs
      have HR : Hid (textS ⟨ah, al⟩ = c :: t) := Lib.hid (by rw [HT.out, if_neg hs, HE.out]; rfl)
      clear hs
      go_wp2_with (go_at_call 37; refine (HTN.out _).mono ?_; rintro e w4 ⟨rfl, f4⟩; obtain ⟨⟨v, g1⟩, g2, g3, g4, g5⟩ := HW.out w4 f4; have K1 := HCV1.out _ g4; have HG5 := Lib.hid g5; clear g4 g5 f4)
      go_ret
      exact ⟨by rw [HR.out]; rfl, HF2.out.trans HG5.out fun j hj e => absurd hj (by omega)⟩
  · have HDS : Hid (decF f' (n / 10) (c :: t) = dec m) := Lib.hid (by rw [← hc]; exact dec_step hdec h10)
    have HN := Lib.hid h10
    have HNM : Hid (n / 10 ≤ 170141183460469231731687303715884105728) := Lib.hid (by omega)
    have hcase : ((p2 == 0) = true ∧ (q2 == 0) = false) ∨ (p2 == 0) = false := by
      have e1 := HP3.out
      have e2 := HQ3.out
      by_cases hz : p2 = 0
      · exact .inl ⟨by simp [hz], by simp; omega⟩
      · exact .inr (by simpa using hz)
    have hgk : 1 ≤ gk := by omega
    clear hp hq hdec hk hn hft hn0 hnm hd hfr hl38 hn38 hp2 hq2 hd2 hd3 hc hcn hx8 hA hA1 hA2 h10 HT HDEC HC HCV1 HCV2 HPUT S1 S2
    rcases hcase with ⟨z1, z2⟩ | z1
    all_goals
      go_wp2_with (go_at_call 37; refine (HTN.out _).mono ?_; rintro e w4 ⟨rfl, f4⟩; obtain ⟨⟨v, g1⟩, g2, g3, g4, g5⟩ := HW.out w4 f4; have HG4 := Lib.hid g4; have HG5 := Lib.hid g5; clear g4 g5 f4)
      obtain ⟨g0, rfl⟩ : ∃ g0, gk = g0 + 1 := ⟨gk - 1, by omega⟩
      go_roundg g0
      case rel => exact Lib.hid ⟨f', n / 10, c :: t, p2, q2, rfl, rfl, HP3.out, HQ3.out, by rw [HL.out.1], HDS.out, by have := HL.out; omega, HL.out.2.2.2.2.2.2, HL.out.2.2.2.2.2.1, fun h => absurd h HN.out, HNM.out, HG4.out, HG5.out⟩
      all_goals omega
end Go.Proofs.Ytgjpdagbbljmpaa
