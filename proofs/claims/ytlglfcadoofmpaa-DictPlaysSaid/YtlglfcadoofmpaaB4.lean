/- DictStretches walked. -/
import Derived.Test.YtlglfcadoofmpaaB3
namespace Go.Proofs.Ytlglfcadoofmpaa
open Go.RowKit Go.Maps Go.Proofs
set_option linter.unusedVariables false

/-- Between and Sorted, where the order is known. -/
def StX (X : Nat → Prop) (d : Nat) (L : List Tx) (l : List Nat) (w : World) (e : Ending) (w' : World) : Prop :=
  ∃ v, e = .returned v ∧ w'.ownsRow w.heap.size 3 1 v l.length (l.map encN) ∧ Dt w' (OwnX X v) d L ∧ Fr (NX X) w w'
section
variable {w : World} {X : Nat → Prop} {d : Nat} {L : List Tx} {T : List Nat}
theorem st_between (h : Dt w X d L) (hT : Ord L T) (lo hi : Tx) : Calls Try.prog 19 #[.pointer (some ⟨d, 0, none⟩), .string ⟨lo.toArray⟩, .string ⟨hi.toArray⟩] w (StX X d L (btw L T lo hi) w) :=
  (m_between h lo hi).mono fun e w' ⟨v, l, he, hl, ho, hd, hf⟩ => by rw [hl T hT] at ho; exact ⟨v, he, ho, hd, hf⟩
theorem st_sorted (h : Dt w X d L) (hT : Ord L T) : Calls Try.prog 13 #[.pointer (some ⟨d, 0, none⟩)] w (StX X d L T w) :=
  (m_sorted h).mono fun e w' ⟨v, l, he, hl, ho, hd, hf⟩ => by rw [hl.unique hT] at ho; exact ⟨v, he, ho, hd, hf⟩
end
theorem btw_len {L : List Tx} {T : List Nat} (h : Ord L T) (hL : L.length ≤ 4096) (lo hi : Tx) : (btw L T lo hi).length ≤ 4096 := by
  have : (btw L T lo hi).length ≤ T.length := by unfold btw; exact List.length_filter_le _ _
  rw [h.len] at this; omega
/-- A list appended to a list of one's own: the dictionary, and the list. -/
theorem st_append {w : World} {X : Nat → Prop} {d base b : Nat} {L : List Tx} {v u : Value} {l m : List Nat} (hd : Dt w (OwnX (OwnX X v) u) d L) (ho : w.ownsRow base 3 1 v l.length (l.map encN)) (hb : base ≤ w.heap.size)
    (hu : w.ownsRow b 3 1 u m.length (m.map encN)) (hlim : l.length + m.length ≤ 1000000) (hX : ∀ k, X k → k < base) :
    ∃ v' w', (∀ ty, (Builtin.append_ #[35, 35] ty #[v, u]).run Try.prog w = .ok v' w') ∧ w'.ownsRow base 3 1 v' (l ++ m).length ((l ++ m).map encN) ∧ Dt w' (OwnX X v') d L ∧ Fr (NX X) w w' := by
  obtain ⟨v', w', hr, h2, h3, h4⟩ := app_ints ho hb hu hlim 35
  have hf : Fr (OwnX (OwnX X v) u) w w' := (Fr.refl _ w).grown h3 fun k hk _ => .inl (.inr hk)
  have hd2 := hd.fr hf
  obtain ⟨S, R, e, hW, a, x⟩ := hd.at_
  have a' := a.fr hf fun k hk hF => x k hF hk
  refine ⟨v', w', fun ty => hr, by rw [List.length_append, List.map_append]; exact h2, ⟨fun k hk => ?_, S, R, e, hW, a', fun k hk hx => ?_⟩, (Fr.refl _ w).grown h3 fun k hk hlt hx => ?_⟩
  · rcases hk with hk | hk
    · have := hd.lo k (.inl (.inl hk)); have := h3.size; omega
    · exact (h2.lt k hk).2
  · rcases hx with hx | hx
    · exact x k hk (.inl (.inl hx))
    · rcases h4 with h4 | h4
      · exact x k hk (.inl (.inr (h4 ▸ hx)))
      · rw [h4] at hx
        have := a.lt k hk
        have : w.heap.size = k := Option.some.inj hx
        omega
  · have := hX k hx
    have := (ho.lt k hk).1
    omega

theorem own_nil {X : Nat → Prop} {u : Value} {k : Nat} (h : OwnX (OwnX X (.slice none 0 0)) u k) : OwnX X u k := by
  rcases h with (h | h) | h
  · exact .inl h
  · simp [Value.ownBlock] at h
  · exact .inr h
/-- Behind a call, seen from the start, where more than what lies below B is the law's. -/
theorem belt2 {w0 w w' : World} {B : Nat} {X : Nat → Prop} (hB : Below B w0 w ∧ B ≤ w.heap.size) (hX : ∀ k, k < B → X k) (h : Fr (NX X) w w') : Below B w0 w' ∧ B ≤ w'.heap.size :=
  ⟨hB.1.trans ⟨h.os, h.tape, h.output, h.size, fun k hk => h.block k (by have := hB.2; omega) (fun hn => hn (hX k hk))⟩, Nat.le_trans hB.2 h.size⟩
theorem belt3 {w0 w w' : World} {B : Nat} (hB : Below B w0 w ∧ B ≤ w.heap.size) (h : Fr No w w') : Below B w0 w' ∧ B ≤ w'.heap.size := belt2 (X := Bel B) hB (fun _ hk => hk) h.any
/-- A beginning of the order, told as a stretch. -/
theorem btw_head {L : List Tx} {T : List Nat} (h : Ord L T) (hi : Tx) : btw L T [] hi = T.take (btw L T [] hi).length := by
  have e : btw L T [] hi = T.filter fun n => decide (txt L n < hi) := by
    unfold btw
    refine List.filter_congr fun n _ => ?_
    have : ¬ txt L n < ([] : Tx) := List.not_lt_nil _
    simp [this]
  have h1 := (take_countP (fun n => decide (txt L n < hi)) T (Ord.mono h.up hi)).1
  rw [e, ← h1]
  rw [List.length_take, Nat.min_eq_left List.countP_le_length]

set_option maxRecDepth 100000 in
set_option maxHeartbeats 8000000 in
theorem stretches_any (v : Value) (ts : List Tx) (a b c : Tx) (w : World) (hts : TAt w.heap.size w v ts) :
    Calls Try.prog 7 #[v, .agg #[.string ⟨a.toArray⟩, .string ⟨b.toArray⟩, .string ⟨c.toArray⟩]] w fun e w' => e = .returned (.bool true) ∧ Below w.heap.size w w' := by
  obtain ⟨w0, hw0⟩ : ∃ w0, w.alloc (.cells #[.string ⟨a.toArray⟩, .string ⟨b.toArray⟩, .string ⟨c.toArray⟩] 68) = w0 := ⟨_, rfl⟩
  obtain ⟨bb, hbb⟩ : ∃ bb, w.heap.size = bb := ⟨_, rfl⟩
  obtain ⟨B, hB⟩ : ∃ B, w0.heap.size = B := ⟨_, rfl⟩
  have hBb : B = bb + 1 := by rw [← hB, ← hw0, ← hbb]; simp
  have b0 : Below bb w w0 := by rw [← hbb, ← hw0]; exact ((Fr.refl No w).alloc _).below
  have hbk : Blk w0 bb 68 #[.string ⟨a.toArray⟩, .string ⟨b.toArray⟩, .string ⟨c.toArray⟩] := by rw [← hw0, ← hbb]; exact Blk.new w 68 _
  rw [hbb] at hts
  have hT0 := hts.below b0
  obtain ⟨hl9, htl, A, cc, rfl, hcell⟩ := hT0
  have HT : Hid (TAt bb w0 (.slice A ts.length cc) ts) := Lib.hid ⟨hl9, htl, A, cc, rfl, hcell⟩
  have HBK := Lib.hid hbk
  have HB0 := Lib.hid b0
  have HW0 := Lib.hid hw0
  have HBB := Lib.hid hbb
  have HBs := Lib.hid hB
  have HBb := Lib.hid hBb
  clear hbk b0 hw0 hbb hB hBb hts htl hcell
  go_enter Try.func7, Try.ntmps7
  go_upto_region 1 with fail
  rw [HW0.out, HBB.out]
  go_wp2_with fail
  refine (awake_any w0).mono ?_
  rintro e w1 ⟨rfl, b1⟩
  have B1 : Hid (Below B w0 w1) := Lib.hid (by rw [← HBs.out]; exact b1)
  clear b1
  go_wp2_with fail
  refine (m_new w1).mono ?_
  rintro e w2 ⟨rfl, h2, f2⟩
  have hS := seen_new HBs.out B1.out h2 f2
  obtain ⟨d, hd⟩ : ∃ d, w1.heap.size = d := ⟨_, rfl⟩
  rw [hd] at hS ⊢
  have HS := Lib.hid hS
  clear hS hd h2 f2 B1
  go_upto_region 6 with fail
  go_loopw [7] (fun iv wr => ∃ (k : Nat) (L : List Tx), iv = .int .i64 k ∧ k ≤ ts.length ∧ k ≤ 200 ∧ Hid (Seen2 w0 B d L wr)) (fun iv _ => 200 - (intOf iv).toNat)
  case atStart => exact ⟨0, [], rfl, Nat.zero_le _, by omega, HS⟩
  case round =>
    obtain ⟨k, L, rfl, hk, hk2, HK⟩ := hrel
    clear HS
    by_cases hlt : k < ts.length ∧ k < 200
    · obtain ⟨hlt1, hlt2⟩ := hlt
      obtain ⟨_, htl, A', cc', e', hcell⟩ := HT.out.below ((HK.out.bel).mono (by have := HBb.out; omega))
      injection e' with e1 _ e2
      subst e1 e2
      obtain ⟨g, o, rfl, hg, hx⟩ := hcell (by omega)
      have ct := hx k _ (List.getElem?_eq_getElem hlt1)
      have htk := htl _ (List.getElem_mem hlt1)
      unfold encT at ct
      generalize ts[k] = t at *
      have hput := m_put HK.out.dt t htk
      have HP := Lib.hid hput
      clear hput hx htl htk hcell
      go_wp2_with (go_at_call 15; refine HP.out.mono ?_; rintro e w3 ⟨rfl, h3, f3⟩; have HK3 := Lib.hid (HK.out.put h3 f3); clear h3 f3)
      go_roundw
      case rel => exact ⟨k + 1, _, by go_num, by omega, by omega, HK3⟩
      case measure => simp [intOf]; omega
    · have hor : ts.length ≤ k ∨ (k < ts.length ∧ 200 ≤ k) := by omega
      have hbk := HBK.out.of (HK.out.bel.block bb (by have := HBb.out; omega))
      have x0 := hbk.cell 0
      have x1 := hbk.cell 1
      have x2 := hbk.cell 2
      have hfin : ∀ w', Below B w0 w' → Below w.heap.size w w' := by
        intro w' h
        rw [HBB.out]
        exact HB0.out.trans (h.mono (by have := HBb.out; omega))
      have HFIN := Lib.hid hfin
      obtain ⟨T, hT⟩ := ord_exists HK.out.dt.facts.1
      have HO := Lib.hid hT
      have HLL := Lib.hid HK.out.dt.facts.2.1
      have HLE : Hid (B ≤ wr.heap.size) := Lib.hid HK.out.le
      have HBL : Hid (Below B w0 wr) := Lib.hid HK.out.bel
      have HD := Lib.hid HK.out.dt
      clear hT hfin hbk hlt HK HT HBK
      have hrise : (Op.bytesLess a b || a == b) = false ∨ ((Op.bytesLess a b || a == b) = true ∧ (Op.bytesLess b c || b == c) = false) ∨ ((Op.bytesLess a b || a == b) = true ∧ (Op.bytesLess b c || b == c) = true) := by
        cases (Op.bytesLess a b || a == b) <;> cases (Op.bytesLess b c || b == c) <;> simp
      have hup : (Op.bytesLess a b || a == b) = true → ¬ b < a := by
        intro h hlt
        rw [Bool.or_eq_true, less_dec] at h
        rcases h with h | h
        · exact tx_asymm hlt (by simpa using h)
        · rw [beq_iff_eq] at h; subst h; exact tx_irrefl _ hlt
      have hup2 : (Op.bytesLess b c || b == c) = true → ¬ c < b := by
        intro h hlt
        rw [Bool.or_eq_true, less_dec] at h
        rcases h with h | h
        · exact tx_asymm hlt (by simpa using h)
        · rw [beq_iff_eq] at h; subst h; exact tx_irrefl _ hlt
      have HU1 := Lib.hid hup
      have HU2 := Lib.hid hup2
      clear hup hup2
      rcases hrise with r | ⟨r1, r⟩ | ⟨r1, r2⟩
      · clear HU1 HU2 HO HLL HLE HD
        rcases hor with h1 | ⟨h1, h2⟩
        all_goals (go_wp2; go_ret; exact ⟨rfl, HFIN.out _ HBL.out⟩)
      · clear HU1 HU2 HO HLL HLE HD
        rcases hor with h1 | ⟨h1, h2⟩
        all_goals (go_wp2; go_ret; exact ⟨rfl, HFIN.out _ HBL.out⟩)
      · have HJ : Hid (btw L T a b ++ btw L T b c = btw L T a c) := Lib.hid (btw_join HO.out.up (HU1.out r1) (HU2.out r2))
        have HX0 : Hid (Below B w0 wr ∧ B ≤ wr.heap.size) := Lib.hid ⟨HBL.out, HLE.out⟩
        clear HU1 HU2 HBL
        rcases hor with h1 | ⟨h1, h2⟩
        all_goals (go_upto_region 15 with fail)
        all_goals clear h1 x0 x1 x2 r1 r2
        all_goals (try clear h2)
        all_goals (
          go_wp2_with fail
          refine (st_between HD.out HO.out a b).mono ?_
          rintro e w1 ⟨v1, rfl, ho1, hd1, f1⟩
          have HX1 := Lib.hid (belt2 (X := Bel B) HX0.out (fun _ hk => hk) f1)
          obtain ⟨va, w2, hr2, ho2, hd2, f2⟩ := st_append (base := w1.heap.size) (v := .slice none 0 0) (l := []) (hd1.less fun k hk => own_nil hk) (World.ownsRow_nil _ _ _ _) (Nat.le_refl _) ho1 (by have := btw_len HO.out HLL.out a b; simp; omega) (fun k hk => by have := HX1.out.2; unfold Bel at hk; omega)
          rw [List.nil_append] at ho2
          have HX2 := Lib.hid (belt2 (X := Bel B) HX1.out (fun _ hk => hk) f2)
          have HR2 := Lib.hid hr2
          have HO2 := Lib.hid ho2
          have HD2 := Lib.hid hd2
          have HS1 : Hid (B ≤ w1.heap.size) := Lib.hid HX1.out.2
          have HS2 : Hid (w1.heap.size ≤ w2.heap.size) := Lib.hid f2.size
          clear ho1 hd1 f1 hr2 ho2 hd2 f2 HX0 HX1 HD HLE
          go_wp2_with (at_builtin; refine wpList_addr 35 rfl _ _ rfl _ _ _ _ rfl rfl (HR2.out _) ?_)
          refine (st_between HD2.out HO.out b c).mono ?_
          rintro e w3 ⟨v2, rfl, ho3, hd3, f3⟩
          have HX3 := Lib.hid (belt2 (X := OwnX (Bel B) va) HX2.out (fun _ hk => .inl hk) f3)
          have hoa := row_keep HO2.out (fun k hk => .inr hk) f3
          obtain ⟨vb, w4, hr4, ho4, hd4, f4⟩ := st_append hd3 hoa (Nat.le_trans HS2.out f3.size) ho3 (by have := btw_len HO.out HLL.out a b; have := btw_len HO.out HLL.out b c; omega) (fun k hk => by have := HS1.out; unfold Bel at hk; omega)
          rw [HJ.out] at ho4
          have HX4 := Lib.hid (belt2 (X := Bel B) HX3.out (fun _ hk => hk) f4)
          have HR4 := Lib.hid hr4
          have HO4 := Lib.hid ho4
          have HD4 := Lib.hid hd4
          clear ho3 hd3 f3 hoa hr4 ho4 hd4 f4 HX2 HX3 HR2 HO2 HD2 HS1 HS2 HJ
          go_wp2_with (at_builtin; refine wpList_addr 35 rfl _ _ rfl _ _ _ _ rfl rfl (HR4.out _) ?_)
          refine (st_between HD4.out HO.out a c).mono ?_
          rintro e w5 ⟨v3, rfl, ho5, hd5, f5⟩
          have HX5 := Lib.hid (belt2 (X := OwnX (Bel B) vb) HX4.out (fun _ hk => .inl hk) f5)
          have hlac := btw_len HO.out HLL.out a c
          have HSA := Lib.hid (same_true vb v3 _ w5 (LAt.own (row_keep HO4.out (fun k hk => .inr hk) f5) (by omega)) (LAt.own ho5 (by omega)))
          have HD5 := Lib.hid (hd5.less (Y := Bel B) fun k hk => .inl (.inl hk))
          clear ho5 hd5 f5 hlac HX4 HR4 HO4 HD4
          go_wp2_with fail
          refine HSA.out.mono ?_
          rintro e w6 ⟨rfl, f6⟩
          have HX6 := Lib.hid (belt3 HX5.out f6)
          have HD6 := Lib.hid (HD5.out.keep f6)
          clear f6 HX5 HD5 HSA
          go_wp2_with fail
          refine (st_between HD6.out HO.out [] [255, 255, 255]).mono ?_
          rintro e w7 ⟨v4, rfl, ho7, hd7, f7⟩
          have HX7 := Lib.hid (belt2 (X := Bel B) HX6.out (fun _ hk => hk) f7)
          have HO7 := Lib.hid ho7
          have HD7 := Lib.hid hd7
          clear ho7 hd7 f7 HX6 HD6
          go_wp2_with fail
          refine (st_sorted HD7.out HO.out).mono ?_
          rintro e w8 ⟨v5, rfl, ho8, hd8, f8⟩
          have HX8 := Lib.hid (belt2 (X := OwnX (Bel B) v4) HX7.out (fun _ hk => .inl hk) f8)
          have HO7' := Lib.hid (row_keep HO7.out (fun k hk => .inr hk) f8)
          have HO8 := Lib.hid ho8
          have HD8 := Lib.hid hd8
          clear ho8 hd8 f8 HX7 HO7 HD7
          go_wp2_with fail
          refine (st_between HD8.out HO.out [] [255, 255, 255]).mono ?_
          rintro e w9 ⟨v6, rfl, ho9, hd9, f9⟩
          have HX9 := Lib.hid (belt2 (X := OwnX (OwnX (Bel B) v4) v5) HX8.out (fun _ hk => .inl (.inl hk)) f9)
          have ho7 := row_keep HO7'.out (fun k hk => .inl (.inr hk)) f9
          have ho8 := row_keep HO8.out (fun k hk => .inr hk) f9
          have hlf := btw_len HO.out HLL.out [] [255, 255, 255]
          have hlT : T.length ≤ 4096 := by rw [HO.out.len]; exact HLL.out
          have hle : (btw L T [] [255, 255, 255]).length ≤ T.length := by unfold btw; exact List.length_filter_le _ _
          obtain ⟨A6, c6, rfl⟩ := own_form ho9
          obtain ⟨u, hu, hul⟩ := head_ints ho8 (by omega) hle
          have hs := same_true v4 u _ w9 (LAt.own ho7 (by omega)) (by rw [btw_head HO.out]; exact hul)
          have HS := Lib.hid hs
          have HU := Lib.hid hu
          obtain ⟨nb, hnb⟩ : ∃ nb, (btw L T [] [255, 255, 255]).length = nb := ⟨_, rfl⟩
          rw [hnb] at HU ⊢
          have hnb2 : nb ≤ 4096 := by omega
          have hu := HU.out
          clear ho9 hd9 f9 ho7 ho8 hlf hlT hle hul hs hnb HX8 HO7' HO8 HD8
          go_wp2_with (go_at_call 12; refine HS.out.mono ?_; rintro e w10 ⟨rfl, f10⟩)
          go_ret
          exact ⟨rfl, HFIN.out _ (belt3 HX9.out f10).1⟩)
end Go.Proofs.Ytlglfcadoofmpaa
