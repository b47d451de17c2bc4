/- WalTurned, walked. -/
import Derived.Test.YtccjkolcmdhliaaGreatDoorY6
import Derived.Deep.RegionWith
import Derived.Deep.RegionHeld3
import Derived.Deep.AppendLies
namespace Go.Proofs.YtccjkolcmdhliaaGreatDoor
open Go.RowKit Go.Maps Go.Sort
set_option linter.unusedVariables false

theorem at_abs (at_ : Int) (h : i64 at_) : ∃ k : Nat, (k : Int) ≤ 9223372036854775807 ∧ ((at_ < 0 ∧ -(at_ + 1) = (k : Int)) ∨ (0 ≤ at_ ∧ at_ = (k : Int))) := by
  by_cases h0 : at_ < 0
  · exact ⟨(-(at_ + 1)).toNat, by unfold i64 at h; omega, .inl ⟨h0, by omega⟩⟩
  · exact ⟨at_.toNat, by unfold i64 at h; omega, .inr ⟨by omega, by omega⟩⟩
theorem xor_byte (c : UInt8) (x : Nat) (hx : x < 256) (h0 : x ≠ 0) : ∃ y : UInt8, bits .xor .u8 (c.toNat : Int) (x : Int) = (y.toNat : Int) ∧ y ≠ c := by
  have hc : c.toNat < 256 := c.toNat_lt
  have hlt : c.toNat ^^^ x < 256 := Nat.xor_lt_two_pow (n := 8) hc hx
  have ht : (UInt8.ofNat (c.toNat ^^^ x)).toNat = c.toNat ^^^ x := by rw [UInt8.toNat_ofNat']; exact Nat.mod_eq_of_lt hlt
  refine ⟨UInt8.ofNat (c.toNat ^^^ x), ?_, fun h => h0 ?_⟩
  · rw [u8_xor_nat _ _ hc hx, ht]
  · have e : c.toNat ^^^ x = c.toNat := by
      have := congrArg UInt8.toNat h
      rwa [ht] at this
    have : c.toNat ^^^ x = c.toNat ^^^ 0 := by rw [e, Nat.xor_zero]
    exact xor_left_inj this
/-- the byte turned, as a text -/
theorem conv1 (g : Nat) (y : UInt8) (w : World) (h : w.cell? ⟨g, 0, none⟩ = some (byteV y)) : (convert 63 9 (.slice (some ⟨g, 0, none⟩) 1 1)).run Tryz.prog w = .ok (sv [y]) w := by
  have h2 := run_convert_bytes_arg w 63 5 Tryz.underlying63 Tryz.underlying5 g 0 1 1 [(y.toNat : Int)] rfl (fun i hi => by
    obtain rfl : i = 0 := by omega
    exact h) 9 Tryz.underlying9
  refine h2.trans ?_
  simp [strOfNums, sv]
theorem Tst.cells {w wx : World} {ds : List (List UInt8)} {m c : Nat} {A : Option Addr} (h : Tst w wx ds m (.slice A m c)) (hm : 0 < m) : ∃ g, A = some ⟨g, 0, none⟩ ∧ ∀ i, i < m → wx.cell? ⟨g, i, none⟩ = some (.int .i64 ((beg ds i : Nat) : Int)) := by
  have hr := h.row
  have hl := begV_len ds m
  rcases hr.2 with ⟨e1, e2⟩ | ⟨g, cap, cur, e1, hg, _⟩
  · omega
  · injection e1 with e1 e3 e4
    subst e1
    exact ⟨g, rfl, fun i hi => (hr.cellAt i (by omega)).trans (begV_at ds m i hi)⟩
theorem beg_gap {ds : List (List UInt8)} {m j : Nat} (h : m ≤ ds.length) (hj : j < m) : beg ds j + 20 ≤ beg ds (j + 1) ∧ beg ds (j + 1) ≤ (frames (ds.take m) 0).length := by
  have h1 := beg_step ds j (by omega)
  rw [frameR_len, body_len] at h1
  refine ⟨by omega, ?_⟩
  have : beg ds (j + 1) = (frames ((ds.take m).take (j + 1)) 0).length := by unfold beg; rw [List.take_take, Nat.min_eq_left (by omega)]
  rw [this]
  have h2 := frames_mono (ds := ds.take m) (i := 0) (m := j + 1) (m' := m) (by omega)
  rwa [List.take_of_length_le (l := ds.take m) (i := m) (by rw [List.length_take]; omega)] at h2
set_option maxRecDepth 100000 in
set_option maxHeartbeats 8000000 in
theorem walTurned_any {w : World} {V : Value} {ds : List (List UInt8)} {at_ : Int} {by_ : Nat} (hv : Vr w) (hV : RowE (fun k => k < w.heap.size) w 1 strE V ds) (hlen : ∀ s ∈ ds, s.length ≤ 1048576) (ha : i64 at_) (hby : by_ < 256) :
    Calls Tryz.prog 5 #[V, .int .i64 at_, .int .u8 (by_ : Int)] w fun e w' => e = .returned (.bool true) ∧ Below w.heap.size w w' := by
  obtain ⟨A0, c0, hVe, hmax, hcell⟩ := hV
  subst hVe
  have HV := Lib.hid hv
  have HC := Lib.hid hcell
  have HLEN := Lib.hid hlen
  obtain ⟨n, hn⟩ : ∃ n, ds.length = n := ⟨_, rfl⟩
  have HN := Lib.hid hn
  rw [hn] at hmax ⊢
  clear hv hcell hlen hn
  go_enter Tryz.func5, Tryz.ntmps5
  go_wp2_with fail
  refine (awake_any w HV.out).mono ?_
  rintro e wa ⟨rfl, hva, hba⟩
  have HT0 : Hid (Tst w wa ds 0 (.slice none 0 0)) := Lib.hid (Tst.start hva (Fr.of_below hba) HV.out.lt)
  clear hva hba
  go_upto_block 0 with fail
  go_cut [8, 9] (fun fv st wx => ∃ (m : Nat) (A : Option Addr) (c : Nat), fv = sv (frames (ds.take m) 0) ∧ st = .slice A m c ∧ Tst w wx ds m (.slice A m c))
  case first =>
    go_wp2_with fail
    go_loopw [8, 9, 10] (fun fv st iv wr => ∃ (m : Nat) (A : Option Addr) (c : Nat), m ≤ n ∧ fv = sv (frames (ds.take m) 0) ∧ st = .slice A m c ∧ iv = .int .i64 (m : Nat) ∧ Tst w wr ds m (.slice A m c)) (fun _ _ iv _ => n - (intOf iv).toNat)
    case atStart => exact ⟨0, none, 0, Nat.zero_le _, by simp [frames, sv], rfl, rfl, HT0.out⟩
    case round =>
      obtain ⟨m, A, c, hmn, rfl, rfl, rfl, hT⟩ := hrel
      have HT := Lib.hid hT
      have hm250 := hT.many
      have hfl := hT.len
      clear hT HT0
      by_cases hlt : m < n
      · have hml : m < ds.length := by rw [HN.out]; exact hlt
        obtain ⟨gd, off, rfl, hgd, hcs⟩ := HC.out (by omega)
        obtain ⟨cs, -, hcs2, hcs3⟩ := hcs m hml
        have x0 : wr.cell? ⟨gd, off + m, none⟩ = some (sv ds[m]) := by
          have := (cell_eq (HT.out.fr.block gd hgd id) (off + m * 1 + 0)).trans (hcs2 0 (by omega))
          rw [hcs3.1] at this
          simpa using this
        have hdl := HLEN.out _ (List.getElem_mem hml)
        have HREC := Lib.hid (fun w => record_any (((m + 1 : Nat)) : Int) ds[m] w (by omega))
        have HSN := Lib.hid (frames_snoc ds m hml)
        have HMO := Lib.hid (fun w1 stv' => HT.out.more (w1 := w1) (stv' := stv') hml)
        have e1 : (((m + 1 : Nat)) : Int) = (m : Int) + 1 := by omega
        have hbl := body_len ((m + 1 : Nat) : Int) ds[m]
        have hfr := frameR_len (body ((m + 1 : Nat) : Int) ds[m])
        have HRB : Hid (recB ((m + 1 : Nat) : Int) ds[m] = if ds[m].length ≤ 65524 then (frameR (body ((m + 1 : Nat) : Int) ds[m]), 0) else ([], 23)) := Lib.hid rfl
        obtain ⟨Fb, hFb⟩ : ∃ Fb, frameR (body ((m + 1 : Nat) : Int) ds[m]) = Fb := ⟨_, rfl⟩
        obtain ⟨RB, hRB⟩ : ∃ RB, recB ((m + 1 : Nat) : Int) ds[m] = RB := ⟨_, rfl⟩
        rw [hRB, e1] at HREC
        rw [hRB, hFb] at HRB
        rw [hFb] at HSN hfr
        obtain ⟨dd, hdd⟩ : ∃ dd, ds[m] = dd := ⟨_, rfl⟩
        rw [hdd] at x0 HREC HRB hbl hdl hfr
        have HDD := Lib.hid hdd
        obtain ⟨F, hF⟩ : ∃ F, frames (ds.take m) 0 = F := ⟨_, rfl⟩
        have HBEG : Hid (beg ds m = F.length) := Lib.hid (by unfold beg; rw [hF])
        have HF := Lib.hid hF
        rw [hF] at HSN hfl ⊢
        clear hcs hcs2 hcs3 hdd hF hFb hRB
        go_wp2_with fail
        refine (HREC.out _).mono ?_
        by_cases hs : dd.length ≤ 65524
        · have hR2 := HRB.out
          rw [if_pos hs] at hR2
          rw [hR2]
          clear hR2
          rintro e w2 ⟨rfl, f2⟩
          have F2 := Lib.hid f2
          clear f2 HREC HRB
          have hFl : Fb.length = dd.length + 20 := by omega
          clear hfr hbl
          by_cases hsum : F.length + Fb.length ≤ 3000
          · have t1 : IntKind.i64.wrap ((F.length : Int) + (Fb.length : Int)) = (F.length : Int) + (Fb.length : Int) := IntWalk.i64_in _ (by omega)
            have t2 : decide ((3000 : Int) < (F.length : Int) + (Fb.length : Int)) = false := by simp; omega
            have t3 : decide ((Fb.length : Int) < 9) = false := by simp; omega
            have q2 := fun w' => run_cat F Fb (by omega) w'
            obtain ⟨i0, hi0, hz0, hz1, hz2⟩ := info_parts info3
            have HROW : Hid ((w2).ownsRow w.heap.size 3 1 (.slice A m c) m (begV ds m)) := Lib.hid (HT.out.step F2.out).row
            have hsz2 : w.heap.size ≤ w2.heap.size := (HT.out.step F2.out).fr.size
            have B1' : Hid (∀ j' u, [Value.int .i64 (F.length : Int)][j']? = some u → (w2.alloc (.cells #[.int .i64 (F.length : Int)] 3)).cell? ((⟨w2.heap.size, 0, none⟩ : Addr).add j') = some u) := Lib.hid fun j u hu => by
              rw [Addr.add_lit, Nat.zero_add]
              exact ((Blk.new w2 3 #[.int .i64 (F.length : Int)]).cell j).trans (by simpa using hu)
            have B2' : Hid (∀ u ∈ [Value.int .i64 (F.length : Int)], u.oneCell' = true) := Lib.hid fun x hx => by simp at hx; subst hx; rfl
            have B3' : Hid (m + 1 ≤ maxLen) := Lib.hid (by unfold maxLen; omega)
            have B4' : Hid (w.heap.size ≤ (w2.alloc (.cells #[.int .i64 (F.length : Int)] 3)).heap.size) := Lib.hid (by simp; omega)
            have B5' : Hid ((w2.alloc (.cells #[.int .i64 (F.length : Int)] 3)).ownsRow w.heap.size 3 1 (.slice A m c) m (begV ds m)) := Lib.hid (HROW.out.alloc _)
            clear hsz2
            go_wp2_with (at_builtin; refine wpList_append_lies _ (by rfl) _ _ 34 (by rfl) w.heap.size 3 i0 _ 1 8 Tryz.underlying34 hi0 hz0 hz1 hz2 rfl (by omega) (.slice A m c) m (begV ds m) (by rfl) B5'.out ⟨w2.heap.size, 0, none⟩ 1 1 [.int .i64 (F.length : Int)] (by rfl) (by rfl) B1'.out B2'.out (by omega) B3'.out (by omega) B4'.out _ rfl ?_; intro g' cap' w5 ho3 hg3 hat3 hl3)
            refine ⟨⟨m + 1, _, _, by omega, by rw [HSN.out], rfl, by go_num, ?_⟩, by simp [intOf]; omega⟩
            refine HMO.out w5 _ (by rw [HDD.out]; exact hs) (by rw [HSN.out, List.length_append]; omega) ((((F2.out.grownBy _).trans (World.grownBy_alloc _ _ _)).trans hg3)) (by rw [HBEG.out]; exact ho3)
          · have t1 : IntKind.i64.wrap ((F.length : Int) + (Fb.length : Int)) = (F.length : Int) + (Fb.length : Int) := IntWalk.i64_in _ (by omega)
            have t2 : decide ((3000 : Int) < (F.length : Int) + (Fb.length : Int)) = true := by simp; omega
            go_wp2_with fail
            go_meet
            exact ⟨m, A, c, by rw [HF.out], rfl, HT.out.step F2.out⟩
        · have hR2 := HRB.out
          rw [if_neg hs] at hR2
          rw [hR2]
          clear hR2
          rintro e w2 ⟨rfl, f2⟩
          have F2 := Lib.hid f2
          clear f2 HREC HRB
          go_wp2_with fail
          go_meet
          exact ⟨m, A, c, by rw [HF.out], rfl, HT.out.step F2.out⟩
      · have hge : decide ((m : Int) < (n : Int)) = false := by simp; omega
        go_wp2_with fail
        go_meet
        exact ⟨m, A, c, rfl, rfl, HT.out⟩
  case rest =>
    obtain ⟨m, A, c, rfl, rfl, hT⟩ := hcut
    have HT := Lib.hid hT
    have hm250 := hT.many
    have hfl := hT.len
    have hle := hT.le
    clear HT0 HC hmax
    by_cases h0 : m = 0
    · subst h0
      clear hT
      go_wp2_with fail
      go_ret
      exact ⟨rfl, HT.out.fr.below⟩
    · have hm0 : 0 < m := by omega
      obtain ⟨g, rfl, hcell⟩ := hT.cells hm0
      obtain ⟨k, hk, hat⟩ := at_abs at_ ha
      obtain ⟨j, hj⟩ : ∃ j, k % m = j := ⟨_, rfl⟩
      have hjm : j < m := by rw [← hj]; exact Nat.mod_lt _ hm0
      have hjI : (k : Int) % (m : Int) = (j : Int) := by rw [← hj]; omega
      obtain ⟨hg1, hg2⟩ := beg_gap hle hjm
      have x0 := hcell j hjm
      have HX1 : Hid (j + 1 < m → wc.cell? ⟨g, j + 1, none⟩ = some (.int .i64 ((beg ds (j + 1) : Nat) : Int))) := Lib.hid fun h => hcell (j + 1) h
      have HXE : Hid (j + 1 = m → beg ds (j + 1) = (frames (ds.take m) 0).length) := Lib.hid fun h => by rw [h]; rfl
      obtain ⟨B, hB⟩ : ∃ B, beg ds j = B := ⟨_, rfl⟩
      obtain ⟨T, hTT⟩ : ∃ T, beg ds (j + 1) = T := ⟨_, rfl⟩
      obtain ⟨F, hF⟩ : ∃ F, frames (ds.take m) 0 = F := ⟨_, rfl⟩
      have HB := Lib.hid hB
      have HTT := Lib.hid hTT
      have HF := Lib.hid hF
      rw [hB] at x0 hg1
      rw [hTT] at HX1 HXE hg1 hg2
      rw [hF] at HXE hg2 hfl ⊢
      have hmI : ((m : Int) == 0) = false := by simp; omega
      have hkd : k / m ≤ k := Nat.div_le_self _ _
      obtain ⟨kd, hkdd⟩ : ∃ z, k / m = z := ⟨_, rfl⟩
      have hkI : (k : Int) / (m : Int) = (kd : Int) := by rw [← hkdd]; simp
      obtain ⟨q, hq⟩ : ∃ q, kd % (T - B - 4) = q := ⟨_, rfl⟩
      have hql : q < T - B - 4 := by rw [← hq]; exact Nat.mod_lt _ (by omega)
      have hqI : (kd : Int) % ((T : Int) - (B : Int) - 4) = (q : Int) := by
        rw [← hq, show (T : Int) - (B : Int) - 4 = ((T - B - 4 : Nat) : Int) by omega]; simp
      clear hT hcell hj hB hTT hF hkdd hq
      go_upto_if 70 with fail
      go_cut [13] (fun kv wx => kv = .int .i64 (k : Nat) ∧ wx = wc)
      case first =>
        clear hjI hkI hqI x0
        rcases hat with ⟨h1, h2⟩ | ⟨h1, h2⟩
        · go_wp2_with fail
          go_meet
          exact ⟨by rw [← h2], rfl⟩
        · subst h2
          go_wp2_with fail
          go_meet
          exact ⟨rfl, rfl⟩
      case rest =>
        obtain ⟨rfl, hw⟩ := hcut
        subst hw
        clear hat
        have q1 : (j : Int) + 1 ≤ (m : Int) := by omega
        go_upto_if 90 with fail
        go_cut [15] (fun tv wx => ∃ wz, wz = wx ∧ tv = .int .i64 (T : Nat) ∧ Fr No wc wz)
        case first =>
          clear hkI hqI
          by_cases hjn : j + 1 < m
          · have x1 := HX1.out hjn
            have t1 : decide ((j : Int) + 1 < (m : Int)) = true := by simp; omega
            go_wp2_with fail
            go_meet
            exact ⟨_, rfl, rfl, Fr.refl _ _⟩
          · have t1 : decide ((j : Int) + 1 < (m : Int)) = false := by simp; omega
            have hTF := HXE.out (by omega)
            go_wp2_with fail
            go_meet
            exact ⟨_, rfl, by rw [hTF], Fr.refl _ _⟩
        case rest =>
          obtain ⟨wz, ew, rfl, fz⟩ := hcut
          subst ew
          have HT2 := Lib.hid (HT.out.step fz)
          clear HT fz
          have hpl : B + 4 + q < F.length := by omega
          have w1' : IntKind.i64.wrap ((B : Int) + 4 + (q : Int)) = ((B + 4 + q : Nat) : Int) := by rw [IntWalk.i64_in _ (by omega)]; omega
          go_upto_region 23 with fail
          clear hjI hkI hqI
          obtain ⟨P, hP⟩ : ∃ P, B + 4 + q = P := ⟨_, rfl⟩
          have HP := Lib.hid hP
          have hPl : P < F.length := by omega
          clear hP
          obtain ⟨x, hx⟩ : ∃ x, (by_ = 0 ∧ x = 1) ∨ (by_ ≠ 0 ∧ x = by_) := by
            by_cases h : by_ = 0
            · exact ⟨1, .inl ⟨h, rfl⟩⟩
            · exact ⟨by_, .inr ⟨h, rfl⟩⟩
          have hx2 : x < 256 ∧ x ≠ 0 := by omega
          go_upto_if 113 with fail
          go_cut [16, 17] (fun pv xv wx => ∃ wy, wy = wx ∧ pv = .int .i64 (P : Nat) ∧ xv = .int .u8 (x : Nat) ∧ Fr No wz wy)
          case first =>
            rcases hx with ⟨rfl, rfl⟩ | ⟨hb0, rfl⟩
            · go_wp2_with fail
              go_meet
              exact ⟨_, rfl, congrArg (Value.int .i64) (by have := HP.out; omega), rfl, Fr.refl _ _⟩
            · have hbb : ((x : Int) == 0) = false := by rw [beq_eq_false_iff_ne]; omega
              clear hb0
              go_wp2_with fail
              go_meet
              exact ⟨_, rfl, congrArg (Value.int .i64) (by have := HP.out; omega), rfl, Fr.refl _ _⟩
          case rest =>
            obtain ⟨wy, ew, rfl, rfl, fy⟩ := hcut
            subst ew
            have HT3 := Lib.hid (HT2.out.step fy)
            obtain ⟨y, hy, hne⟩ := xor_byte F[P] x hx2.1 hx2.2
            have hxl : (ds.take m).length = m := by rw [List.length_take]; omega
            have hbad : scanW ((tn F P y).length + 1) [] (tn F P y) 0 = none := by
              have b1 := beg_take ds m j (by omega)
              have b2 := beg_take ds m (j + 1) (by omega)
              have hmany := frames_many (ds.take m) 0
              rw [HF.out, hxl] at hmany
              have := scan_turned (ds.take m) HT3.out.small (by omega) j (by omega) q (by rw [b1, b2, HB.out, HTT.out]; omega) y (by rw [b1, HB.out, HF.out, HP.out, List.getElem?_eq_getElem hPl]; intro e; exact hne (Option.some.inj e).symm) ((tn F P y).length + 1) (by rw [tn_len hPl]; omega)
              rw [b1, HB.out, HF.out, HP.out] at this
              exact this
            have htl := tn_len (c := y) hPl
            obtain ⟨X, hX⟩ : ∃ X : Nat → Prop, (fun k => k < w.heap.size) = X := ⟨_, rfl⟩
            have HX : Hid (∀ k, X k ↔ k < w.heap.size) := Lib.hid fun k => by rw [← hX]
            have HLO : Hid (∀ k, k < 4 → X k) := Lib.hid fun k hk => (HX.out k).2 (by have := HV.out.lt; omega)
            have HV3 := Lib.hid HT3.out.vr
            have HSM := Lib.hid HT3.out.small
            have F3 : Hid (Fr (fun k => ¬ X k) w wy) := Lib.hid HT3.out.fr.any
            have HXL := Lib.hid hxl
            have hP1 : (ByteArray.mk F.toArray).extract 0 P = ⟨(F.take P).toArray⟩ := by rw [ext_list, List.drop_zero]
            have hR1 : (ByteArray.mk F.toArray).extract (P + 1) F.length = ⟨(F.drop (P + 1)).toArray⟩ := by rw [ext_list, List.take_length]
            have hTN : tn F P y = F.take P ++ [y] ++ F.drop (P + 1) := by unfold tn; simp
            have l1 : (F.take P).length = P := by rw [List.length_take]; omega
            have l2 : (F.drop (P + 1)).length = F.length - (P + 1) := List.length_drop
            have HC1 : Hid (∀ w0, (Op.stringOp .add ⟨(F.take P).toArray⟩ ⟨#[y]⟩).run Tryz.prog w0 = .ok (.string ⟨(F.take P ++ [y]).toArray⟩) w0) := Lib.hid fun w0 => run_cat _ [y] (by simp only [List.length_singleton]; omega) w0
            have HC2 : Hid (∀ w0, (Op.stringOp .add ⟨(F.take P ++ [y]).toArray⟩ ⟨(F.drop (P + 1)).toArray⟩).run Tryz.prog w0 = .ok (.string ⟨(tn F P y).toArray⟩) w0) := Lib.hid fun w0 => by
              rw [hTN]; exact run_cat _ _ (by simp only [List.length_append, List.length_singleton]; omega) w0
            have HIX : Hid (∀ w0 : World, (Instr.index 9 (.string ⟨F.toArray⟩) (.int .i64 (P : Int))).run Tryz.prog w0 = .ok (.int .u8 (F[P].toNat : Int)) w0) := Lib.hid fun w0 => by
              rw [run_index_string w0 9 ⟨F.toArray⟩ .i64 (P : Int) Tryz.underlying9, dif_pos ⟨by omega, by rw [sz]; omega⟩]
              rfl
            have HBAD := Lib.hid hbad
            have HY := Lib.hid hy
            have HP1 := Lib.hid hP1
            have HR1 := Lib.hid hR1
            have htl2 : (tn F P y).length ≤ 10000 := by omega
            obtain ⟨xs, hxs⟩ : ∃ xs, ds.take m = xs := ⟨_, rfl⟩
            rw [hxs] at HSM HXL HF
            obtain ⟨cF, hcF⟩ : ∃ z, F[P] = z := ⟨_, rfl⟩
            rw [hcF] at HIX HY
            obtain ⟨F2, hF2⟩ : ∃ z, tn F P y = z := ⟨_, rfl⟩
            rw [hF2] at HC2 HBAD htl htl2
            obtain ⟨PA, hPA⟩ : ∃ z, F.take P = z := ⟨_, rfl⟩
            rw [hPA] at HP1 HC1 HC2
            obtain ⟨PB, hPB⟩ : ∃ z, F.drop (P + 1) = z := ⟨_, rfl⟩
            rw [hPB] at HR1 HC2
            clear hy hne hbad hX hxl hP1 hR1 hTN l1 l2 HT3 HT2 fy hx hxs hcF hF2 hPA hPB HB HTT HX1 HXE
            go_wp2_with fail
            refine (x_new 10000 wy X fun k hk => Nat.lt_of_lt_of_le ((HX.out k).1 hk) F3.out.size).mono ?_
            rintro e w4 ⟨d, rfl, h1, f1⟩
            have H4 := Lib.hid h1
            have V4 := Lib.hid (HV3.out.keep f1)
            have F4 := Lib.hid (F3.out.thenX f1.any)
            clear h1 f1 HV3 F3
            go_wp2_with fail
            refine (y_name w4 V4.out).mono ?_
            rintro e w5 ⟨rfl, f5⟩
            have H5 := Lib.hid (H4.out.keep f5)
            have V5 := Lib.hid (V4.out.keep f5)
            have F5 := Lib.hid (F4.out.thenX f5.any)
            clear f5 H4 V4 F4
            go_wp2_with fail
            refine (y_write H5.out F (by omega)).mono ?_
            rintro e w6 ⟨rfl, h6, f6⟩
            have H6 := Lib.hid h6
            have V6 := Lib.hid (V5.out.x HLO.out f6)
            have F6 := Lib.hid (F5.out.thenX f6)
            clear h6 f6 H5 V5 F5
            go_wp2_with fail
            refine (y_name w6 V6.out).mono ?_
            rintro e w7 ⟨rfl, f7⟩
            have H7 := Lib.hid (H6.out.keep f7)
            have V7 := Lib.hid (V6.out.keep f7)
            have F7 := Lib.hid (F6.out.thenX f7.any)
            clear f7 H6 V6 F6
            go_wp2_with fail
            refine (y_sync H7.out (one_1 F)).mono ?_
            rintro e w8 ⟨rfl, S8, h8, u8', f8⟩
            have H8 := Lib.hid h8
            have U8 := Lib.hid u8'
            have V8 := Lib.hid (V7.out.x HLO.out f8)
            have F8 := Lib.hid (F7.out.thenX f8)
            clear h8 f8 u8' H7 V7 F7
            go_wp2_with fail
            refine (y_settle H8.out U8.out).mono ?_
            rintro e w9 ⟨rfl, S9, h9, u9', f9⟩
            have H9 := Lib.hid h9
            have U9 := Lib.hid u9'
            have V9 := Lib.hid (V8.out.x HLO.out f9)
            have F9 := Lib.hid (F8.out.thenX f9)
            clear h9 f9 u9' H8 V8 F8 U8
            go_wp2_with fail
            refine (y_copy H9.out U9.out).mono ?_
            rintro e wa1 ⟨cd, rfl, ha1, fa1⟩
            have HA := Lib.hid ha1
            have VA := Lib.hid (V9.out.keep fa1)
            have FA := Lib.hid (F9.out.thenX fa1.any)
            clear ha1 fa1 H9 V9 F9
            go_wp2_with fail
            refine (y_open HA.out U9.out HF.out HSM.out (by rw [HXL.out]; omega) VA.out HLO.out (by omega)).mono ?_
            rintro e wb1 ⟨gg, Ag, cg, rfl, vb, fb⟩
            rw [HXL.out]
            have VB := Lib.hid vb
            have FB := Lib.hid (FA.out.thenX fb)
            clear vb fb HA VA FA U9 HSM HXL HF
            go_wp2_with fail
            refine (x_new 10000 wb1 X fun k hk => Nat.lt_of_lt_of_le ((HX.out k).1 hk) FB.out.size).mono ?_
            rintro e wc1 ⟨dd, rfl, hc1, fc1⟩
            have HCD := Lib.hid hc1
            have VC := Lib.hid (VB.out.keep fc1)
            have FC := Lib.hid (FB.out.thenX fc1.any)
            clear hc1 fc1 VB FB
            have hnm : ∀ wx, Fr No wc1 wx → Calls Tryz.prog 28 #[.int .i64 1] wx fun e w' => e = .returned (sv (nm 1)) ∧ Fr No wc1 w' ∧ (convert 63 9 (.slice (some ⟨w'.heap.size, 0, none⟩) 1 1)).run Tryz.prog (w'.alloc (.cells #[.int .u8 (y.toNat : Int)] 5)) = .ok (.string ⟨#[y]⟩) (w'.alloc (.cells #[.int .u8 (y.toNat : Int)] 5)) ∧
                (Blk wx wc1.heap.size 5 #[.int .u8 (y.toNat : Int)] → (convert 63 9 (.slice (some ⟨wc1.heap.size, 0, none⟩) 1 1)).run Tryz.prog w' = .ok (.string ⟨#[y]⟩) w') := fun wx hf => by
              refine (y_name wx (VC.out.keep hf)).mono ?_
              rintro e w' ⟨he, h1⟩
              exact ⟨he, hf.no h1, conv1 _ y _ ((Blk.new w' 5 #[.int .u8 (y.toNat : Int)]).cell 0), fun hb => conv1 _ y _ ((hb.of (h1.block _ hb.lt id)).cell 0)⟩
            have hwr : ∀ wx, Fr No wc1 wx → Calls Tryz.prog 27 #[.pointer (some ⟨dd, 0, none⟩), sv (nm 1), sv F2] wx fun e w' => e = .returned (.int .i64 0) ∧ Hid (Dk w' X dd 1 (one0 F2).step ∧ Vr w' ∧ Fr (fun k => ¬ X k) w w') := fun wx hf => by
              refine (y_write (HCD.out.keep hf) F2 htl2).mono ?_
              rintro e w' ⟨he, h1, h2⟩
              exact ⟨he, Lib.hid ⟨h1, (VC.out.keep hf).x HLO.out h2, (FC.out.thenX hf.any).thenX h2⟩⟩
            have HNM := Lib.hid hnm
            have HWR := Lib.hid hwr
            clear hnm hwr
            have hcv : (convert 63 9 (.slice (some ⟨wc1.heap.size, 0, none⟩) 1 1)).run Tryz.prog (wc1.alloc (.cells #[.int .u8 (y.toNat : Int)] 5)).drew = .ok (.string ⟨#[y]⟩) (wc1.alloc (.cells #[.int .u8 (y.toNat : Int)] 5)).drew := conv1 wc1.heap.size y _ (by simp [byteV])
            go_upto_region 33 with fail
            go_cut [175] (fun bv wx => bv = .bool false ∧ ∃ w', w' = wx ∧ Dk w' X dd 1 (one0 F2).step ∧ Vr w' ∧ Fr (fun k => ¬ X k) w w')
            case first =>
              have hcat1 := HC1.out
              have hcat2 := HC2.out
              have hidx := HIX.out
              have hyy := HY.out
              have hp1 := HP1.out
              have hr1 := HR1.out
              have hjI : (P : Int) + 1 ≤ (F.length : Int) := by omega
              have hj1 : IntKind.i64.wrap ((P : Int) + 1) = (P : Int) + 1 := IntWalk.i64_in _ (by omega)
              have hj2 : (0 : Int) ≤ (P : Int) + 1 := by omega
              have hj3 : ((P : Int) + 1).toNat = P + 1 := by omega
              have hj4 : (P : Int) ≤ (F.length : Int) := by omega
              clear HC1 HC2 HIX HY HP1 HR1 HBAD HCD VC FC htl htl2 hx2 hpl hPl hmI hkd hql hg1 hg2 hjm hfl hle hm250 h0 hm0 hk q1 ha hby
              refine wp_region_held_drew (S := fun _ => True) (by kernel_rfl) trivial (fun hHeld => ?_)
              refine wpAnyH_take (i := 0) (oi := ({ dst := some 152, op := Go.Op.move (Go.Operand.tmp 22), type := 25, pos := "law.go:264", after := #[], guard := none } : Go.Oper)) (v := ?_) rfl (by kernel_rfl) (by kernel_rfl) (by kernel_rfl) (fun _ _ _ h => h) (Or.inl ⟨by rfl, ?_⟩) (by assumption) ?_
              rotate_left 1
              · intro w hSw; (try dsimp only at hSw); first | (go_simp; done) | (go_simp; with_reducible rfl)
              try simp only [Act.put, List.setIfInBounds_toArray, List.set_cons_zero, List.set_cons_succ]
              refine wpAnyH_take (i := 1) (oi := ({ dst := some 153, op := Go.Op.binOp Go.BinOp.eql 25 (Go.Operand.tmp 152) (Go.Operand.const (Go.Value.pointer none)) 25, type := 4, pos := "law.go:264", after := #[{ on := 0, ground := Go.Ground.data }], guard := none } : Go.Oper)) (v := ?_) rfl (by kernel_rfl) (by kernel_rfl) (by kernel_rfl) (fun _ _ _ h => h) (Or.inl ⟨by rfl, ?_⟩) (by assumption) ?_
              rotate_left 1
              · intro w hSw; (try dsimp only at hSw); first | (go_simp; done) | (go_simp; with_reducible rfl)
              try simp only [Act.put, List.setIfInBounds_toArray, List.set_cons_zero, List.set_cons_succ]
              refine wpAnyH_take (i := 2) (oi := ({ dst := some 154, op := Go.Op.move (Go.Operand.tmp 153), type := 4, pos := "law.go:264", after := #[{ on := 1, ground := Go.Ground.data }], guard := none } : Go.Oper)) (v := ?_) rfl (by kernel_rfl) (by kernel_rfl) (by kernel_rfl) (fun _ _ _ h => h) (Or.inl ⟨by rfl, ?_⟩) (by assumption) ?_
              rotate_left 1
              · intro w hSw; (try dsimp only at hSw); first | (go_simp; done) | (go_simp; with_reducible rfl)
              try simp only [Act.put, List.setIfInBounds_toArray, List.set_cons_zero, List.set_cons_succ]
              refine wpAnyH_take (i := 3) (oi := ({ dst := some 155, op := Go.Op.move (Go.Operand.tmp 22), type := 25, pos := "law.go:264", after := #[{ on := 2, ground := Go.Ground.guard }], guard := some (2, false) } : Go.Oper)) (v := ?_) rfl (by kernel_rfl) (by kernel_rfl) (by kernel_rfl) (fun _ _ _ h => h) (Or.inl ⟨by rfl, ?_⟩) (by assumption) ?_
              rotate_left 1
              · intro w hSw; (try dsimp only at hSw); first | (go_simp; done) | (go_simp; with_reducible rfl)
              try simp only [Act.put, List.setIfInBounds_toArray, List.set_cons_zero, List.set_cons_succ]
              refine wpAnyH_take (i := 5) (oi := ({ dst := some 157, op := Go.Op.move (Go.Operand.tmp 8), type := 9, pos := "law.go:264", after := #[{ on := 2, ground := Go.Ground.guard }], guard := some (2, false) } : Go.Oper)) (v := ?_) rfl (by kernel_rfl) (by kernel_rfl) (by kernel_rfl) (fun _ _ _ h => h) (Or.inl ⟨by rfl, ?_⟩) (by assumption) ?_
              rotate_left 1
              · intro w hSw; (try dsimp only at hSw); first | (go_simp; done) | (go_simp; with_reducible rfl)
              try simp only [Act.put, List.setIfInBounds_toArray, List.set_cons_zero, List.set_cons_succ]
              refine wpAnyH_take (i := 6) (oi := ({ dst := some 158, op := Go.Op.move (Go.Operand.tmp 16), type := 3, pos := "law.go:264", after := #[{ on := 2, ground := Go.Ground.guard }], guard := some (2, false) } : Go.Oper)) (v := ?_) rfl (by kernel_rfl) (by kernel_rfl) (by kernel_rfl) (fun _ _ _ h => h) (Or.inl ⟨by rfl, ?_⟩) (by assumption) ?_
              rotate_left 1
              · intro w hSw; (try dsimp only at hSw); first | (go_simp; done) | (go_simp; with_reducible rfl)
              try simp only [Act.put, List.setIfInBounds_toArray, List.set_cons_zero, List.set_cons_succ]
              refine wpAnyH_take (i := 7) (oi := ({ dst := some 159, op := Go.Op.slice 9 (Go.Operand.tmp 157) none (some (Go.Operand.tmp 158)) none, type := 9, pos := "law.go:264", after := #[{ on := 5, ground := Go.Ground.data }, { on := 6, ground := Go.Ground.data }, { on := 2, ground := Go.Ground.guard }], guard := some (2, false) } : Go.Oper)) (v := ?_) rfl (by kernel_rfl) (by kernel_rfl) (by kernel_rfl) (fun _ _ _ h => h) (Or.inl ⟨by rfl, ?_⟩) (by assumption) ?_
              rotate_left 1
              · intro w hSw; (try dsimp only at hSw); first | (go_simp; done) | (go_simp; with_reducible rfl)
              try simp only [Act.put, List.setIfInBounds_toArray, List.set_cons_zero, List.set_cons_succ]
              refine wpAnyH_take (i := 8) (oi := ({ dst := some 160, op := Go.Op.move (Go.Operand.tmp 8), type := 9, pos := "law.go:264", after := #[{ on := 2, ground := Go.Ground.guard }], guard := some (2, false) } : Go.Oper)) (v := ?_) rfl (by kernel_rfl) (by kernel_rfl) (by kernel_rfl) (fun _ _ _ h => h) (Or.inl ⟨by rfl, ?_⟩) (by assumption) ?_
              rotate_left 1
              · intro w hSw; (try dsimp only at hSw); first | (go_simp; done) | (go_simp; with_reducible rfl)
              try simp only [Act.put, List.setIfInBounds_toArray, List.set_cons_zero, List.set_cons_succ]
              refine wpAnyH_take (i := 9) (oi := ({ dst := some 161, op := Go.Op.move (Go.Operand.tmp 16), type := 3, pos := "law.go:264", after := #[{ on := 2, ground := Go.Ground.guard }], guard := some (2, false) } : Go.Oper)) (v := ?_) rfl (by kernel_rfl) (by kernel_rfl) (by kernel_rfl) (fun _ _ _ h => h) (Or.inl ⟨by rfl, ?_⟩) (by assumption) ?_
              rotate_left 1
              · intro w hSw; (try dsimp only at hSw); first | (go_simp; done) | (go_simp; with_reducible rfl)
              try simp only [Act.put, List.setIfInBounds_toArray, List.set_cons_zero, List.set_cons_succ]
              refine wpAnyH_take (i := 10) (oi := ({ dst := some 162, op := Go.Op.index 9 (Go.Operand.tmp 160) (Go.Operand.tmp 161), type := 5, pos := "law.go:264", after := #[{ on := 8, ground := Go.Ground.data }, { on := 9, ground := Go.Ground.data }, { on := 2, ground := Go.Ground.guard }], guard := some (2, false) } : Go.Oper)) (v := ?_) rfl (by kernel_rfl) (by kernel_rfl) (by kernel_rfl) (fun _ _ _ h => h) (Or.inl ⟨by rfl, ?_⟩) (by assumption) ?_
              rotate_left 1
              · intro w hSw; (try dsimp only at hSw); first | (go_simp; done) | (go_simp; with_reducible rfl)
              try simp only [Act.put, List.setIfInBounds_toArray, List.set_cons_zero, List.set_cons_succ]
              refine wpAnyH_take (i := 11) (oi := ({ dst := some 163, op := Go.Op.move (Go.Operand.tmp 17), type := 5, pos := "law.go:264", after := #[{ on := 2, ground := Go.Ground.guard }], guard := some (2, false) } : Go.Oper)) (v := ?_) rfl (by kernel_rfl) (by kernel_rfl) (by kernel_rfl) (fun _ _ _ h => h) (Or.inl ⟨by rfl, ?_⟩) (by assumption) ?_
              rotate_left 1
              · intro w hSw; (try dsimp only at hSw); first | (go_simp; done) | (go_simp; with_reducible rfl)
              try simp only [Act.put, List.setIfInBounds_toArray, List.set_cons_zero, List.set_cons_succ]
              refine wpAnyH_take (i := 12) (oi := ({ dst := some 164, op := Go.Op.binOp Go.BinOp.xor 5 (Go.Operand.tmp 162) (Go.Operand.tmp 163) 5, type := 5, pos := "law.go:264", after := #[{ on := 10, ground := Go.Ground.data }, { on := 11, ground := Go.Ground.data }, { on := 2, ground := Go.Ground.guard }], guard := some (2, false) } : Go.Oper)) (v := ?_) rfl (by kernel_rfl) (by kernel_rfl) (by kernel_rfl) (fun _ _ _ h => h) (Or.inl ⟨by rfl, ?_⟩) (by assumption) ?_
              rotate_left 1
              · intro w hSw; (try dsimp only at hSw); first | (go_simp; done) | (go_simp; with_reducible rfl)
              try simp only [Act.put, List.setIfInBounds_toArray, List.set_cons_zero, List.set_cons_succ]
              refine wpAnyH_take (i := 16) (oi := ({ dst := some 168, op := Go.Op.move (Go.Operand.tmp 8), type := 9, pos := "law.go:264", after := #[{ on := 2, ground := Go.Ground.guard }], guard := some (2, false) } : Go.Oper)) (v := ?_) rfl (by kernel_rfl) (by kernel_rfl) (by kernel_rfl) (fun _ _ _ h => h) (Or.inl ⟨by rfl, ?_⟩) (by assumption) ?_
              rotate_left 1
              · intro w hSw; (try dsimp only at hSw); first | (go_simp; done) | (go_simp; with_reducible rfl)
              try simp only [Act.put, List.setIfInBounds_toArray, List.set_cons_zero, List.set_cons_succ]
              refine wpAnyH_take (i := 17) (oi := ({ dst := some 169, op := Go.Op.move (Go.Operand.tmp 16), type := 3, pos := "law.go:264", after := #[{ on := 2, ground := Go.Ground.guard }], guard := some (2, false) } : Go.Oper)) (v := ?_) rfl (by kernel_rfl) (by kernel_rfl) (by kernel_rfl) (fun _ _ _ h => h) (Or.inl ⟨by rfl, ?_⟩) (by assumption) ?_
              rotate_left 1
              · intro w hSw; (try dsimp only at hSw); first | (go_simp; done) | (go_simp; with_reducible rfl)
              try simp only [Act.put, List.setIfInBounds_toArray, List.set_cons_zero, List.set_cons_succ]
              refine wpAnyH_take (i := 18) (oi := ({ dst := some 170, op := Go.Op.binOp Go.BinOp.add 3 (Go.Operand.tmp 169) (Go.Operand.const (Go.Value.int Go.IntKind.i64 1)) 3, type := 3, pos := "law.go:264", after := #[{ on := 17, ground := Go.Ground.data }, { on := 2, ground := Go.Ground.guard }], guard := some (2, false) } : Go.Oper)) (v := ?_) rfl (by kernel_rfl) (by kernel_rfl) (by kernel_rfl) (fun _ _ _ h => h) (Or.inl ⟨by rfl, ?_⟩) (by assumption) ?_
              rotate_left 1
              · intro w hSw; (try dsimp only at hSw); first | (go_simp; done) | (go_simp; with_reducible rfl)
              try simp only [Act.put, List.setIfInBounds_toArray, List.set_cons_zero, List.set_cons_succ]
              refine wpAnyH_take (i := 19) (oi := ({ dst := some 171, op := Go.Op.slice 9 (Go.Operand.tmp 168) (some (Go.Operand.tmp 170)) none none, type := 9, pos := "law.go:264", after := #[{ on := 16, ground := Go.Ground.data }, { on := 18, ground := Go.Ground.data }, { on := 2, ground := Go.Ground.guard }], guard := some (2, false) } : Go.Oper)) (v := ?_) rfl (by kernel_rfl) (by kernel_rfl) (by kernel_rfl) (fun _ _ _ h => h) (Or.inl ⟨by rfl, ?_⟩) (by assumption) ?_
              rotate_left 1
              · intro w hSw; (try dsimp only at hSw); first | (go_simp; done) | (go_simp; with_reducible rfl)
              try simp only [Act.put, List.setIfInBounds_toArray, List.set_cons_zero, List.set_cons_succ]
              refine wpAnyH_ready (rs := [4, 13]) (by kernel_rfl) (by simp) ?_
              refine AllReadyH.cons (o := ({ dst := some 156, op := Go.Op.call { callee := Go.Callee.value (Go.Operand.func 28), args := #[Go.Operand.const (Go.Value.int Go.IntKind.i64 1)], argTypes := #[3] }, type := 9, pos := "law.go:264", after := #[{ on := 2, ground := Go.Ground.chain }, { on := 2, ground := Go.Ground.guard }], guard := some (2, false) } : Go.Oper)) rfl (fun K hK => ?_) ?_
              · go_simp
                (go_at_call 28; (with_reducible refine (HNM.out _ (Fr.refl No wc1).drew).mono ?_); rintro e w5 ⟨rfl, f5, hcb, -⟩; have HF5 := Lib.hid f5; clear f5)
                try (go_wp2_with fail)
                refine hK.out _ _ trivial (fun hHeld1 => ?_)
                clear hK K
                try simp only [Act.put, List.setIfInBounds_toArray, List.set_cons_zero, List.set_cons_succ]
                refine wpAnyH_ready (rs := [13]) (by kernel_rfl) (by simp) ?_
                refine AllReadyH.cons (o := ({ dst := some 165, op := Go.Op.buildSlice 63 1 #[(0, Go.Operand.tmp 164)], type := 63, pos := "law.go:264", after := #[{ on := 12, ground := Go.Ground.data }, { on := 2, ground := Go.Ground.guard }], guard := some (2, false) } : Go.Oper)) rfl (fun K hK => ?_) AllReadyH.nil
                go_simp
                refine hK.out _ _ trivial (fun hHeld2 => ?_)
                clear hK K
                try simp only [Act.put, List.setIfInBounds_toArray, List.set_cons_zero, List.set_cons_succ]
                refine wpAnyH_ready (rs := [14]) (by kernel_rfl) (by simp) ?_
                refine AllReadyH.cons (o := ({ dst := some 166, op := Go.Op.convert 63 9 (Go.Operand.tmp 165), type := 9, pos := "law.go:264", after := #[{ on := 13, ground := Go.Ground.data }, { on := 2, ground := Go.Ground.guard }], guard := some (2, false) } : Go.Oper)) rfl (fun K hK => ?_) AllReadyH.nil
                go_simp
                refine hK.out _ _ trivial (fun hHeld3 => ?_)
                clear hK K
                try simp only [Act.put, List.setIfInBounds_toArray, List.set_cons_zero, List.set_cons_succ]
                refine wpAnyH_take (i := 15) (oi := ({ dst := some 167, op := Go.Op.binOp Go.BinOp.add 9 (Go.Operand.tmp 159) (Go.Operand.tmp 166) 9, type := 9, pos := "law.go:264", after := #[{ on := 7, ground := Go.Ground.data }, { on := 14, ground := Go.Ground.data }, { on := 2, ground := Go.Ground.guard }], guard := some (2, false) } : Go.Oper)) (v := ?_) rfl (by kernel_rfl) (by kernel_rfl) (by kernel_rfl) (fun _ _ _ h => h) (Or.inl ⟨by rfl, ?_⟩) (by assumption) ?_
                rotate_left 1
                · intro w hSw; (try dsimp only at hSw); first | (go_simp; done) | (go_simp; with_reducible rfl)
                try simp only [Act.put, List.setIfInBounds_toArray, List.set_cons_zero, List.set_cons_succ]
                refine wpAnyH_take (i := 20) (oi := ({ dst := some 172, op := Go.Op.binOp Go.BinOp.add 9 (Go.Operand.tmp 167) (Go.Operand.tmp 171) 9, type := 9, pos := "law.go:264", after := #[{ on := 15, ground := Go.Ground.data }, { on := 19, ground := Go.Ground.data }, { on := 2, ground := Go.Ground.guard }], guard := some (2, false) } : Go.Oper)) (v := ?_) rfl (by kernel_rfl) (by kernel_rfl) (by kernel_rfl) (fun _ _ _ h => h) (Or.inl ⟨by rfl, ?_⟩) (by assumption) ?_
                rotate_left 1
                · intro w hSw; (try dsimp only at hSw); first | (go_simp; done) | (go_simp; with_reducible rfl)
                try simp only [Act.put, List.setIfInBounds_toArray, List.set_cons_zero, List.set_cons_succ]
                refine wpAnyH_ready (rs := [21]) (by kernel_rfl) (by simp) ?_
                refine AllReadyH.cons (o := ({ dst := some 173, op := Go.Op.call { callee := Go.Callee.value (Go.Operand.func 27), args := #[Go.Operand.tmp 155, Go.Operand.tmp 156, Go.Operand.tmp 172], argTypes := #[25, 9, 9] }, type := 39, pos := "law.go:264", after := #[{ on := 3, ground := Go.Ground.data }, { on := 4, ground := Go.Ground.data }, { on := 20, ground := Go.Ground.data }, { on := 4, ground := Go.Ground.chain }, { on := 2, ground := Go.Ground.guard }], guard := some (2, false) } : Go.Oper)) rfl (fun K hK => ?_) AllReadyH.nil
                go_simp
                (first | (go_at_call 27; (with_reducible refine (HWR.out _ HF5.out).mono ?_); rintro e w6 ⟨rfl, HK⟩) | (go_at_call 27; (with_reducible refine (HWR.out _ (HF5.out.alloc _)).mono ?_); rintro e w6 ⟨rfl, HK⟩))
                try (go_wp2_with fail)
                refine hK.out _ _ trivial (fun hHeld4 => ?_)
                clear hK K
                try simp only [Act.put, List.setIfInBounds_toArray, List.set_cons_zero, List.set_cons_succ]
                refine wpAnyH_take (i := 22) (oi := ({ dst := some 174, op := Go.Op.binOp Go.BinOp.neq 39 (Go.Operand.tmp 173) (Go.Operand.const (Go.Value.int Go.IntKind.i64 0)) 39, type := 4, pos := "law.go:264", after := #[{ on := 21, ground := Go.Ground.data }, { on := 2, ground := Go.Ground.guard }], guard := some (2, false) } : Go.Oper)) (v := ?_) rfl (by kernel_rfl) (by kernel_rfl) (by kernel_rfl) (fun _ _ _ h => h) (Or.inl ⟨by rfl, ?_⟩) (by assumption) ?_
                rotate_left 1
                · intro w hSw; (try dsimp only at hSw); first | (go_simp; done) | (go_simp; with_reducible rfl)
                try simp only [Act.put, List.setIfInBounds_toArray, List.set_cons_zero, List.set_cons_succ]
                refine wpAnyH_take (i := 23) (oi := ({ dst := some 175, op := Go.Op.pick (Go.Operand.tmp 154) (Go.Operand.const (Go.Value.bool true)) (Go.Operand.tmp 174), type := 4, pos := "law.go:264", after := #[{ on := 2, ground := Go.Ground.data }, { on := 22, ground := Go.Ground.data }], guard := none } : Go.Oper)) (v := ?_) rfl (by kernel_rfl) (by kernel_rfl) (by kernel_rfl) (fun _ _ _ h => h) (Or.inl ⟨by rfl, ?_⟩) (by assumption) ?_
                rotate_left 1
                · intro w hSw; (try dsimp only at hSw); first | (go_simp; done) | (go_simp; with_reducible rfl)
                try simp only [Act.put, List.setIfInBounds_toArray, List.set_cons_zero, List.set_cons_succ]
                refine wpAnyH_done (by kernel_rfl) ?_ _
                go_wp2_with fail
                go_meet
                exact ⟨rfl, _, rfl, HK.out⟩
              · refine AllReadyH.cons (o := ({ dst := some 165, op := Go.Op.buildSlice 63 1 #[(0, Go.Operand.tmp 164)], type := 63, pos := "law.go:264", after := #[{ on := 12, ground := Go.Ground.data }, { on := 2, ground := Go.Ground.guard }], guard := some (2, false) } : Go.Oper)) rfl (fun K hK => ?_) AllReadyH.nil
                go_simp
                refine hK.out _ _ trivial (fun hHeld5 => ?_)
                clear hK K
                try simp only [Act.put, List.setIfInBounds_toArray, List.set_cons_zero, List.set_cons_succ]
                refine wpAnyH_ready (rs := [4, 14]) (by kernel_rfl) (by simp) ?_
                refine AllReadyH.cons (o := ({ dst := some 156, op := Go.Op.call { callee := Go.Callee.value (Go.Operand.func 28), args := #[Go.Operand.const (Go.Value.int Go.IntKind.i64 1)], argTypes := #[3] }, type := 9, pos := "law.go:264", after := #[{ on := 2, ground := Go.Ground.chain }, { on := 2, ground := Go.Ground.guard }], guard := some (2, false) } : Go.Oper)) rfl (fun K hK => ?_) ?_
                · go_simp
                  (go_at_call 28; (with_reducible refine (HNM.out _ ((Fr.refl No wc1).alloc _).drew).mono ?_); rintro e w5 ⟨rfl, f5, -, k2⟩; have hcc := k2 (Blk.new wc1 5 _); have HF5 := Lib.hid f5; clear f5 k2)
                  try (go_wp2_with fail)
                  refine hK.out _ _ trivial (fun hHeld6 => ?_)
                  clear hK K
                  try simp only [Act.put, List.setIfInBounds_toArray, List.set_cons_zero, List.set_cons_succ]
                  refine wpAnyH_ready (rs := [14]) (by kernel_rfl) (by simp) ?_
                  refine AllReadyH.cons (o := ({ dst := some 166, op := Go.Op.convert 63 9 (Go.Operand.tmp 165), type := 9, pos := "law.go:264", after := #[{ on := 13, ground := Go.Ground.data }, { on := 2, ground := Go.Ground.guard }], guard := some (2, false) } : Go.Oper)) rfl (fun K hK => ?_) AllReadyH.nil
                  go_simp
                  refine hK.out _ _ trivial (fun hHeld7 => ?_)
                  clear hK K
                  try simp only [Act.put, List.setIfInBounds_toArray, List.set_cons_zero, List.set_cons_succ]
                  refine wpAnyH_take (i := 15) (oi := ({ dst := some 167, op := Go.Op.binOp Go.BinOp.add 9 (Go.Operand.tmp 159) (Go.Operand.tmp 166) 9, type := 9, pos := "law.go:264", after := #[{ on := 7, ground := Go.Ground.data }, { on := 14, ground := Go.Ground.data }, { on := 2, ground := Go.Ground.guard }], guard := some (2, false) } : Go.Oper)) (v := ?_) rfl (by kernel_rfl) (by kernel_rfl) (by kernel_rfl) (fun _ _ _ h => h) (Or.inl ⟨by rfl, ?_⟩) (by assumption) ?_
                  rotate_left 1
                  · intro w hSw; (try dsimp only at hSw); first | (go_simp; done) | (go_simp; with_reducible rfl)
                  try simp only [Act.put, List.setIfInBounds_toArray, List.set_cons_zero, List.set_cons_succ]
                  refine wpAnyH_take (i := 20) (oi := ({ dst := some 172, op := Go.Op.binOp Go.BinOp.add 9 (Go.Operand.tmp 167) (Go.Operand.tmp 171) 9, type := 9, pos := "law.go:264", after := #[{ on := 15, ground := Go.Ground.data }, { on := 19, ground := Go.Ground.data }, { on := 2, ground := Go.Ground.guard }], guard := some (2, false) } : Go.Oper)) (v := ?_) rfl (by kernel_rfl) (by kernel_rfl) (by kernel_rfl) (fun _ _ _ h => h) (Or.inl ⟨by rfl, ?_⟩) (by assumption) ?_
                  rotate_left 1
                  · intro w hSw; (try dsimp only at hSw); first | (go_simp; done) | (go_simp; with_reducible rfl)
                  try simp only [Act.put, List.setIfInBounds_toArray, List.set_cons_zero, List.set_cons_succ]
                  refine wpAnyH_ready (rs := [21]) (by kernel_rfl) (by simp) ?_
                  refine AllReadyH.cons (o := ({ dst := some 173, op := Go.Op.call { callee := Go.Callee.value (Go.Operand.func 27), args := #[Go.Operand.tmp 155, Go.Operand.tmp 156, Go.Operand.tmp 172], argTypes := #[25, 9, 9] }, type := 39, pos := "law.go:264", after := #[{ on := 3, ground := Go.Ground.data }, { on := 4, ground := Go.Ground.data }, { on := 20, ground := Go.Ground.data }, { on := 4, ground := Go.Ground.chain }, { on := 2, ground := Go.Ground.guard }], guard := some (2, false) } : Go.Oper)) rfl (fun K hK => ?_) AllReadyH.nil
                  go_simp
                  (first | (go_at_call 27; (with_reducible refine (HWR.out _ HF5.out).mono ?_); rintro e w6 ⟨rfl, HK⟩) | (go_at_call 27; (with_reducible refine (HWR.out _ (HF5.out.alloc _)).mono ?_); rintro e w6 ⟨rfl, HK⟩))
                  try (go_wp2_with fail)
                  refine hK.out _ _ trivial (fun hHeld8 => ?_)
                  clear hK K
                  try simp only [Act.put, List.setIfInBounds_toArray, List.set_cons_zero, List.set_cons_succ]
                  refine wpAnyH_take (i := 22) (oi := ({ dst := some 174, op := Go.Op.binOp Go.BinOp.neq 39 (Go.Operand.tmp 173) (Go.Operand.const (Go.Value.int Go.IntKind.i64 0)) 39, type := 4, pos := "law.go:264", after := #[{ on := 21, ground := Go.Ground.data }, { on := 2, ground := Go.Ground.guard }], guard := some (2, false) } : Go.Oper)) (v := ?_) rfl (by kernel_rfl) (by kernel_rfl) (by kernel_rfl) (fun _ _ _ h => h) (Or.inl ⟨by rfl, ?_⟩) (by assumption) ?_
                  rotate_left 1
                  · intro w hSw; (try dsimp only at hSw); first | (go_simp; done) | (go_simp; with_reducible rfl)
                  try simp only [Act.put, List.setIfInBounds_toArray, List.set_cons_zero, List.set_cons_succ]
                  refine wpAnyH_take (i := 23) (oi := ({ dst := some 175, op := Go.Op.pick (Go.Operand.tmp 154) (Go.Operand.const (Go.Value.bool true)) (Go.Operand.tmp 174), type := 4, pos := "law.go:264", after := #[{ on := 2, ground := Go.Ground.data }, { on := 22, ground := Go.Ground.data }], guard := none } : Go.Oper)) (v := ?_) rfl (by kernel_rfl) (by kernel_rfl) (by kernel_rfl) (fun _ _ _ h => h) (Or.inl ⟨by rfl, ?_⟩) (by assumption) ?_
                  rotate_left 1
                  · intro w hSw; (try dsimp only at hSw); first | (go_simp; done) | (go_simp; with_reducible rfl)
                  try simp only [Act.put, List.setIfInBounds_toArray, List.set_cons_zero, List.set_cons_succ]
                  refine wpAnyH_done (by kernel_rfl) ?_ _
                  go_wp2_with fail
                  go_meet
                  exact ⟨rfl, _, rfl, HK.out⟩
                · refine AllReadyH.cons (o := ({ dst := some 166, op := Go.Op.convert 63 9 (Go.Operand.tmp 165), type := 9, pos := "law.go:264", after := #[{ on := 13, ground := Go.Ground.data }, { on := 2, ground := Go.Ground.guard }], guard := some (2, false) } : Go.Oper)) rfl (fun K hK => ?_) AllReadyH.nil
                  go_simp
                  refine hK.out _ _ trivial (fun hHeld9 => ?_)
                  clear hK K
                  try simp only [Act.put, List.setIfInBounds_toArray, List.set_cons_zero, List.set_cons_succ]
                  refine wpAnyH_take (i := 15) (oi := ({ dst := some 167, op := Go.Op.binOp Go.BinOp.add 9 (Go.Operand.tmp 159) (Go.Operand.tmp 166) 9, type := 9, pos := "law.go:264", after := #[{ on := 7, ground := Go.Ground.data }, { on := 14, ground := Go.Ground.data }, { on := 2, ground := Go.Ground.guard }], guard := some (2, false) } : Go.Oper)) (v := ?_) rfl (by kernel_rfl) (by kernel_rfl) (by kernel_rfl) (fun _ _ _ h => h) (Or.inl ⟨by rfl, ?_⟩) (by assumption) ?_
                  rotate_left 1
                  · intro w hSw; (try dsimp only at hSw); first | (go_simp; done) | (go_simp; with_reducible rfl)
                  try simp only [Act.put, List.setIfInBounds_toArray, List.set_cons_zero, List.set_cons_succ]
                  refine wpAnyH_take (i := 20) (oi := ({ dst := some 172, op := Go.Op.binOp Go.BinOp.add 9 (Go.Operand.tmp 167) (Go.Operand.tmp 171) 9, type := 9, pos := "law.go:264", after := #[{ on := 15, ground := Go.Ground.data }, { on := 19, ground := Go.Ground.data }, { on := 2, ground := Go.Ground.guard }], guard := some (2, false) } : Go.Oper)) (v := ?_) rfl (by kernel_rfl) (by kernel_rfl) (by kernel_rfl) (fun _ _ _ h => h) (Or.inl ⟨by rfl, ?_⟩) (by assumption) ?_
                  rotate_left 1
                  · intro w hSw; (try dsimp only at hSw); first | (go_simp; done) | (go_simp; with_reducible rfl)
                  try simp only [Act.put, List.setIfInBounds_toArray, List.set_cons_zero, List.set_cons_succ]
                  refine wpAnyH_ready (rs := [4]) (by kernel_rfl) (by simp) ?_
                  refine AllReadyH.cons (o := ({ dst := some 156, op := Go.Op.call { callee := Go.Callee.value (Go.Operand.func 28), args := #[Go.Operand.const (Go.Value.int Go.IntKind.i64 1)], argTypes := #[3] }, type := 9, pos := "law.go:264", after := #[{ on := 2, ground := Go.Ground.chain }, { on := 2, ground := Go.Ground.guard }], guard := some (2, false) } : Go.Oper)) rfl (fun K hK => ?_) AllReadyH.nil
                  go_simp
                  (go_at_call 28; (with_reducible refine (HNM.out _ ((Fr.refl No wc1).alloc _).drew).mono ?_); rintro e w5 ⟨rfl, f5, -, k2⟩; have hcc := k2 (Blk.new wc1 5 _); have HF5 := Lib.hid f5; clear f5 k2)
                  try (go_wp2_with fail)
                  refine hK.out _ _ trivial (fun hHeld10 => ?_)
                  clear hK K
                  try simp only [Act.put, List.setIfInBounds_toArray, List.set_cons_zero, List.set_cons_succ]
                  refine wpAnyH_ready (rs := [21]) (by kernel_rfl) (by simp) ?_
                  refine AllReadyH.cons (o := ({ dst := some 173, op := Go.Op.call { callee := Go.Callee.value (Go.Operand.func 27), args := #[Go.Operand.tmp 155, Go.Operand.tmp 156, Go.Operand.tmp 172], argTypes := #[25, 9, 9] }, type := 39, pos := "law.go:264", after := #[{ on := 3, ground := Go.Ground.data }, { on := 4, ground := Go.Ground.data }, { on := 20, ground := Go.Ground.data }, { on := 4, ground := Go.Ground.chain }, { on := 2, ground := Go.Ground.guard }], guard := some (2, false) } : Go.Oper)) rfl (fun K hK => ?_) AllReadyH.nil
                  go_simp
                  (first | (go_at_call 27; (with_reducible refine (HWR.out _ HF5.out).mono ?_); rintro e w6 ⟨rfl, HK⟩) | (go_at_call 27; (with_reducible refine (HWR.out _ (HF5.out.alloc _)).mono ?_); rintro e w6 ⟨rfl, HK⟩))
                  try (go_wp2_with fail)
                  refine hK.out _ _ trivial (fun hHeld11 => ?_)
                  clear hK K
                  try simp only [Act.put, List.setIfInBounds_toArray, List.set_cons_zero, List.set_cons_succ]
                  refine wpAnyH_take (i := 22) (oi := ({ dst := some 174, op := Go.Op.binOp Go.BinOp.neq 39 (Go.Operand.tmp 173) (Go.Operand.const (Go.Value.int Go.IntKind.i64 0)) 39, type := 4, pos := "law.go:264", after := #[{ on := 21, ground := Go.Ground.data }, { on := 2, ground := Go.Ground.guard }], guard := some (2, false) } : Go.Oper)) (v := ?_) rfl (by kernel_rfl) (by kernel_rfl) (by kernel_rfl) (fun _ _ _ h => h) (Or.inl ⟨by rfl, ?_⟩) (by assumption) ?_
                  rotate_left 1
                  · intro w hSw; (try dsimp only at hSw); first | (go_simp; done) | (go_simp; with_reducible rfl)
                  try simp only [Act.put, List.setIfInBounds_toArray, List.set_cons_zero, List.set_cons_succ]
                  refine wpAnyH_take (i := 23) (oi := ({ dst := some 175, op := Go.Op.pick (Go.Operand.tmp 154) (Go.Operand.const (Go.Value.bool true)) (Go.Operand.tmp 174), type := 4, pos := "law.go:264", after := #[{ on := 2, ground := Go.Ground.data }, { on := 22, ground := Go.Ground.data }], guard := none } : Go.Oper)) (v := ?_) rfl (by kernel_rfl) (by kernel_rfl) (by kernel_rfl) (fun _ _ _ h => h) (Or.inl ⟨by rfl, ?_⟩) (by assumption) ?_
                  rotate_left 1
                  · intro w hSw; (try dsimp only at hSw); first | (go_simp; done) | (go_simp; with_reducible rfl)
                  try simp only [Act.put, List.setIfInBounds_toArray, List.set_cons_zero, List.set_cons_succ]
                  refine wpAnyH_done (by kernel_rfl) ?_ _
                  go_wp2_with fail
                  go_meet
                  exact ⟨rfl, _, rfl, HK.out⟩
            case rest =>
              obtain ⟨rfl, we, ew, hd, hve, hfe⟩ := hcut
              subst ew
              have HO := Lib.hid (y_refused hd (one_1 F2) HBAD.out hve HLO.out (by omega))
              have HFE := Lib.hid hfe
              clear hd hve hfe hcv HNM HWR
              go_wp2_with fail
              refine HO.out.mono ?_
              rintro e wf ⟨rfl, ff⟩
              have HFF := Lib.hid (HFE.out.thenX ff)
              clear ff HO HFE
              go_wp2
              go_ret
              exact ⟨rfl, HFF.out.below_of (Nat.le_refl _) fun k hk => Nat.le_of_not_lt fun h => hk ((HX.out k).2 h)⟩
end Go.Proofs.YtccjkolcmdhliaaGreatDoor
