/- FactsFull, walked. -/
import Derived.Test.YtmaeejojmbibnaaP6
import Derived.Test.YtmaeejojmbibnaaRK
namespace Go.Proofs.Ytmaeejojmbibnaa
open Go.RowKit Go.Maps
set_option linter.unusedVariables false

def CutQ (n : Nat) (w : World) (e : Ending) (w' : World) : Prop := ∃ k : Nat, k ≤ n ∧ e = .returned (.int .i64 k) ∧ w = w'
theorem cut_any (c : Int) (hc : i64 c) (n : Nat) (hn : n ≤ 100000) (w : World) : Calls Try.prog 24 #[.int .i64 c, .int .i64 n] w (CutQ n w) := by
  unfold i64 at hc
  obtain ⟨c1, c2⟩ := hc
  have HE : Hid (∀ k : Nat, k ≤ n → CutQ n w (.returned (.int .i64 k)) w) := Lib.hid fun k hk => ⟨k, hk, rfl, rfl⟩
  by_cases h0 : c < 0
  · obtain ⟨m, hm⟩ : ∃ m : Nat, -(c + 1) = (m : Int) := ⟨(-(c + 1)).toNat, by omega⟩
    obtain ⟨k, hk⟩ : ∃ k : Nat, m % (n + 1) = k := ⟨_, rfl⟩
    have hkn : k ≤ n := by have := Nat.mod_lt m (show 0 < n + 1 by omega); omega
    have hmod : (m : Int) % ((n : Int) + 1) = (k : Int) := by rw [← hk]; simp
    have hr := HE.out k hkn
    have HR := Lib.hid hr
    have hmb : (m : Int) ≤ 9223372036854775807 := by omega
    clear hr HE hkn hk
    go_enter Try.func24, Try.ntmps24
    go_wp2
    go_ret
    show CutQ n w (.returned (.int .i64 ((m : Int) % ((n : Int) + 1)))) w
    rw [hmod]
    exact HR.out
  · obtain ⟨m, hm⟩ : ∃ m : Nat, c = (m : Int) := ⟨c.toNat, by omega⟩
    subst hm
    obtain ⟨k, hk⟩ : ∃ k : Nat, m % (n + 1) = k := ⟨_, rfl⟩
    have hkn : k ≤ n := by have := Nat.mod_lt m (show 0 < n + 1 by omega); omega
    have hmod : (m : Int) % ((n : Int) + 1) = (k : Int) := by rw [← hk]; simp
    have hr := HE.out k hkn
    have HR := Lib.hid hr
    clear hr HE hkn hk h0
    go_enter Try.func24, Try.ntmps24
    go_wp2
    go_ret
    show CutQ n w (.returned (.int .i64 ((m : Int) % ((n : Int) + 1)))) w
    rw [hmod]
    exact HR.out
theorem len_bytes (a : ByteArray) : a.data.toList.length = a.size := Array.length_toList
theorem conv2 (w : World) (g i k : Nat) (hi : i < 64) (hk : k < 64) (h : Blk w g 5 #[.int .u8 (i : Int), .int .u8 (k : Int)]) : (convert 47 9 (.slice (some ⟨g, 0, none⟩) 2 2)).run Try.prog w = .ok (.string ⟨(suf i k).toArray⟩) w := by
  have h2 := run_convert_bytes_arg (P := Try.prog) w 47 5 Try.underlying47 Try.underlying5 g 0 2 2 [(i : Int), (k : Int)] rfl (fun j hj => by
    rcases j with _ | _ | j
    · exact h.cell 0
    · exact h.cell 1
    · omega) 9 Try.underlying9
  refine h2.trans ?_
  have e3 : strOfNums [(i : Int), (k : Int)] = ⟨(suf i k).toArray⟩ := by
    simp only [strOfNums, suf, List.map_cons, List.map_nil, Int.toNat_natCast]
  rw [e3]
theorem cat2 (a b : List UInt8) (h : a.length + b.length ≤ 1000) : ∀ w0, (Op.stringOp .add ⟨a.toArray⟩ ⟨b.toArray⟩).run Try.prog w0 = .ok (.string ⟨(a ++ b).toArray⟩) w0 := fun w0 => by
  rw [run_string_add_sum w0 _ _ (by simp [ByteArray.size]; omega), ByteArray.mk_append_mk]
/-- A fact in new blocks: texts, numbers, and the row's own cells. -/
theorem fact_blocks (h0 : Nat) (wa wd : World) (gb : Nat) (ts : List Tx) (ms : List Int) (hwd : ((wa.alloc (.cells (ts.map encT).toArray 9)).alloc (.cells (ms.map (Value.int .i64)).toArray 2)).alloc (.cells #[.slice (some ⟨gb, 0, none⟩) ts.length ts.length, .slice (some ⟨gb + 1, 0, none⟩) ms.length ms.length] 51) = wd)
    (hgb : wa.heap.size = gb) (hh : h0 ≤ gb) (ht : ∀ t ∈ ts, t.length ≤ maxLen) (hm : ∀ n ∈ ms, i64 n) (l1 : ts.length ≤ 1000) (l2 : ms.length ≤ 1000) :
    Fr No wa wd ∧ Blk wd (gb + 1 + 1) 51 #[.slice (some ⟨gb, 0, none⟩) ts.length ts.length, .slice (some ⟨gb + 1, 0, none⟩) ms.length ms.length] ∧ RowE (LK h0 wd) wd 1 strE (.slice (some ⟨gb, 0, none⟩) ts.length ts.length) ts ∧ RowE (LK h0 wd) wd 1 intE (.slice (some ⟨gb + 1, 0, none⟩) ms.length ms.length) ms ∧ wd.heap.size = gb + 1 + 1 + 1 := by
  obtain ⟨b1, b2, b3, f⟩ := blks3 wa (ts.map encT).toArray (ms.map (Value.int .i64)).toArray #[.slice (some ⟨gb, 0, none⟩) ts.length ts.length, .slice (some ⟨gb + 1, 0, none⟩) ms.length ms.length] 9 2 51
  rw [hwd, hgb] at b1 b2 b3
  rw [hwd] at f
  refine ⟨f, b3, row_blk (enc := encT) b1 ⟨hh, _, _, b1, by decide⟩ rfl (by unfold maxLen; omega) (fun t h => strE_of (ht t h)) _, row_blk (enc := Value.int .i64) b2 ⟨by omega, _, _, b2, by decide⟩ rfl (by unfold maxLen; omega) (fun t h => intE_of (hm t h)) _, ?_⟩
  rw [← hwd, ← hgb]; simp
/-- What the law keeps: a store, the worlds below B as they were. -/
def Kp (w0 : World) (B s K M : Nat) (Bs : List (List FactP)) (w : World) : Prop := St (Bel B) s K M Bs w ∧ Fr (Ge B) w0 w
set_option maxRecDepth 100000 in
set_option maxHeartbeats 8000000 in
theorem factsFull_any (sz : ByteArray) (hs : sz.size ≤ maxLen) (more : Int) (hmo : i64 more) (w : World) : Calls Try.prog 6 #[.string sz, .int .i64 more] w fun e w' => e = .returned (.bool true) ∧ Below w.heap.size w w' := by
  obtain ⟨B, hB⟩ : ∃ B, w.heap.size = B := ⟨_, rfl⟩
  have HB := Lib.hid hB
  clear hB
  unfold maxLen at hs
  obtain ⟨i0, hi0, hz0, hz1, hz2⟩ := info_parts info51
  have HMO := Lib.hid hmo
  clear hmo
  go_enter Try.func6, Try.ntmps6
  go_wp2_with fail
  refine (awake_any w).mono ?_
  rintro e w1 ⟨rfl, b1⟩
  have B1 : Hid (Fr No w w1) := Lib.hid (Fr.of_below b1)
  clear b1
  go_wp2_with fail
  refine (m_new (Bel B) 1 1 (by omega) (by omega) w1 fun k hk => by have h1 := HB.out; have h2 := B1.out.size; unfold Bel at hk; omega).mono ?_
  rintro e w2 ⟨s, rfl, h2, f2⟩
  have HS : Hid (Kp w B s 1 1 (BF [] 0) w2) := Lib.hid ⟨h2, (B1.out.nn f2).any⟩
  clear h2 f2 B1
  go_upto_if 30 with fail
  go_cut [0] (fun bv wx => ∃ b : List UInt8, bv = .string ⟨b.toArray⟩ ∧ b.length ≤ 60 ∧ wx = w2)
  case first =>
    go_wp2
    all_goals go_meet
    · refine ⟨(sz.extract 0 60).data.toList, rfl, ?_, rfl⟩
      rw [len_bytes, ByteArray.size_extract]; omega
    · refine ⟨sz.data.toList, rfl, ?_, rfl⟩
      rw [len_bytes]; omega
  case rest =>
  obtain ⟨b, rfl, hb, rfl⟩ := hcut
  clear hs
  go_wp2
  go_loopw [8] (fun iv wr => ∃ i : Nat, iv = .int .i64 i ∧ i ≤ 64 ∧ Hid (Kp w B s 1 1 (BF b i) wr)) (fun iv _ => 64 - (intOf iv).toNat)
  case atStart => exact ⟨0, rfl, by omega, HS⟩
  case round =>
    obtain ⟨i, rfl, hi, HI⟩ := hrel
    clear HS
    by_cases hlt : i < 64
    · obtain ⟨wS, hwS⟩ : ∃ wS, wS = wr := ⟨_, rfl⟩
      subst hwS
      obtain ⟨h0, hh0⟩ : ∃ h0, wS.heap.size = h0 := ⟨_, rfl⟩
      have HH0 := Lib.hid hh0
      have HLF : Hid (LF h0 wS (.slice none 0 0) ((batF b i).take 0)) := Lib.hid (LF2.nil h0 h0 wS)
      clear hh0
      have hib : decide ((i : Int) < 64) = true := by simp; omega
      go_wp2
      go_loopw [9, 10] (fun lv kv wz => ∃ (k : Nat) (A : Option Addr) (c : Nat), k ≤ 64 ∧ kv = .int .i64 k ∧ lv = .slice A k c ∧ Hid (LF h0 wz (.slice A k c) ((batF b i).take k) ∧ Fr No wS wz)) (fun _ kv _ => 64 - (intOf kv).toNat)
      case atStart => exact ⟨0, none, 0, by omega, rfl, rfl, Lib.hid ⟨HLF.out, Fr.refl _ _⟩⟩
      case round =>
        obtain ⟨k, A, c, hk, rfl, rfl, HK⟩ := hrel
        by_cases hlk : k < 64
        · obtain ⟨wa, hwa⟩ : ∃ wa, wr.alloc (.cells #[.int .u8 (i : Int), .int .u8 (k : Int)] 5) = wa := ⟨_, rfl⟩
          obtain ⟨g, hg⟩ : ∃ g, wr.heap.size = g := ⟨_, rfl⟩
          have hbk : Blk wa g 5 #[.int .u8 (i : Int), .int .u8 (k : Int)] := by rw [← hwa, ← hg]; exact Blk.new wr 5 _
          have hfa : Fr No wr wa := by rw [← hwa]; exact (Fr.refl No wr).alloc _
          obtain ⟨gb, hgb⟩ : ∃ gb, wa.heap.size = gb := ⟨_, rfl⟩
          have hconv := conv2 wa g i k hlt hlk hbk
          have hcat := cat2 b (suf i k) (by simp [suf]; omega)
          obtain ⟨wd, hwd⟩ : ∃ wd, ((wa.alloc (.cells #[.string ⟨(ft b i k).toArray⟩] 9)).alloc (.cells #[.int .i64 1] 2)).alloc (.cells #[.slice (some ⟨gb, 0, none⟩) 1 1, .slice (some ⟨gb + 1, 0, none⟩) 1 1] 51) = wd := ⟨_, rfl⟩
          have hh0 : h0 ≤ gb := by have h1 := HK.out.2.size; have h2 := HH0.out; have h3 := hfa.size; omega
          obtain ⟨fd, bd, rd, rm, hsd⟩ := fact_blocks h0 wa wd gb [ft b i k] [1] hwd hgb hh0 (fun t ht => by rw [List.mem_singleton.1 ht, ft_len]; unfold maxLen; omega) (fun n hn => by rw [List.mem_singleton.1 hn]; unfold i64; omega) (by simp) (by simp)
          have hLd := HK.out.1.keep (hfa.nn fd)
          obtain ⟨xs, ho, hop⟩ := hLd.open
          have hlen : ((batF b i).take k).length = k := by rw [List.length_take, batF_len]; omega
          rw [hlen] at ho
          have hnx : (batF b i).take (k + 1) = (batF b i).take k ++ [fF b i k] := by
            rw [List.take_succ_eq_append_getElem (by rw [batF_len]; exact hlk)]
            simp [batF]
          have HEND : Hid (∀ w3 g' cap, wd.grownBy w3 (Value.slice A k c).ownBlock → w3.ownsRow h0 51 2 (.slice (some ⟨g', 0, none⟩) (k + 1) cap) (k + 1) (xs ++ [.slice (some ⟨gb, 0, none⟩) 1 1, .slice (some ⟨gb + 1, 0, none⟩) 1 1]) → LF h0 w3 (.slice (some ⟨g', 0, none⟩) (k + 1) cap) ((batF b i).take (k + 1)) ∧ Fr No wS w3) := Lib.hid fun w3 g' cap hgr ho3 => by
            rw [hnx]
            refine ⟨LF2.push (v := .slice A k c) (f := fF b i k) hop (by rw [hlen]; exact ho) (by omega) rd rm (Fr.refl No wd) hgr (by rw [hlen]; exact ho3), ((HK.out.2.nn (hfa.nn fd)).any.grown (F := Ge h0) hgr fun j hj hlt => ?_).mono fun j hj hx => ?_⟩
            · exact (ho.lt j hj).1
            · have hx' : h0 ≤ j := hx
              have := HH0.out
              omega
          have HO := Lib.hid ho
          have HCV := Lib.hid hconv
          have HCT := Lib.hid hcat
          have HWA := Lib.hid hwa
          have HG := Lib.hid hg
          have HGB := Lib.hid hgb
          have HWD := Lib.hid hwd
          have HBD := Lib.hid bd
          have HSD := Lib.hid hsd
          have hbase : h0 ≤ wd.heap.size := by omega
          clear ho hconv hcat hwa hg hgb hwd bd hsd hbk hfa fd rd rm hLd hop hlen hnx hh0 HLF
          have e3 : suf i k = suf i k := rfl
          unfold ft at HWD
          generalize suf i k = sk at *
          generalize b ++ sk = tk at *
          clear e3
          go_upto_region 14 with fail
          have hconv := HCV.out
          have hcat := HCT.out
          have hwa := HWA.out
          have hg := HG.out
          have hgb := HGB.out
          have hwd := HWD.out
          go_wp2_with (at_builtin; refine wpList_append_lies _ (by rfl) _ _ 32 (by rfl) h0 51 i0 _ 2 48 Try.underlying32 hi0 hz0 hz1 hz2 rfl (by omega) (.slice A k c) _ _ (by rfl) HO.out ⟨gb + 1 + 1, 0, none⟩ 1 1 [.slice (some ⟨gb, 0, none⟩) 1 1, .slice (some ⟨gb + 1, 0, none⟩) 1 1] (by rfl) (by rfl) (World.news_of_block (cs := #[.slice (some ⟨gb, 0, none⟩) 1 1, .slice (some ⟨gb + 1, 0, none⟩) 1 1]) (t := 51) (fr := (0, 0)) HBD.out) (by simp [Value.oneCell']) (by omega) (by unfold maxLen; omega) (by omega) hbase _ rfl ?_; intro g' cap w3 hown3 hgrow hat hlt; have HE2 := Lib.hid (HEND.out w3 g' cap hgrow hown3); clear hgrow hown3 hat hlt)
          go_roundw
          case rel => exact ⟨k + 1, _, _, by omega, by go_num, rfl, HE2⟩
          case measure => simp [intOf]; omega
        · obtain rfl : k = 64 := by omega
          have htk : (batF b i).take 64 = batF b i := List.take_of_length_le (by rw [batF_len]; omega)
          have hlf := HK.out.1
          rw [htk] at hlf
          have hl : Facts (Since wS wr) wr (.slice A 64 c) (batF b i) := Facts.of hlf.facts (Nat.le_refl _) fun j hj _ => ⟨⟨by have := HH0.out; have := hj.1; omega, hj.2⟩, rfl⟩
          have hap := a_append HI.out.1 HK.out.2 hl (by rw [BF_len]; omega) (full_chk hb hlt)
          rw [BF_len, ← BF_succ] at hap
          have HAP := Lib.hid hap
          have HF : Hid (Fr (Ge B) w wr) := Lib.hid (HI.out.2.gno HK.out.2)
          clear htk hlf hl hap HLF
          go_wp2_with fail
          refine HAP.out.mono ?_
          rintro e w4 ⟨rfl, h4, f4⟩
          have HK4 : Hid (Kp w B s 1 1 (BF b (i + 1)) w4) := Lib.hid ⟨h4, HF.out.gt f4⟩
          clear h4 f4 HAP
          go_wp2
          go_roundw
          case rel => exact ⟨i + 1, by go_num, by omega, HK4⟩
          case measure => simp [intOf]; omega
    · obtain rfl : i = 64 := by omega
      have HC1 := Lib.hid (cat2 b [3, 4] (by simp; omega))
      have HC2 := Lib.hid (cat2 b [110, 101, 119] (by simp; omega))
      obtain ⟨h0, hh0⟩ : ∃ h0, wr.heap.size = h0 := ⟨_, rfl⟩
      obtain ⟨wp, hwp⟩ : ∃ wp, ((wr.alloc (.cells #[.string ⟨(b ++ [3, 4]).toArray⟩] 9)).alloc (.cells #[.int .i64 2] 2)).alloc (.cells #[.slice (some ⟨h0, 0, none⟩) 1 1, .slice (some ⟨h0 + 1, 0, none⟩) 1 1] 51) = wp := ⟨_, rfl⟩
      obtain ⟨fp, bp, rp, mp, hsp⟩ := fact_blocks h0 wr wp h0 [b ++ [3, 4]] [2] hwp hh0 (Nat.le_refl _) (fun t ht => by rw [List.mem_singleton.1 ht]; unfold maxLen; simp; omega) (fun n hn => by rw [List.mem_singleton.1 hn]; unfold i64; omega) (by simp) (by simp)
      obtain ⟨wq, hwq⟩ : ∃ wq, ((wp.alloc (.cells #[.string ⟨(b ++ [110, 101, 119]).toArray⟩] 9)).alloc (.cells #[.int .i64 3] 2)).alloc (.cells #[.slice (some ⟨h0 + 1 + 1 + 1, 0, none⟩) 1 1, .slice (some ⟨h0 + 1 + 1 + 1 + 1, 0, none⟩) 1 1] 51) = wq := ⟨_, rfl⟩
      obtain ⟨fq, bq, rq, mq, hsq⟩ := fact_blocks h0 wp wq (h0 + 1 + 1 + 1) [b ++ [110, 101, 119]] [3] hwq hsp (by omega) (fun t ht => by rw [List.mem_singleton.1 ht]; unfold maxLen; simp; omega) (fun n hn => by rw [List.mem_singleton.1 hn]; unfold i64; omega) (by simp) (by simp)
      have HPB := Lib.hid (bp.of (fq.block _ bp.lt id))
      have HQB := Lib.hid bq
      have HRP : Hid (RowE (LK h0 wq) wq 1 strE (.slice (some ⟨h0, 0, none⟩) 1 1) [b ++ [3, 4]] ∧ RowE (LK h0 wq) wq 1 intE (.slice (some ⟨h0 + 1, 0, none⟩) 1 1) [2]) := Lib.hid ⟨rp.of fq.size (LK.keep fq) fun _ _ _ h => h, mp.of fq.size (LK.keep fq) fun _ _ _ h => h⟩
      have HRQ := Lib.hid (And.intro rq mq)
      have HFQ : Hid (Fr No wr wq) := Lib.hid (fp.nn fq)
      have HWP := Lib.hid hwp
      have HWQ := Lib.hid hwq
      have HH0 := Lib.hid hh0
      have HM2 := Lib.hid (full_end b)
      have HM3 : Hid (∀ k, k ≤ 20 → chkB 1 1 (BF b 64) (List.replicate k (oldF b)) = 0 ∧ chkB 1 1 (BF b 64) (List.replicate k (oldF b) ++ [freshF b]) = 12) := Lib.hid fun k hk => ⟨full_old hb hk, full_more hb hk⟩
      have hbl : b.length + 3 ≤ 64 := by omega
      obtain ⟨o1, ho1⟩ : ∃ o1, h0 + 1 + 1 = o1 := ⟨_, rfl⟩
      obtain ⟨o2, ho2⟩ : ∃ o2, h0 + 1 + 1 + 1 + 1 + 1 = o2 := ⟨_, rfl⟩
      have HO1 := Lib.hid ho1
      have HO2 := Lib.hid ho2
      clear ho1 ho2 hh0 hwp hwq fp bp rp mp hsp fq bq rq mq hsq
      go_upto_region 18 with fail
      have hcat := HC1.out
      have hcat2 := HC2.out
      go_upto_region 20 with fail
      rw [HH0.out, HWP.out, HWQ.out, HO2.out, HO1.out]
      clear hcat hcat2
      rw [HO1.out] at HPB
      have hQB : Blk wq o2 51 #[.slice (some ⟨h0 + 1 + 1 + 1, 0, none⟩) 1 1, .slice (some ⟨h0 + 1 + 1 + 1 + 1, 0, none⟩) 1 1] := by rw [← HO2.out]; exact HQB.out
      have HQB2 := Lib.hid hQB
      clear hQB
      go_wp2_with fail
      refine (cut_any more HMO.out 20 (by omega) wq).mono ?_
      rintro e wq' ⟨m, hm, rfl, rfl⟩
      obtain ⟨hr, hhr⟩ : ∃ hr, wq.heap.size = hr := ⟨_, rfl⟩
      have HHR := Lib.hid hhr
      clear hhr
      have HLF : Hid (LF2 hr h0 wq (.slice none 0 0) (List.replicate 0 (oldF b))) := Lib.hid (LF2.nil hr h0 wq)
      go_wp2
      go_loopw [16, 17] (fun lv kv wz => ∃ (k : Nat) (A : Option Addr) (c : Nat), k ≤ m ∧ kv = .int .i64 k ∧ lv = .slice A k c ∧ Hid (LF2 hr h0 wz (.slice A k c) (List.replicate k (oldF b)) ∧ Fr No wq wz)) (fun _ kv _ => m - (intOf kv).toNat)
      case atStart => exact ⟨0, none, 0, by omega, rfl, rfl, Lib.hid ⟨HLF.out, Fr.refl _ _⟩⟩
      case round =>
        obtain ⟨k, A, c, hk, rfl, rfl, HK⟩ := hrel
        clear HLF
        by_cases hlk : k < m
        · obtain ⟨wd, hwd⟩ : ∃ wd, wr.alloc (.cells #[.slice (some ⟨h0, 0, none⟩) 1 1, .slice (some ⟨h0 + 1, 0, none⟩) 1 1] 51) = wd := ⟨_, rfl⟩
          obtain ⟨g, hg⟩ : ∃ g, wr.heap.size = g := ⟨_, rfl⟩
          have hfd : Fr No wr wd := by rw [← hwd]; exact (Fr.refl No wr).alloc _
          have hbd : Blk wd g 51 #[.slice (some ⟨h0, 0, none⟩) 1 1, .slice (some ⟨h0 + 1, 0, none⟩) 1 1] := by rw [← hwd, ← hg]; exact Blk.new wr 51 _
          have hP := HPB.out.of (HK.out.2.block o1 HPB.out.lt id)
          have c0 := hP.cell 0
          have c1 := hP.cell 1
          obtain ⟨xs, ho, hop⟩ := (HK.out.1.keep hfd).open
          rw [List.length_replicate] at ho
          have hqd : Fr No wq wd := HK.out.2.nn hfd
          have HEND : Hid (∀ w3 g' cap, wd.grownBy w3 (Value.slice A k c).ownBlock → w3.ownsRow hr 51 2 (.slice (some ⟨g', 0, none⟩) (k + 1) cap) (k + 1) (xs ++ [.slice (some ⟨h0, 0, none⟩) 1 1, .slice (some ⟨h0 + 1, 0, none⟩) 1 1]) → LF2 hr h0 w3 (.slice (some ⟨g', 0, none⟩) (k + 1) cap) (List.replicate (k + 1) (oldF b)) ∧ Fr No wq w3) := Lib.hid fun w3 g' cap hgr ho3 => by
            rw [List.replicate_succ']
            refine ⟨LF2.push (v := .slice A k c) (f := oldF b) hop (by rw [List.length_replicate]; exact ho) (by rw [List.length_replicate]; omega) (HRP.out.1.of hqd.size (LK.keep hqd) fun _ _ _ h => h) (HRP.out.2.of hqd.size (LK.keep hqd) fun _ _ _ h => h) (Fr.refl No wd) hgr (by rw [List.length_replicate]; exact ho3), ?_⟩
            refine (hqd.any.grown (F := Ge hr) hgr fun j hj hlt => (ho.lt j hj).1).mono fun j hj hx => ?_
            have hx' : hr ≤ j := hx
            have := HHR.out
            omega
          have HO := Lib.hid ho
          have HWD := Lib.hid hwd
          have HG := Lib.hid hg
          have HBD := Lib.hid hbd
          have hbase : hr ≤ wd.heap.size := by have h1 := HHR.out; have h2 := hqd.size; omega
          clear ho hwd hg hbd hfd hqd hop hP
          go_upto_region 25 with fail
          have hwd := HWD.out
          have hg := HG.out
          go_wp2_with (at_builtin; refine wpList_append_lies _ (by rfl) _ _ 32 (by rfl) hr 51 i0 _ 2 48 Try.underlying32 hi0 hz0 hz1 hz2 rfl (by omega) (.slice A k c) _ _ (by rfl) HO.out ⟨g, 0, none⟩ 1 1 [.slice (some ⟨h0, 0, none⟩) 1 1, .slice (some ⟨h0 + 1, 0, none⟩) 1 1] (by rfl) (by rfl) (World.news_of_block (cs := #[.slice (some ⟨h0, 0, none⟩) 1 1, .slice (some ⟨h0 + 1, 0, none⟩) 1 1]) (t := 51) (fr := (0, 0)) HBD.out) (by simp [Value.oneCell']) (by omega) (by unfold maxLen; omega) (by omega) hbase _ rfl ?_; intro g' cap w3 hown3 hgrow hat hlt; have HE2 := Lib.hid (HEND.out w3 g' cap hgrow hown3); clear hgrow hown3 hat hlt)
          go_roundw
          case rel => exact ⟨k + 1, _, _, by omega, by go_num, rfl, HE2⟩
          case measure => simp [intOf]; omega
        · obtain rfl : k = m := by omega
          obtain ⟨hr2, hhr2⟩ : ∃ hr2, wr.heap.size = hr2 := ⟨_, rfl⟩
          have HR2 := Lib.hid hhr2
          clear hhr2
          go_upto_region 27 with fail
          go_cut [18] (fun wv wx => ∃ (A2 : Option Addr) (c2 : Nat), wv = .slice A2 k c2 ∧ Hid (LF2 hr2 h0 wx (.slice A2 k c2) (List.replicate k (oldF b)) ∧ LF2 hr h0 wx (.slice A k c) (List.replicate k (oldF b)) ∧ Fr No wr wx))
          case first =>
            obtain ⟨xs, ho, hop⟩ := HK.out.1.open
            rw [List.length_replicate] at ho
            by_cases hk0 : k = 0
            · subst hk0
              have hfin : Hid (LF2 hr2 h0 wr (.slice none 0 0) (List.replicate 0 (oldF b)) ∧ LF2 hr h0 wr (.slice A 0 c) (List.replicate 0 (oldF b)) ∧ Fr No wr wr) := Lib.hid ⟨LF2.nil _ _ _, HK.out.1, Fr.refl _ _⟩
              clear ho hop hk hlk
              cases A with
              | none =>
                go_wp2
                go_meet
                exact ⟨none, 0, rfl, hfin⟩
              | some a =>
                go_wp2
                go_wp2
                go_meet
                exact ⟨none, 0, rfl, hfin⟩
            · have hk1 : 0 < k := by omega
              obtain ⟨g, c', e1, _, _⟩ := ho.form hk1
              injection e1 with e1 _ e3
              subst e1
              subst e3
              have hcells : ∀ j u, xs[j]? = some u → wr.cell? ((⟨g, 0, none⟩ : Addr).add j) = some u := fun j u hu => by
                have hj : j < xs.length := (List.getElem?_eq_some_iff.1 hu).1
                rw [Addr.add_mid, Nat.zero_add, ← hu]
                exact ho.cellAt j (by have := ho.1; omega)
              have hone : ∀ u ∈ xs, u.oneCell' = true := fun u hu => by
                obtain ⟨j, hj, rfl⟩ := List.getElem_of_mem hu
                have hxl : xs.length = k * 2 := ho.1
                obtain ⟨_, hop⟩ := hop
                obtain ⟨dv, mv, x1, x2, rd, rm⟩ := hop (j / 2) (by rw [List.length_replicate]; omega)
                obtain ⟨A1, n1, rfl⟩ := rd.slice
                obtain ⟨A2, n2, rfl⟩ := rm.slice
                have : j / 2 * 2 = j ∨ j / 2 * 2 + 1 = j := by omega
                rcases this with e | e
                · rw [e, List.getElem?_eq_getElem hj] at x1
                  rw [Option.some.inj x1]; rfl
                · rw [e, List.getElem?_eq_getElem hj] at x2
                  rw [Option.some.inj x2]; rfl
              have hxl : xs.length = k * 2 := ho.1
              have HEND : Hid (∀ w3 g' cap, wr.grownBy w3 (Value.slice none 0 0).ownBlock → w3.ownsRow hr2 51 2 (.slice (some ⟨g', 0, none⟩) k cap) k xs → LF2 hr2 h0 w3 (.slice (some ⟨g', 0, none⟩) k cap) (List.replicate k (oldF b)) ∧ LF2 hr h0 w3 (.slice (some ⟨g, 0, none⟩) k c) (List.replicate k (oldF b)) ∧ Fr No wr w3) := Lib.hid fun w3 g' cap hgr ho3 => by
                have hf3 : Fr No wr w3 := (Fr.refl No wr).grown hgr fun j hj _ => by simp [Value.ownBlock] at hj
                refine ⟨?_, HK.out.1.keep hf3, hf3⟩
                obtain ⟨_, hop⟩ := hop
                refine ⟨xs, by rw [List.length_replicate]; exact ho3, by rw [List.length_replicate]; omega, fun i hi => ?_⟩
                obtain ⟨dv, mv, x1, x2, rd, rm⟩ := hop i hi
                exact ⟨dv, mv, x1, x2, rd.of hf3.size (LK.keep hf3) fun _ _ _ h => h, rm.of hf3.size (LK.keep hf3) fun _ _ _ h => h⟩
              have HC := Lib.hid hcells
              have HON := Lib.hid hone
              have HXL := Lib.hid hxl
              have hb2 : hr2 ≤ wr.heap.size := by have := HR2.out; omega
              clear ho hop hcells hone hxl hk0
              go_wp2_with (at_builtin; refine wpList_append_lies _ (by rfl) _ _ 32 (by rfl) hr2 51 i0 _ 2 48 Try.underlying32 hi0 hz0 hz1 hz2 rfl (by omega) (.slice none 0 0) 0 [] (by rfl) (World.ownsRow_nil _ _ _ _) ⟨g, 0, none⟩ k c xs (by rfl) HXL.out HC.out HON.out hk1 (by unfold maxLen; omega) (by omega) hb2 _ rfl ?_; intro g' cap w3 hown3 hgrow hat hlt; rw [Nat.zero_add, List.nil_append] at hown3; have HE2 := Lib.hid (HEND.out w3 g' cap hgrow hown3); clear hgrow hown3 hat hlt)
              go_meet
              exact ⟨_, _, by first | rfl | simp, HE2⟩
          case rest =>
          obtain ⟨A2, c2, rfl, HL2⟩ := hcut
          have hbl : wc.heap.size = wc.heap.size := rfl
          obtain ⟨we, hwe⟩ : ∃ we, wc.alloc (.cells #[.slice (some ⟨h0 + 1 + 1 + 1, 0, none⟩) 1 1, .slice (some ⟨h0 + 1 + 1 + 1 + 1, 0, none⟩) 1 1] 51) = we := ⟨_, rfl⟩
          obtain ⟨g, hg⟩ : ∃ g, wc.heap.size = g := ⟨_, rfl⟩
          have hfe : Fr No wc we := by rw [← hwe]; exact (Fr.refl No wc).alloc _
          have hbe : Blk we g 51 #[.slice (some ⟨h0 + 1 + 1 + 1, 0, none⟩) 1 1, .slice (some ⟨h0 + 1 + 1 + 1 + 1, 0, none⟩) 1 1] := by rw [← hwe, ← hg]; exact Blk.new wc 51 _
          have hqe : Fr No wq we := (HK.out.2.nn HL2.out.2.2).nn hfe
          have hQ := HQB2.out.of ((HK.out.2.nn HL2.out.2.2).block o2 HQB2.out.lt id)
          have c0 := hQ.cell 0
          have c1 := hQ.cell 1
          have hW := HL2.out.1.keep hfe
          obtain ⟨xs, ho, hop⟩ := hW.open
          rw [List.length_replicate] at ho
          have hLc := HL2.out.2.1
          have HEND : Hid (∀ w3 g' cap, we.grownBy w3 (Value.slice A2 k c2).ownBlock → w3.ownsRow hr2 51 2 (.slice (some ⟨g', 0, none⟩) (k + 1) cap) (k + 1) (xs ++ [.slice (some ⟨h0 + 1 + 1 + 1, 0, none⟩) 1 1, .slice (some ⟨h0 + 1 + 1 + 1 + 1, 0, none⟩) 1 1]) → LF2 hr2 h0 w3 (.slice (some ⟨g', 0, none⟩) (k + 1) cap) (List.replicate k (oldF b) ++ [freshF b]) ∧ LF2 hr h0 w3 (.slice A k c) (List.replicate k (oldF b)) ∧ Fr No wq w3) := Lib.hid fun w3 g' cap hgr ho3 => by
            have hf3 : Fr No wr w3 := ((HL2.out.2.2.nn hfe).any.grown (F := Ge hr2) hgr fun j hj hlt => (ho.lt j hj).1).mono fun j hj hx => by
              have hx' : hr2 ≤ j := hx
              have := HR2.out
              omega
            refine ⟨LF2.push (v := .slice A2 k c2) (f := freshF b) hop (by rw [List.length_replicate]; exact ho) (by rw [List.length_replicate]; omega) (HRQ.out.1.of hqe.size (LK.keep hqe) fun _ _ _ h => h) (HRQ.out.2.of hqe.size (LK.keep hqe) fun _ _ _ h => h) (Fr.refl No we) hgr (by rw [List.length_replicate]; exact ho3), HK.out.1.keep hf3, HK.out.2.nn hf3⟩
          have HO := Lib.hid ho
          have HWE := Lib.hid hwe
          have HG := Lib.hid hg
          have HBE := Lib.hid hbe
          have hbase : hr2 ≤ we.heap.size := by have h1 := HR2.out; have h2 := (HL2.out.2.2.nn hfe).size; omega
          clear ho hwe hg hbe hfe hqe hop hQ hW hLc hbl
          go_upto_region 28 with fail
          have hwe := HWE.out
          have hg := HG.out
          go_wp2_with (at_builtin; refine wpList_append_lies _ (by rfl) _ _ 32 (by rfl) hr2 51 i0 _ 2 48 Try.underlying32 hi0 hz0 hz1 hz2 rfl (by omega) (.slice A2 k c2) _ _ (by rfl) HO.out ⟨g, 0, none⟩ 1 1 [.slice (some ⟨h0 + 1 + 1 + 1, 0, none⟩) 1 1, .slice (some ⟨h0 + 1 + 1 + 1 + 1, 0, none⟩) 1 1] (by rfl) (by rfl) (World.news_of_block (cs := #[.slice (some ⟨h0 + 1 + 1 + 1, 0, none⟩) 1 1, .slice (some ⟨h0 + 1 + 1 + 1 + 1, 0, none⟩) 1 1]) (t := 51) (fr := (0, 0)) HBE.out) (by simp [Value.oneCell']) (by omega) (by unfold maxLen; omega) (by omega) hbase _ rfl ?_; intro g' cap w3 hown3 hgrow hat hlt; have HE2 := Lib.hid (HEND.out w3 g' cap hgrow hown3); clear hgrow hown3 hat hlt)
          have hh2 : h0 ≤ hr2 := by have h1 := HH0.out; have h2 := HFQ.out.size; have h3 := HK.out.2.size; have h4 := HR2.out; omega
          have hh1 : h0 ≤ hr := by have h1 := HH0.out; have h2 := HFQ.out.size; have h4 := HHR.out; omega
          have hl1 := HE2.out.1.facts hh2
          have hm20 : k ≤ 20 := hm
          have hRF := a_refuse (l := List.replicate k (oldF b) ++ [freshF b]) HI.out.1 (HFQ.out.nn HE2.out.2.2) (Facts.of hl1 (Nat.le_refl _) fun j hj _ => ⟨⟨by have h1 := hj.1; have h2 := HH0.out; omega, hj.2⟩, rfl⟩) 12 (by decide) (HM3.out k hm20).2
          have HRF := Lib.hid hRF
          have HH1 := Lib.hid hh1
          clear hl1 hRF hh2 hh1 c0 c1
          refine HRF.out.mono ?_
          rintro e w4 ⟨rfl, h4, f4⟩
          have HF4 := Lib.hid f4
          have hl2 := (HE2.out.2.1.keep f4).facts HH1.out
          have hAP := a_append (l := List.replicate k (oldF b)) HI.out.1 ((HFQ.out.nn HE2.out.2.2).nn f4) (Facts.of hl2 (Nat.le_refl _) fun j hj _ => ⟨⟨by have h1 := hj.1; have h2 := HH0.out; omega, hj.2⟩, rfl⟩) (by rw [BF_len]; omega) (HM3.out k hm20).1
          rw [BF_len] at hAP
          have HAP := Lib.hid hAP
          have HF5 : Hid (Fr (Ge B) w w4) := Lib.hid (HI.out.2.gno ((HFQ.out.nn HE2.out.2.2).nn f4))
          clear h4 f4 hl2 hAP HRF
          go_wp2_with fail
          refine HAP.out.mono ?_
          rintro e w5 ⟨rfl, h5, f5⟩
          have H5 := Lib.hid h5
          have HF6 : Hid (Fr (Ge B) w w5) := Lib.hid (HF5.out.gt f5)
          clear h5 f5 HAP HF5
          obtain ⟨z1, z2, z3⟩ := HM2.out k
          have HLN := Lib.hid (m_len H5.out)
          rw [z3] at HLN
          have Z1 := Lib.hid z1
          have Z2 := Lib.hid z2
          clear z1 z2 z3
          have e65 : (64 + 1 : Nat) = 65 := rfl
          have hcat2 := HC2.out
          go_wp2_with fail
          refine HLN.out.mono ?_
          rintro e w6 ⟨rfl, q, rfl⟩
          obtain ⟨w6, hw6⟩ : ∃ w6, w5.drewN q = w6 := ⟨_, rfl⟩
          have HF7 : Hid (Fr No w5 w6) := Lib.hid (by rw [← hw6]; exact (Fr.refl _ w5).drewN q)
          rw [hw6]
          clear hw6
          have HV := Lib.hid (m_values (H5.out.keep HF7.out) 0 (by omega))
          have HMT := Lib.hid (m_match (H5.out.keep HF7.out) 0 (by omega) (b ++ [110, 101, 119]) (by simp; unfold maxLen; omega) 99)
          rw [Z2.out] at HV
          rw [Z1.out] at HMT
          unfold encT at HMT
          go_wp2_with fail
          refine HV.out.mono ?_
          rintro e w' ⟨rfl, rfl⟩
          go_wp2_with fail
          refine HMT.out.mono ?_
          rintro e w7 ⟨rfl, f7⟩
          have HF8 : Hid (Fr (Ge B) w w7) := Lib.hid ((HF6.out.gno HF7.out).gno f7)
          clear f7
          go_wp2
          go_ret
          exact ⟨rfl, HF8.out.gbel HB.out⟩
end Go.Proofs.Ytmaeejojmbibnaa
