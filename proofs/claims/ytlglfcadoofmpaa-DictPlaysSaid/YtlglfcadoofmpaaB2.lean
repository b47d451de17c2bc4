/- DictFull walked. -/
import Derived.Test.YtlglfcadoofmpaaB1
import Derived.Test.YtlglfcadoofmpaaP2
namespace Go.Proofs.Ytlglfcadoofmpaa
open Go.RowKit Go.Maps Go.Proofs
set_option linter.unusedVariables false

/-- A dictionary made behind B, and all that lay below B as it was. -/
structure Seen2 (w0 : World) (B d : Nat) (L : List Tx) (w : World) : Prop where
  dt : Dt w (Bel B) d L
  bel : Below B w0 w
  le : B ≤ w.heap.size
theorem Seen2.put {w0 w w' : World} {B d : Nat} {L L' : List Tx} (h : Seen2 w0 B d L w) (h' : Dt w' (Bel B) d L') (f : Fr (NX (Bel B)) w w') : Seen2 w0 B d L' w' := ⟨h', belt h.le h.bel f, Nat.le_trans h.le f.size⟩
theorem Seen2.keep {w0 w w' : World} {B d : Nat} {L : List Tx} (h : Seen2 w0 B d L w) (f : Fr No w w') : Seen2 w0 B d L w' := h.put (h.dt.keep f) f.any
theorem seen_new {w w1 w2 : World} {B : Nat} (hB : w.heap.size = B) (h1 : Below B w w1) (h : Dt w2 (Bel w1.heap.size) w1.heap.size []) (f : Fr No w1 w2) : Seen2 w B w1.heap.size [] w2 :=
  ⟨h.less fun k hk => by unfold Bel at *; have := h1.size; omega, h1.trans ((f.below).mono (by have := h1.size; omega)), by have := h1.size; have := f.size; omega⟩

theorem len_bytes (a : ByteArray) : a.data.toList.length = a.size := Array.length_toList
theorem conv2 (w : World) (g k : Nat) (hk : k < 65536) (h : Blk w g 5 #[.int .u8 ((k : Int) % 256), .int .u8 ((k : Int) / 256)]) : (convert 49 9 (.slice (some ⟨g, 0, none⟩) 2 2)).run Try.prog w = .ok (.string ⟨(suf k).toArray⟩) w := by
  have h2 := run_convert_bytes_arg (P := Try.prog) w 49 5 Try.underlying49 Try.underlying5 g 0 2 2 [(k : Int) % 256, (k : Int) / 256] rfl (fun i hi => by
    rcases i with _ | _ | i
    · exact h.cell 0
    · exact h.cell 1
    · omega) 9 Try.underlying9
  refine h2.trans ?_
  have e1 : ((k : Int) % 256) = ((k % 256 : Nat) : Int) := by omega
  have e2 : ((k : Int) / 256) = ((k / 256 : Nat) : Int) := by omega
  rw [e1, e2]
  have e3 : strOfNums [((k % 256 : Nat) : Int), ((k / 256 : Nat) : Int)] = ⟨(suf k).toArray⟩ := by
    simp only [strOfNums, suf, List.map_cons, List.map_nil, Int.toNat_natCast]
    rw [show UInt8.ofNat (k % 256) = UInt8.ofNat k from UInt8.toNat_inj.1 (by simp)]
  rw [e3]
theorem cat2 (a b : List UInt8) (h : a.length + b.length ≤ 1000) : ∀ w0, (Op.stringOp .add ⟨a.toArray⟩ ⟨b.toArray⟩).run Try.prog w0 = .ok (.string ⟨(a ++ b).toArray⟩) w0 := fun w0 => by
  rw [run_string_add_sum w0 _ _ (by simp [ByteArray.size]; omega), ByteArray.mk_append_mk]

set_option maxRecDepth 100000 in
set_option maxHeartbeats 4000000 in
theorem dictFull_any (s : ByteArray) (hs : s.size ≤ maxLen) (w : World) : Calls Try.prog 5 #[.string s] w fun e w' => e = .returned (.bool true) ∧ Below w.heap.size w w' := by
  obtain ⟨B, hB⟩ : ∃ B, w.heap.size = B := ⟨_, rfl⟩
  have HB := Lib.hid hB
  clear hB
  unfold maxLen at hs
  go_enter Try.func5, Try.ntmps5
  go_wp2_with fail
  refine (awake_any w).mono ?_
  rintro e w1 ⟨rfl, b1⟩
  have B1 : Hid (Below B w w1) := Lib.hid (by rw [← HB.out]; exact b1)
  clear b1
  go_wp2_with fail
  refine (m_new w1).mono ?_
  rintro e w2 ⟨rfl, h2, f2⟩
  have hS := seen_new HB.out B1.out h2 f2
  obtain ⟨d, hd⟩ : ∃ d, w1.heap.size = d := ⟨_, rfl⟩
  rw [hd] at hS ⊢
  have HS := Lib.hid hS
  clear hS hd h2 f2 B1
  go_upto_if 18 with fail
  go_cut [0] (fun bv wx => ∃ b : List UInt8, bv = .string ⟨b.toArray⟩ ∧ b.length ≤ 60 ∧ wx = w2)
  case first =>
    go_wp2
    all_goals go_meet
    · refine ⟨(s.extract 0 60).data.toList, rfl, ?_, rfl⟩
      rw [len_bytes, ByteArray.size_extract]; omega
    · refine ⟨s.data.toList, rfl, ?_, rfl⟩
      rw [len_bytes]; omega
  case rest =>
  obtain ⟨b, rfl, hb, rfl⟩ := hcut
  clear hs
  go_wp2
  go_loopw [5] (fun iv wr => ∃ k : Nat, iv = .int .i64 k ∧ k ≤ 4096 ∧ Hid (Seen2 w B d (FL b k) wr)) (fun iv _ => 4096 - (intOf iv).toNat)
  case atStart => exact ⟨0, rfl, by omega, HS⟩
  case round =>
    obtain ⟨k, rfl, hk, HK⟩ := hrel
    clear HS
    by_cases hlt : k < 4096
    · obtain ⟨wa, hwa⟩ : ∃ wa, wr.alloc (.cells #[.int .u8 ((k : Int) % 256), .int .u8 ((k : Int) / 256)] 5) = wa := ⟨_, rfl⟩
      obtain ⟨g, hg⟩ : ∃ g, wr.heap.size = g := ⟨_, rfl⟩
      have hbk : Blk wa g 5 #[.int .u8 ((k : Int) % 256), .int .u8 ((k : Int) / 256)] := by rw [← hwa, ← hg]; exact Blk.new wr 5 _
      have HKa := Lib.hid (HK.out.keep (by rw [← hwa]; exact (Fr.refl No wr).alloc _ : Fr No wr wa))
      have hconv := conv2 wa g k (by omega) hbk
      have hcat := cat2 b (suf k) (by simp [suf]; omega)
      have hput := m_put HKa.out.dt (ft b k) (by rw [ft_len]; unfold maxLen; omega)
      obtain ⟨p1, p2, p3⟩ := full_put (b := b) (k := k) hb hlt
      unfold PutX at hput
      rw [p1, p2, p3] at hput
      have HP := Lib.hid hput
      have HC := Lib.hid hconv
      have HT : Hid (∀ w0, (Op.stringOp .add ⟨b.toArray⟩ ⟨(suf k).toArray⟩).run Try.prog w0 = .ok (.string ⟨(ft b k).toArray⟩) w0) := Lib.hid hcat
      have HWA := Lib.hid hwa
      have HG := Lib.hid hg
      clear hwa hg hbk hconv hcat hput p1 p2 p3 HK
      generalize suf k = sk at *
      generalize ft b k = tk at *
      go_upto_region 10 with fail
      have hcat := HT.out
      have hconv := HC.out
      have hwa := HWA.out
      have hg := HG.out
      go_wp2_with (go_at_call 15; refine HP.out.mono ?_; rintro e w3 ⟨rfl, h3, f3⟩; have HK3 := Lib.hid (HKa.out.put h3 f3); clear h3 f3)
      go_roundw
      case rel => exact ⟨k + 1, by go_num, by omega, HK3⟩
      case measure => simp [intOf]; omega
    · obtain rfl : k = 4096 := by omega
      obtain ⟨p1, p2, p3⟩ := full_more (b := b) hb
      obtain ⟨q1, q2, q3⟩ := full_old (b := b) hb
      have hput := m_put HK.out.dt (b ++ [97, 98, 99]) (by simp; unfold maxLen; omega)
      unfold PutX at hput
      rw [p1, p2, p3] at hput
      have HP := Lib.hid hput
      have HT1 := Lib.hid (cat2 b [97, 98, 99] (by simp; omega))
      have HT2 := Lib.hid (cat2 b [5, 0] (by simp; omega))
      have HQ : Hid (∀ w3, Seen2 w B d (FL b 4096) w3 → Calls Try.prog 15 #[.pointer (some ⟨d, 0, none⟩), .string ⟨(b ++ [5, 0]).toArray⟩] w3 fun e w' => e = .returned (.tuple #[.int .i64 5, .int .i64 0]) ∧ Dt w' (Bel B) d (FL b 4096) ∧ Fr (NX (Bel B)) w3 w') := Lib.hid fun w3 h3 => by
        have hq := m_put h3.dt (b ++ [5, 0]) (by simp; unfold maxLen; omega)
        unfold PutX at hq
        rw [q1, q2, q3] at hq
        exact hq
      have HLN : Hid (∀ w3, Seen2 w B d (FL b 4096) w3 → Calls Try.prog 11 #[.pointer (some ⟨d, 0, none⟩)] w3 fun e w' => e = .returned (.int .i64 4096) ∧ w3 = w') := Lib.hid fun w3 h3 => by
        have hq := m_len h3.dt
        rw [FL_len] at hq
        exact hq
      have HSO : Hid (∀ w3, Seen2 w B d (FL b 4096) w3 → Calls Try.prog 13 #[.pointer (some ⟨d, 0, none⟩)] w3 fun e w' => (∃ A c, e = .returned (.slice A 4096 c)) ∧ Below B w w') := Lib.hid fun w3 h3 => (m_sorted h3.dt).mono (by
        rintro e w' ⟨v, l, rfl, hO, ho, _, f⟩
        have hl : l.length = 4096 := by rw [hO.len, FL_len]
        rw [hl] at ho
        obtain ⟨A, c, rfl⟩ := own_form ho
        exact ⟨⟨A, c, rfl⟩, belt h3.le h3.bel f⟩)
      clear hput p1 p2 p3 q1 q2 q3
      generalize b ++ [97, 98, 99] = t1 at *
      generalize b ++ [5, 0] = t2 at *
      go_upto_region 13 with fail
      have hcat := HT1.out
      have hcat2 := HT2.out
      go_wp2_with fail
      refine HP.out.mono ?_
      rintro e w3 ⟨rfl, h3, f3⟩
      have HK3 := Lib.hid (HK.out.put h3 f3)
      clear h3 f3 HK
      go_wp2_with fail
      refine (HQ.out _ HK3.out).mono ?_
      rintro e w4 ⟨rfl, h4, f4⟩
      have HK4 := Lib.hid (HK3.out.put h4 f4)
      clear h4 f4 HK3 hcat hcat2
      go_wp2_with (first
        | (go_at_call 11; refine (HLN.out _ HK4.out).mono ?_; rintro e w' ⟨rfl, rfl⟩)
        | (go_at_call 13; refine (HSO.out _ HK4.out).mono ?_; rintro e w5 ⟨⟨A, c, rfl⟩, hb5⟩))
      go_ret
      exact ⟨rfl, by rw [HB.out]; exact hb5⟩
end Go.Proofs.Ytlglfcadoofmpaa
