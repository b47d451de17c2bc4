/- Scan, walked. -/
import Derived.Test.YtmaeejojmbibnaaH6
namespace Go.Proofs.Ytmaeejojmbibnaa
open Go.RowKit Go.Maps
set_option linter.unusedVariables false

def ScanQ (n K M : Nat) (TC MC : Nat → Nat → Value) (w : World) (e : Ending) (w' : World) : Prop := ∃ v, e = .returned v ∧ Told w.heap.size w' v n K M TC MC ∧ Fr No w w'
theorem pieces_none (p : Option Addr) (w : World) (f : Fn) (a b : Array Value) : Calls Try.prog 38 #[.pointer p, .int .i64 0, .int .i64 0, .func f a b] w fun e w' => e = .returned (.tuple #[]) ∧ w = w' := by
  go_enter Try.func38, Try.ntmps38
  go_wp2
  go_loop [1] (fun lv => lv = .int .i64 0) (fun _ => 0)
  case atStart => rfl
  case round =>
    obtain rfl := hrel
    go_wp2
    go_end0
    exact ⟨rfl, rfl⟩
section
variable (s : Nat) (Q : SRp) (S : FS) (B : List (List FactP)) (w : World)
set_option maxRecDepth 100000 in
set_option maxHeartbeats 8000000 in
theorem scan_none (p : Option Addr) (hn : ∀ w, NoneP p w) (a b : Int) (K M : Nat) (TC MC : Nat → Nat → Value) : Calls Try.prog 19 #[.pointer p, .int .i64 a, .int .i64 b] w (ScanQ 0 K M TC MC w) := by
  obtain ⟨w0, hw0⟩ : ∃ w0, w.alloc (.cells #[.pointer p] 24) = w0 := ⟨_, rfl⟩
  obtain ⟨bs, hbs⟩ : ∃ bs, w.heap.size = bs := ⟨_, rfl⟩
  have f0 : Fr No w w0 := by rw [← hw0]; exact (Fr.refl _ w).alloc _
  have hb0 : Blk w0 bs 24 #[.pointer p] := by rw [← hw0, ← hbs]; exact Blk.new w 24 _
  have b0 : w0.cell? ⟨bs, 0, none⟩ = some (.pointer p) := hb0.cell 0
  have HSP : Hid (Calls Try.prog 37 #[.pointer p, .int .i64 a, .int .i64 b] w0 (SpanP 0 0 w0)) := Lib.hid (span_none w0 p hn a b)
  have HF0 := Lib.hid f0
  have HB0 := Lib.hid hb0
  have HW0 := Lib.hid hw0
  have HBS := Lib.hid hbs
  have hmk : ∀ w : World, (Instr.makeSlice 32 (.int .i64 0) (.int .i64 0)).run Try.prog w = .ok (.slice (some ⟨w.heap.size, 0, none⟩) 0 0) (w.alloc (.cells (zfacts 0) 51)) := make32c 0 (by omega)
  clear hn f0 hb0 hw0 hbs
  go_enter Try.func19, Try.ntmps19
  go_upto_region 1 with fail
  rw [HW0.out, HBS.out]
  go_wp2_with fail
  refine HSP.out.mono ?_
  rintro e w1 ⟨rfl, f1⟩
  have HF1 := Lib.hid f1
  have b1 : w1.cell? ⟨bs, 0, none⟩ = some (.pointer p) := (cell_of_heap (f1.block bs HB0.out.lt id)).trans b0
  obtain ⟨r, hr⟩ : ∃ r, w1.heap.size = r := ⟨_, rfl⟩
  obtain ⟨bl, hbl⟩ : ∃ bl, r + 1 = bl := ⟨_, rfl⟩
  obtain ⟨w2, hw2⟩ : ∃ w2, (w1.alloc (.cells (zfacts 0) 51)).alloc (.cells #[.slice (some ⟨r, 0, none⟩) 0 0] 32) = w2 := ⟨_, rfl⟩
  have HBL : Hid (Blk w2 bl 32 #[.slice (some ⟨r, 0, none⟩) 0 0]) := Lib.hid (by
    rw [← hw2, ← hbl]
    have h := Blk.new (w1.alloc (.cells (zfacts 0) 51)) 32 #[.slice (some ⟨r, 0, none⟩) 0 0]
    have e : (w1.alloc (.cells (zfacts 0) 51)).heap.size = w1.heap.size + 1 := by simp
    rw [e, hr] at h
    exact h)
  have HT : Hid (Told w.heap.size w2 (.slice (some ⟨r, 0, none⟩) 0 0) 0 K M TC MC) := Lib.hid (by
    have h := Told.start w1 K M 0 (by simp) TC MC
    rw [hr] at h
    have h2 := h.keep ((Fr.refl No _).alloc (.cells #[.slice (some ⟨r, 0, none⟩) 0 0] 32))
    rw [hw2] at h2
    obtain ⟨da, ma, o, b⟩ := h2
    have hle : w.heap.size ≤ r := by rw [← hr]; exact Nat.le_trans HF0.out.size HF1.out.size
    exact ⟨da, ma, own_base o hle, b.base hle⟩)
  have HF2 : Hid (Fr No w w2) := Lib.hid (by rw [← hw2]; exact (((HF0.out.trans HF1.out fun _ _ h => h).alloc _).alloc _))
  have HW2 := Lib.hid hw2
  have HBL2 := Lib.hid hbl
  have HR := Lib.hid hr
  have b2 : w2.cell? ⟨bs, 0, none⟩ = some (.pointer p) := by
    have f : Fr No w1 w2 := by rw [← hw2]; exact ((Fr.refl No w1).alloc _).alloc _
    exact (cell_of_heap (f.block bs (World.block_lt_of_cell? _ _ b1) id)).trans b1
  have b3 : w2.cell? ⟨bl, 0, none⟩ = some (.slice (some ⟨r, 0, none⟩) 0 0) := HBL.out.cell 0
  clear f1 hbl hr hw2 b0 b1
  go_upto_region 3 with fail
  rw [HR.out, HBL2.out, HW2.out]
  go_wp2_with fail
  refine (pieces_none p w2 _ _ _).mono ?_
  rintro e w3 ⟨rfl, rfl⟩
  go_wp2
  go_ret
  exact ⟨_, rfl, HT.out, HF2.out⟩
set_option maxRecDepth 100000 in
set_option maxHeartbeats 8000000 in
theorem scan_any (h : SAt w s Q S) (hW : FW S B []) (a b : Int) : Calls Try.prog 19 #[.pointer (some ⟨s, 0, none⟩), .int .i64 a, .int .i64 b] w (ScanQ (highS B a b - lowS B a) S.K S.M (TT S (lowS B a)) (MT S (lowS B a)) w) := by
  obtain ⟨w0, hw0⟩ : ∃ w0, w.alloc (.cells #[.pointer (some ⟨s, 0, none⟩)] 24) = w0 := ⟨_, rfl⟩
  obtain ⟨bs, hbs⟩ : ∃ bs, w.heap.size = bs := ⟨_, rfl⟩
  have f0 : Fr No w w0 := by rw [← hw0]; exact (Fr.refl _ w).alloc _
  have hb0 : Blk w0 bs 24 #[.pointer (some ⟨s, 0, none⟩)] := by rw [← hw0, ← hbs]; exact Blk.new w 24 _
  have b0 : w0.cell? ⟨bs, 0, none⟩ = some (.pointer (some ⟨s, 0, none⟩)) := hb0.cell 0
  have HSP : Hid (Calls Try.prog 37 #[.pointer (some ⟨s, 0, none⟩), .int .i64 a, .int .i64 b] w0 (SpanP (lowS B a) (highS B a b) w0)) := Lib.hid (span_any s Q S B [] w0 (h.keep f0) hW a b)
  have hlh := low_le_high B a b
  have hhn : highS B a b ≤ S.n := by rw [hW.flat]; exact highS_le B a b
  obtain ⟨lo, hlo⟩ : ∃ lo, lowS B a = lo := ⟨_, rfl⟩
  obtain ⟨hi, hhi⟩ : ∃ hi, highS B a b = hi := ⟨_, rfl⟩
  rw [hlo, hhi] at HSP hlh ⊢
  rw [hhi] at hhn
  clear hlo hhi
  have hn7 : S.n ≤ 70000 := by have h1 := hW.bn; have h2 := hW.b; simp only [List.length_nil] at h1; omega
  obtain ⟨c, hc⟩ : ∃ c, hi - lo = c := ⟨_, rfl⟩
  have hsub : (hi : Int) - (lo : Int) = (c : Int) := by omega
  have hc7 : c ≤ 70000 := by omega
  have hi7 : hi ≤ 70000 := by omega
  have HF0 := Lib.hid f0
  have HB0 := Lib.hid hb0
  have HW0 := Lib.hid hw0
  have HBS := Lib.hid hbs
  have HAT := Lib.hid h
  have HW := Lib.hid hW
  have HHN := Lib.hid hhn
  have HC := Lib.hid hc
  rw [hc]
  have hmk := make32c c (by omega)
  clear h hW f0 hb0 hw0 hbs hhn hc hn7
  go_enter Try.func19, Try.ntmps19
  go_upto_region 1 with fail
  rw [HW0.out, HBS.out]
  go_wp2_with fail
  refine HSP.out.mono ?_
  rintro e w1 ⟨rfl, f1⟩
  have HF1 := Lib.hid f1
  have b1 : w1.cell? ⟨bs, 0, none⟩ = some (.pointer (some ⟨s, 0, none⟩)) := (cell_of_heap (f1.block bs HB0.out.lt id)).trans b0
  obtain ⟨r, hr⟩ : ∃ r, w1.heap.size = r := ⟨_, rfl⟩
  obtain ⟨bl, hbl⟩ : ∃ bl, r + 1 = bl := ⟨_, rfl⟩
  obtain ⟨w2, hw2⟩ : ∃ w2, (w1.alloc (.cells (zfacts c) 51)).alloc (.cells #[.slice (some ⟨r, 0, none⟩) 0 c] 32) = w2 := ⟨_, rfl⟩
  have hBL : Blk w2 bl 32 #[.slice (some ⟨r, 0, none⟩) 0 c] := by
    rw [← hw2, ← hbl]
    have h := Blk.new (w1.alloc (.cells (zfacts c) 51)) 32 #[.slice (some ⟨r, 0, none⟩) 0 c]
    have e : (w1.alloc (.cells (zfacts c) 51)).heap.size = w1.heap.size + 1 := by simp
    rw [e, hr] at h
    exact h
  have hT : Told w.heap.size w2 (.slice (some ⟨r, 0, none⟩) 0 c) 0 S.K S.M (TT S lo) (MT S lo) := by
    have h := Told.start w1 S.K S.M c (by unfold maxLen; omega) (TT S lo) (MT S lo)
    rw [hr] at h
    have h2 := h.keep ((Fr.refl No _).alloc (.cells #[.slice (some ⟨r, 0, none⟩) 0 c] 32))
    rw [hw2] at h2
    obtain ⟨da, ma, o, b⟩ := h2
    have hle : w.heap.size ≤ r := by rw [← hr]; exact Nat.le_trans HF0.out.size HF1.out.size
    exact ⟨da, ma, own_base o hle, b.base hle⟩
  have f12 : Fr No w1 w2 := by rw [← hw2]; exact ((Fr.refl No w1).alloc _).alloc _
  have hF2 : Fr No w w2 := (HF0.out.trans HF1.out fun _ _ h => h).trans f12 fun _ _ h => h
  have hBS : Blk w2 bs 24 #[.pointer (some ⟨s, 0, none⟩)] := (HB0.out.of (HF1.out.block bs HB0.out.lt id)).of (f12.block bs (World.block_lt_of_cell? _ _ b1) id)
  have hwbl : w.heap.size ≤ bl := by
    have h1 := HF0.out.size
    have h2 := HF1.out.size
    omega
  have HWBL := Lib.hid hwbl
  have HW2 := Lib.hid hw2
  have HBL2 := Lib.hid hbl
  have HR := Lib.hid hr
  have HBL := Lib.hid hBL
  have HT := Lib.hid hT
  have HBS2 := Lib.hid hBS
  have HF2 := Lib.hid hF2
  have b2 : w2.cell? ⟨bs, 0, none⟩ = some (.pointer (some ⟨s, 0, none⟩)) := hBS.cell 0
  have HI : Hid (∀ p wx, (SAt wx s Q S ∧ Fr No w wx ∧ ∃ lv, Blk wx bl 32 #[lv] ∧ Blk wx bs 24 #[.pointer (some ⟨s, 0, none⟩)] ∧ Told w.heap.size wx lv (p - lo) S.K S.M (TT S lo) (MT S lo)) → lo ≤ p → p < hi → Step39 s Q S hi (.pointer (some ⟨bl, 0, none⟩)) (.pointer (some ⟨bs, 0, none⟩)) (fun p wx => SAt wx s Q S ∧ Fr No w wx ∧ ∃ lv, Blk wx bl 32 #[lv] ∧ Blk wx bs 24 #[.pointer (some ⟨s, 0, none⟩)] ∧ Told w.heap.size wx lv (p - lo) S.K S.M (TT S lo) (MT S lo)) p wx) := Lib.hid (by
    rintro p wx ⟨ha, hf, lv, hb, hs, ht⟩ h1 h2
    unfold Step39
    have hn := HHN.out
    have hG := HW.out.g
    have hgl : p / 256 < S.G := by omega
    have hq := scan1_any s Q S B wx ha HW.out w.heap.size bl bs (p - lo) lv (TT S lo) (MT S lo) hb hs ht hf.size (by omega) (p / 256) (p % 256) (p % 256 + min (hi - p) (256 - p % 256)) hgl (by omega) (by omega) (by omega)
    refine hq.mono ?_
    rintro e w' ⟨rfl, lv', hb', ht', hf'⟩
    have hlvb : ∀ k, lv.ownBlock = some k → w.heap.size ≤ k := fun k hk => by
      obtain ⟨da, ma, o, _⟩ := ht
      exact (o.lt k hk).1
    have hout : ∀ k, (k = bl ∨ lv.ownBlock = some k) → w.heap.size ≤ k := fun k hk => hk.elim (fun e => by rw [e]; exact HWBL.out) (hlvb k)
    have hsb : ¬ (bs = bl ∨ lv.ownBlock = some bs) := by
      rintro (e | e)
      · exact Blk.ne_ hs hb (by decide) e
      · obtain ⟨da, ma, o, _⟩ := ht
        obtain ⟨cur, hc⟩ := own_row o e
        exact Blk.ne_ (t := 51) hc hs (by decide) rfl
    refine ⟨rfl, ha.fr hf' fun k hk hs => ?_, hf.trans hf' fun k hk e => ?_, lv', hb', hs.of (hf'.block bs hs.lt hsb), ht'.congr (by omega) (fun i d hi' hd => ?_) (fun i d hi' hd => ?_)⟩
    · have := HAT.out.lt k hs; have := hout k hk; omega
    · have := hout k e; omega
    · unfold jn
      by_cases e : i < p - lo
      · rw [if_pos e]
      · rw [if_neg e]
        unfold TT
        rw [show p / 256 * 256 + p % 256 + (i - (p - lo)) = lo + i by omega]
    · unfold jn
      by_cases e : i < p - lo
      · rw [if_pos e]
      · rw [if_neg e]
        unfold MT
        rw [show p / 256 * 256 + p % 256 + (i - (p - lo)) = lo + i by omega])
  have hGG : S.G ≤ 1001 := by have h1 := HW.out.g; have h2 := HW.out.bn; have h3 := HW.out.b; simp only [List.length_nil] at h2; omega
  have hhG : hi ≤ S.G * 256 := by have h1 := HW.out.g; have h2 := HHN.out; omega
  have b4 : w2.cell? ⟨bl, 0, none⟩ = some (.slice (some ⟨r, 0, none⟩) 0 c) := hBL.cell 0
  clear f1 hbl hr hw2 b0 b1 hBL hT f12 hF2 hBS hwbl
  go_upto_region 3 with fail
  rw [HR.out, HBL2.out, HW2.out]
  clear hmk
  go_wp2_with fail
  refine (pieces39 s Q S w2 _ lo hi _ _ hlh hhG hGG (fun p wx h => h.1) HI.out ⟨HAT.out.keep HF2.out, HF2.out, _, HBL.out, HBS2.out, HT.out.congr (by omega) (fun _ _ _ _ => rfl) (fun _ _ _ _ => rfl)⟩).mono ?_
  rintro e w3 ⟨rfl, ha, hf, lv, hb, hs, ht⟩
  rw [HC.out] at ht
  have b3 : w3.cell? ⟨bl, 0, none⟩ = some lv := hb.cell 0
  have HTF := Lib.hid ht
  have HFF := Lib.hid hf
  clear ha hf hb hs ht
  obtain ⟨A, cx, rfl⟩ : ∃ A cx, lv = .slice A c cx := by
    obtain ⟨da, ma, o, _⟩ := HTF.out
    exact own_form o
  go_wp2
  go_ret
  exact ⟨_, rfl, HTF.out, HFF.out⟩
end
end Go.Proofs.Ytmaeejojmbibnaa
