/- SetsShort, walked. -/
import Derived.Test.YthejnkpnpckmbaaD2
namespace Go.Proofs.Ythejnkpnpckmbaa
open Go.RowKit Go.Maps
set_option linter.unusedVariables false

theorem row_any {α : Type} {K : Nat → Prop} {w : World} {size : Nat} {E : EG α} (hE : Elem E) {v : Value} {l : List α} (h : RowE K w size (E K w) v l) : RowE Any w size (E Any w) v l :=
  h.mono (fun k hk _ => ⟨trivial, rfl⟩) fun x cs hx => hE.mono _ _ _ _ _ _ hx fun k hk _ => ⟨trivial, rfl⟩
/-- Expand of one element that the law lays. -/
theorem ex_call {dims : List Tx} {dv : Value} (g : Gp) (a b : Value) (wx w' : World) (y : Nat) (hw : wx.alloc (.cells #[.int .i64 g.kind, a, b] 38) = w') (hy : wx.heap.size = y) (hD : RowE Any wx 1 (strG Any wx) dv dims) (hA : RowE Any wx 1 (strG Any wx) a g.cols) (hB : RowE Any wx 1 (lsG Any wx) b g.sets) (hF : GpF g) (hk : i64 g.kind) :
    Calls Try.prog 15 #[dv, .slice (some ⟨y, 0, none⟩) 1 1] w' (ExP (expandL dims [g]) w') := by
  have f : Fr No wx w' := by rw [← hw]; exact (Fr.refl No wx).alloc _
  have hb : Blk w' y 38 #[.int .i64 g.kind, a, b] := by rw [← hw, ← hy]; exact Blk.new wx 38 _
  refine expand_any w' (hD.at_ strG_elem f) (row_groups (l := [g]) hb (fun i hi => ?_) (Nat.le_refl _) (by decide)) (fun g' hg' => by rw [List.mem_singleton.1 hg']; exact hF) (by simp)
  obtain rfl : i = 0 := by simpa using hi
  exact ⟨a, b, rfl, rfl, rfl, hk, hA.at_ strG_elem f, hB.at_ lsG_elem f⟩
theorem dl_step {α : Type} {f : Nat → α} {acc : List α} {i : Nat} {T : List α} (h : acc ++ (dl (i + 1)).map f = T) : (acc ++ [f i]) ++ (dl i).map f = T := by rw [← h]; simp [dl]
theorem rollT_len (l : List Tx) : (rollT l).length = l.length + 1 := by unfold rollT; rw [List.length_map, dl_length]
theorem cubeT_len (l : List Tx) : (cubeT l).length = 2 ^ l.length := by unfold cubeT; rw [List.length_map, dl_length]
theorem gpF_roll {l : List Tx} (h6 : l.length ≤ 6) : GpF ⟨4, [], rollT l⟩ := by
  refine ⟨by simp, by show (rollT l).length ≤ _; rw [rollT_len]; omega, fun s hs => ?_⟩
  obtain ⟨n, _, rfl⟩ := List.mem_map.1 hs
  rw [List.length_take]; omega
theorem gpF_cube {l : List Tx} (h6 : l.length ≤ 6) : GpF ⟨4, [], cubeT l⟩ := by
  have h64 : 2 ^ l.length ≤ 64 := Nat.pow_le_pow_right (n := 2) (by decide) h6
  refine ⟨by simp, by show (cubeT l).length ≤ _; rw [cubeT_len]; omega, fun s hs => ?_⟩
  obtain ⟨n, _, rfl⟩ := List.mem_map.1 hs
  have := pick_sub n l
  omega
theorem i64_and_pow (a e : Nat) (ha : a < 64) (he : e < 6) : bits .and .i64 (a : Int) ((2 ^ e : Nat) : Int) = ((a / 2 ^ e % 2 * 2 ^ e : Nat) : Int) := by
  have h64 : 2 ^ e ≤ 2 ^ 6 := Nat.pow_le_pow_right (by decide) (by omega)
  rw [i64_and_nat a (2 ^ e) (by omega) (by omega), nat_bit]

set_option maxRecDepth 100000 in
set_option maxHeartbeats 4000000 in
theorem short_any {K : Nat → Prop} {picks : List Int} {pv : Value} (w : World) (hP : RowE K w 1 (intG K w) pv picks) : Calls Try.prog 4 #[pv] w (TellsB true w) := by
  obtain ⟨A0, c0, rfl, -, -⟩ := row_len hP
  have HAW := Lib.hid (awake_any w)
  have HP := Lib.hid hP
  generalize picks.length = pn at *
  clear hP
  go_enter Try.func4, Try.ntmps4
  go_wp2_with fail
  refine HAW.out.mono ?_
  rintro e w1 ⟨rfl, f1⟩
  have HF1 := Lib.hid f1
  obtain ⟨y, hy⟩ : ∃ y, w1.heap.size = y := ⟨_, rfl⟩
  obtain ⟨w2, hw2⟩ : ∃ w2, w1.alloc (.cells #[sv [97], sv [98], sv [99], sv [100], sv [101], sv [102]] 9) = w2 := ⟨_, rfl⟩
  have f2 : Fr No w1 w2 := by rw [← hw2]; exact (Fr.refl No w1).alloc _
  have b2 : Blk w2 y 9 #[sv [97], sv [98], sv [99], sv [100], sv [101], sv [102]] := by rw [← hw2, ← hy]; exact Blk.new w1 9 _
  have hD2 : RowE Any w2 1 (strG Any w2) (.slice (some ⟨y, 0, none⟩) 6 6) sixT := row_strs (l := sixT) b2 (by decide) (Nat.le_refl _) (by decide)
  have HF2 := Lib.hid (f1.trans f2 fun _ _ h => h)
  have HD2 := Lib.hid hD2
  have HC := Lib.hid (lnames_any w2 hD2 (HP.out.at_ intG_elem HF2.out))
  have HY := Lib.hid hy
  have HW2 := Lib.hid hw2
  clear f1 hy hw2 f2 b2 hD2 HAW
  go_upto_region 3 with fail
  rw [HY.out, HW2.out]
  go_wp2_with fail
  refine HC.out.mono ?_
  rintro e w3 ⟨v3, rfl, hr3, f3⟩
  have HMEM := Lib.hid (namesT_mem picks)
  have hlen := namesT_len picks
  obtain ⟨l, hl⟩ : ∃ l, namesT picks = l := ⟨_, rfl⟩
  rw [hl] at hr3 hlen HMEM
  have HF3 := Lib.hid (HF2.out.trans f3 fun _ _ h => h)
  have HD3 := Lib.hid (HD2.out.at_ strG_elem f3)
  have HL3 := Lib.hid (row_any strG_elem hr3)
  obtain ⟨A3, c3, rfl, hlc3, hcm3⟩ := row_len hr3
  obtain ⟨n, hn⟩ : ∃ n, l.length = n := ⟨_, rfl⟩
  have HN := Lib.hid hn
  rw [hn] at hlen hlc3 HL3 ⊢
  unfold maxLen at hcm3
  clear hr3 f3 hl HC hn
  by_cases hn0 : n = 0
  · subst hn0
    go_wp2_with fail
    go_ret
    exact ⟨rfl, HF3.out⟩
  have hn0b : ((n : Int) == 0) = false := by simp; omega
  have HSL : Hid (∀ k, k ≤ n → ∃ A', (∀ wx, (Instr.slice 23 (.slice A3 n c3) none (some (.int .i64 (k : Int))) none).run Try.prog wx = .ok (.slice A' k c3) wx) ∧ RowE Any w3 1 (strG Any w3) (.slice A' k c3) (l.take k)) := Lib.hid fun k hk => slice_take 23 (by kernel_rfl) size9 HL3.out HN.out.symm hk
  obtain ⟨B, hB⟩ : ∃ B, w3.heap.size = B := ⟨_, rfl⟩
  have HB := Lib.hid hB
  have HRT : Hid ((dl (n + 1)).map (fun k => l.take k) = rollT l) := Lib.hid (by unfold rollT; rw [HN.out])
  clear hB
  go_wp2_with fail
  go_loopg [6, 7] (n + 1) (fun k r6 r7 wr => Hid (∃ (z : Int) (m : Nat) (acc : List (List Tx)) (A : Option Addr) (c : Nat), r7 = .int .i64 z ∧ z = (k : Int) - 1 ∧ m + k = n + 1 ∧ acc.length = m ∧ r6 = .slice A m c ∧ acc ++ ((dl k).map fun k => l.take k) = rollT l ∧ GrowK (fun k => k < B) 0 23 1 lsG wr (.slice A m c) acc ∧ (∀ k, (Value.slice A m c).ownBlock = some k → B ≤ k) ∧ Fr No w3 wr))
  case atStart =>
    refine Lib.hid ⟨_, 0, [], _, _, rfl, by omega, by omega, rfl, rfl, HRT.out, ⟨[], ⟨by simp, .inl ⟨rfl, rfl⟩⟩, fun j hj => absurd hj (by simp), fun k hk => ⟨Nat.zero_le _, by rw [HB.out]; exact hk, by simp [Value.ownBlock]⟩⟩, fun k hk => by simp [Value.ownBlock] at hk, Fr.refl _ _⟩
  case round =>
  obtain ⟨z, m, acc, A4, c4, rfl, hz, hmk, hacc, rfl, happ, hg, hob, hf⟩ := hrel.out
  clear hrel
  have HG := Lib.hid hg
  have HF := Lib.hid hf
  have HAP := Lib.hid happ
  have HAC := Lib.hid hacc
  have HOB := Lib.hid hob
  clear hg happ hacc hob
  cases gk with
  | succ i =>
    obtain rfl : z = (i : Int) := by omega
    clear hz
    have hi0 : (0 : Int) ≤ (i : Int) := by omega
    obtain ⟨A5, hsl, hr5⟩ := HSL.out i (by omega)
    have HT := Lib.hid (dl_step HAP.out)
    have hx : lsG (fun k => k < B) wr (l.take i) [.slice A5 i c3] := ⟨_, rfl, rfl, RowE.mono hr5 (fun k _ hl => ⟨by rw [← HB.out]; exact hl, hf.block k hl id⟩) fun _ _ h => h⟩
    have hgp := HG.out
    rw [← HAC.out] at hgp
    obtain ⟨A', c', w6, hrun, hg6, hf6, ho6⟩ := hgp.add (bytes := 24) lsG_elem 32 Try.underlying32 (.slice none 0 0) (by kernel_rfl) rfl (l.take i) (.slice A5 i c3) rfl hx (by rw [HAC.out]; omega) (by rw [HAC.out]; unfold maxLen; omega)
    rw [HAC.out] at hrun hg6 hf6 ho6
    have HRUN := Lib.hid hrun
    have HG6 := Lib.hid hg6
    have HO6 : Hid (∀ k, (Value.slice A' (m + 1) c').ownBlock = some k → B ≤ k) := Lib.hid fun k hk => by
      rcases (ho6 k hk).2 with h | h
      · exact HOB.out k h
      · have := hf.size; have := HB.out; omega
    have HF6 : Hid (Fr No w3 w6) := Lib.hid (hf.up_base HB.out (hf6.mono fun k _ hk => HOB.out k hk))
    clear hrun hg6 hf6 ho6 hgp hx hr5 hf
    go_wp2_with (at_builtin; refine wpList_add rfl _ _ _ _ rfl _ _ _ _ rfl rfl (HRUN.out _) ?_)
    go_roundg i
    case rel => exact Lib.hid ⟨_, m + 1, acc ++ [l.take i], A', c', rfl, by omega, by omega, by rw [List.length_append, HAC.out]; rfl, rfl, HT.out, HG6.out, HO6.out, HF6.out⟩
    all_goals omega
  | zero =>
  obtain rfl : z = -1 := by omega
  clear hz
  have HT := Lib.hid (show acc = rollT l by have := HAP.out; rwa [show dl 0 = [] from rfl, List.map_nil, List.append_nil] at this)
  obtain ⟨w4, hw4⟩ : ∃ w4, wr = w4 := ⟨_, rfl⟩
  rw [hw4] at HG HF ⊢
  have HR4 : Hid (RowE Any w4 1 (lsG Any w4) (.slice A4 m c4) (rollT l)) := Lib.hid (by
    rw [← HT.out]
    exact row_any lsG_elem (HG.out.grow.row lsG_elem))
  have HD4 := Lib.hid (HD3.out.at_ strG_elem HF.out)
  have HL4 := Lib.hid (HL3.out.at_ strG_elem HF.out)
  have HF4 := Lib.hid (HF3.out.trans HF.out fun _ _ h => h)
  obtain ⟨N, hN⟩ : ∃ N, 2 ^ n = N := ⟨_, rfl⟩
  have hN64 : N ≤ 64 := by rw [← hN]; exact Nat.pow_le_pow_right (by decide) hlen
  have hw : IntKind.i64.wrap ((2 : Int) ^ n) = (N : Int) := by
    rw [show ((2 : Int) ^ n) = ((2 ^ n : Nat) : Int) by simp, hN, IntKind.wrap_i64]; omega
  have HCT : Hid ((dl N).map (fun b => pick b l) = cubeT l) := Lib.hid (by unfold cubeT; rw [HN.out, hN])
  have HNN := Lib.hid hN
  have hnu : IntKind.u64.wrap (n : Int) = (n : Int) := by rw [IntKind.wrap_u64]; omega
  obtain ⟨B4, hB4⟩ : ∃ B4, w4.heap.size = B4 := ⟨_, rfl⟩
  have HB4 := Lib.hid hB4
  obtain ⟨gl, ol, hA3, -, hgl4, hell⟩ : ∃ g o, A3 = some ⟨g, o, none⟩ ∧ True ∧ g < w4.heap.size ∧ ∀ j t, l[j]? = some t → w4.cell? ⟨g, o + j, none⟩ = some (sv t) := by
    obtain ⟨A9, c9, e9, _, _, hr9⟩ := HL4.out
    injection e9 with e91 e92 e93
    subst e91
    obtain ⟨g, o, e, _, hg, hel⟩ := hr9 (by rw [HN.out]; omega)
    refine ⟨g, o, e, trivial, hg, fun j t hj => ?_⟩
    obtain ⟨hjl, hjt⟩ := List.getElem?_eq_some_iff.1 hj
    obtain ⟨cs, _, h2, h3, _⟩ := hel j hjl
    have := h2 0 (by decide)
    rw [h3, hjt] at this
    simpa using this
  subst hA3
  have HELL := Lib.hid hell
  have HGL := Lib.hid hgl4
  have HLT : Hid (∀ t ∈ l, t.length ≤ maxLen) := Lib.hid fun t ht => by
    have h1 : ∀ t ∈ sixT, t.length ≤ 1 := by decide
    have := h1 t (HMEM.out t ht)
    unfold maxLen; omega
  clear hmk hf hw4 hN hB4 hell hgl4 HG HF HAP HSL HRT HOB HB HT HD3 HL3 HD2
  go_wp2_with fail
  go_loopg [8, 9, 10, 11] N (fun k r8 r9 r10 r11 wr => Hid (∃ (z : Int) (m : Nat) (acc : List (List Tx)) (A : Option Addr) (c : Nat), r9 = .int .i64 z ∧ z = (k : Int) - 1 ∧ m + k = N ∧ acc.length = m ∧ r8 = .slice A m c ∧ acc ++ ((dl k).map fun b => pick b l) = cubeT l ∧ Grow B4 23 1 lsG wr (.slice A m c) acc ∧ Fr No w4 wr))
  case atStart => exact Lib.hid ⟨_, 0, [], _, _, rfl, by omega, by omega, rfl, rfl, HCT.out, Grow.nil_ _ _ _ _ _, Fr.refl _ _⟩
  case round =>
  obtain ⟨z, p, acc2, A6, c6, rfl, hz, hpk, hacc, rfl, happ, hg, hf⟩ := hrel.out
  clear hrel
  have HG := Lib.hid hg
  have HF := Lib.hid hf
  have HAP := Lib.hid happ
  have HAC2 := Lib.hid hacc
  clear hg happ hacc
  cases gk with
  | succ i =>
    obtain rfl : z = (i : Int) := by omega
    clear hz
    have hi0 : (0 : Int) ≤ (i : Int) := by omega
    have hi64 : i < 64 := by omega
    have HT := Lib.hid (dl_step HAP.out)
    obtain ⟨B5, hB5⟩ : ∃ B5, wr.heap.size = B5 := ⟨_, rfl⟩
    have HB5 := Lib.hid hB5
    clear hB5 hf HAP
    rename World => wo
    go_wp2_with fail
    go_loopg [10, 11] n (fun k r10 r11 ws => Hid (∃ (j q : Nat) (sa : List Tx) (A : Option Addr) (c : Nat), r11 = .int .i64 (j : Nat) ∧ j + k = n ∧ sa.length = q ∧ q ≤ j ∧ r10 = .slice A q c ∧ sa ++ pick i (l.drop j) = pick i l ∧ Grow B5 9 1 strG ws (.slice A q c) sa ∧ Fr No wo ws))
    case atStart => exact Lib.hid ⟨0, 0, [], _, _, rfl, by omega, rfl, Nat.le_refl _, rfl, rfl, Grow.nil_ _ _ _ _ _, Fr.refl _ _⟩
    case round =>
    obtain ⟨j, q, sa, A7, c7, rfl, hjn, hsa, hqj, rfl, hap, hg7, hf7⟩ := hrel.out
    clear hrel
    have HG7 := Lib.hid hg7
    have HF7 := Lib.hid hf7
    have HAP7 := Lib.hid hap
    have HSA := Lib.hid hsa
    clear hg7 hap hsa
    by_cases hj : j < n
    · have hji : (j : Int) < (n : Int) := by omega
      have hjl : j < l.length := by rw [HN.out]; exact hj
      have e0 : wr.cell? ⟨gl, ol + j, none⟩ = some (sv l[j]) := (cell_of_heap ((HF.out.trans hf7 fun _ _ h => h).block gl HGL.out id)).trans (HELL.out j _ (List.getElem?_eq_getElem hjl))
      obtain ⟨e, he⟩ : ∃ e, n - 1 - j = e := ⟨_, rfl⟩
      have hsub : (n : Int) - 1 - (j : Int) = (e : Int) := by omega
      have he6 : e < 6 := by omega
      have hpd := pick_drop (b := i) hjl (e := e) (by rw [HN.out]; exact he.symm)
      have htl := HLT.out _ (List.getElem_mem hjl)
      obtain ⟨x, hx⟩ : ∃ x, l[j] = x := ⟨_, rfl⟩
      rw [hx] at e0 hpd htl
      have h2e : 2 ^ e ≤ 2 ^ 6 := Nat.pow_le_pow_right (by decide) (by omega)
      have heu : IntKind.u64.wrap (e : Int) = (e : Int) := by rw [IntKind.wrap_u64]; omega
      have hand := i64_and_pow i e hi64 he6
      obtain ⟨d, hd⟩ : ∃ d, i / 2 ^ e % 2 = d := ⟨_, rfl⟩
      rw [hd] at hand hpd
      have HPD := Lib.hid hpd
      have hd2 : d = 0 ∨ d = 1 := by omega
      obtain ⟨pw, hpw⟩ : ∃ pw, 2 ^ e = pw := ⟨_, rfl⟩
      have hpw0 : 0 < pw := by rw [← hpw]; exact Nat.pow_pos (by decide)
      rw [hpw] at hand h2e
      have hw2 : IntKind.i64.wrap ((2 : Int) ^ e) = (pw : Int) := by
        rw [show ((2 : Int) ^ e) = ((2 ^ e : Nat) : Int) by simp, hpw, IntKind.wrap_i64]; omega
      clear hf7 he hx hd hpd h2e hpw
      rcases hd2 with rfl | rfl
      · have HT7 : Hid (sa ++ pick i (l.drop (j + 1)) = pick i l) := Lib.hid (by rw [← HAP7.out, HPD.out]; simp)
        rw [Nat.zero_mul] at hand
        go_wp2_with fail
        obtain ⟨g1, rfl⟩ : ∃ g1, gk = g1 + 1 := ⟨gk - 1, by omega⟩
        go_roundg g1
        case rel => exact Lib.hid ⟨j + 1, q, sa, A7, c7, by go_num, by omega, HSA.out, by omega, rfl, HT7.out, HG7.out, HF7.out⟩
        all_goals omega
      · have HT7 : Hid ((sa ++ [x]) ++ pick i (l.drop (j + 1)) = pick i l) := Lib.hid (by rw [← HAP7.out, HPD.out]; simp)
        rw [Nat.one_mul] at hand
        have hpne : ((pw : Int) == 0) = false := by simp; omega
        have hgp := HG7.out
        rw [← HSA.out] at hgp
        obtain ⟨A', c', w6, hrun, hg6, hf6, _⟩ := Grow.push (bytes := 16) strG_elem hgp HB5.out.symm HF7.out 23 Try.underlying23 (.string ⟨#[]⟩) (by kernel_rfl) rfl x (sv x) rfl ⟨rfl, htl⟩ (by rw [HSA.out]; omega) (by rw [HSA.out]; unfold maxLen; omega)
        rw [HSA.out] at hrun hg6
        have HRUN := Lib.hid hrun
        have HG6 := Lib.hid hg6
        have HF6 := Lib.hid hf6
        clear hrun hg6 hf6 hgp htl
        go_wp2_with (at_builtin; refine wpList_add rfl _ _ _ _ rfl _ _ _ _ rfl rfl (HRUN.out _) ?_)
        obtain ⟨g1, rfl⟩ : ∃ g1, gk = g1 + 1 := ⟨gk - 1, by omega⟩
        go_roundg g1
        case rel => exact Lib.hid ⟨j + 1, q + 1, sa ++ [x], A', c', by go_num, by omega, by rw [List.length_append, HSA.out]; rfl, by omega, rfl, HT7.out, HG6.out, HF6.out⟩
        all_goals omega
    · have hji : (n : Int) ≤ (j : Int) := by omega
      have HT7 : Hid (sa = pick i l) := Lib.hid (by have := HAP7.out; rwa [List.drop_of_length_le (by rw [HN.out]; omega), show pick i ([] : List Tx) = [] from rfl, List.append_nil] at this)
      have hx : lsG (fun k => wo.heap.size ≤ k) wr (pick i l) [.slice A7 q c7] := ⟨_, rfl, rfl, by
        rw [← HT7.out, HB5.out]
        exact HG7.out.row strG_elem⟩
      have hgp := HG.out.keep lsG_elem hf7 fun _ h => h.elim
      rw [← HAC2.out] at hgp
      obtain ⟨A', c', w6, hrun, hg6, hf6, ho6⟩ := Grow.more (bytes := 24) lsG_elem (w0 := wo) hgp (by have := HF.out.size; have := HB4.out; omega) hf7.size (fun k hk => (HG.out.lt k (by rw [← HAC2.out]; exact hk)).2) 32 Try.underlying32 (.slice none 0 0) (by kernel_rfl) rfl (by decide) (pick i l) [.slice A7 q c7] rfl (by simp [Value.oneCell']) hx (by rw [HAC2.out]; omega) (by rw [HAC2.out]; unfold maxLen; omega)
      rw [HAC2.out] at hrun hg6 hf6
      have HRUN := Lib.hid hrun
      have HG6 := Lib.hid hg6
      have HF6 : Hid (Fr No w4 w6) := Lib.hid ((HF.out.trans hf7 fun _ _ h => h).up_base HB4.out (hf6.mono fun k _ hk => (HG.out.lt k hk).1))
      clear hrun hg6 hf6 hgp hx hf7 ho6
      go_wp2_with (at_builtin; refine wpList_add rfl _ _ _ _ rfl _ _ _ _ rfl rfl (HRUN.out _) ?_)
      go_roundg i
      case rel => exact Lib.hid ⟨_, p + 1, acc2 ++ [pick i l], A', c', rfl, by omega, by omega, by rw [List.length_append, HAC2.out]; rfl, rfl, HT.out, HG6.out, HF6.out⟩
      all_goals omega
  | zero =>
  obtain rfl : z = -1 := by omega
  clear hz
  have HT2 := Lib.hid (show acc2 = cubeT l by have := HAP.out; rwa [show dl 0 = [] from rfl, List.map_nil, List.append_nil] at this)
  obtain ⟨w5, hw5⟩ : ∃ w5, wr = w5 := ⟨_, rfl⟩
  rw [hw5] at HG HF ⊢
  have HD5 := Lib.hid (HD4.out.at_ strG_elem HF.out)
  have HL5 := Lib.hid (HL4.out.at_ strG_elem HF.out)
  have HR5 := Lib.hid (HR4.out.at_ lsG_elem HF.out)
  have HC5' : Hid (RowE Any w5 1 (lsG Any w5) (.slice A6 p c6) (cubeT l)) := Lib.hid (by
    rw [← HT2.out]
    exact row_any lsG_elem (HG.out.row lsG_elem))
  have HF5 := Lib.hid (HF4.out.trans HF.out fun _ _ h => h)
  have HS5 : Hid (Fr No w5 w5) := Lib.hid (Fr.refl _ _)
  have h6 : l.length ≤ 6 := by rw [HN.out]; exact hlen
  have HE1 := Lib.hid (ex_roll HMEM.out (by rw [HN.out]; omega) h6)
  have HE2 := Lib.hid (ex_rollS HMEM.out h6)
  have HE3 := Lib.hid (ex_cube HMEM.out (by rw [HN.out]; omega) h6)
  have HE4 := Lib.hid (ex_cubeS HMEM.out h6)
  have HGR := Lib.hid (gpF_roll h6)
  have HGC := Lib.hid (gpF_cube h6)
  have HG2 : Hid (∀ k, GpF ⟨k, l, []⟩) := Lib.hid fun k => ⟨by show l.length ≤ _; omega, by simp, by simp⟩
  have HLR : Hid ((rollL (ownL sixT l)).length = n + 1) := Lib.hid (by rw [rollL_len, ownL_length, HN.out])
  have HLC : Hid ((cubeL (ownL sixT l)).length = N) := Lib.hid (by rw [cubeL_len, ownL_length, HN.out, HNN.out])
  clear hw5 hf hpk HG HF HAP HD4 HL4 HR4 h6 HT2
  obtain ⟨y5, hy5⟩ : ∃ y, w5.heap.size = y := ⟨_, rfl⟩
  obtain ⟨v5, hv5⟩ : ∃ x, w5.alloc (.cells #[.int .i64 2, .slice (some ⟨gl, ol, none⟩) n c3, .slice none 0 0] 38) = x := ⟨_, rfl⟩
  have hC5 := ex_call ⟨2, l, []⟩ (.slice (some ⟨gl, ol, none⟩) n c3) (.slice none 0 0) w5 v5 y5 hv5 hy5 (HD5.out.at_ strG_elem HS5.out) (HL5.out.at_ strG_elem HS5.out) (RowE.nil _ _ _ _) (HG2.out 2) (i64_of 2 (by decide))
  rw [HE1.out] at hC5
  have HC5 := Lib.hid hC5
  have g5 : Fr No w5 v5 := by rw [← hv5]; exact (Fr.refl No w5).alloc _
  have HG5 := Lib.hid (HS5.out.trans g5 fun _ _ h => h)
  have HY5 := Lib.hid hy5
  have HV5 := Lib.hid hv5
  clear hy5 hv5 hC5
  go_wp2_with fail
  rw [HY5.out, HV5.out]
  refine HC5.out.mono ?_
  rintro e w6 ⟨x6, rfl, hr6, f6⟩
  have HS6 := Lib.hid (HG5.out.trans f6 fun _ _ h => h)
  have HX6 := Lib.hid (row_any natG_elem hr6)
  obtain ⟨AX6, cX6, rfl, hq6, hp6⟩ := row_len hr6
  rw [HLR.out] at hq6 HX6 ⊢
  unfold maxLen at hp6
  clear hr6 f6 g5
  obtain ⟨y6, hy6⟩ : ∃ y, w6.heap.size = y := ⟨_, rfl⟩
  obtain ⟨v6, hv6⟩ : ∃ x, w6.alloc (.cells #[.int .i64 4, .slice none 0 0, .slice A4 m c4] 38) = x := ⟨_, rfl⟩
  have hC6 := ex_call ⟨4, [], rollT l⟩ (.slice none 0 0) (.slice A4 m c4) w6 v6 y6 hv6 hy6 (HD5.out.at_ strG_elem HS6.out) (RowE.nil _ _ _ _) (HR5.out.at_ lsG_elem HS6.out) HGR.out (i64_of 4 (by decide))
  rw [HE2.out] at hC6
  have HC6 := Lib.hid hC6
  have g6 : Fr No w6 v6 := by rw [← hv6]; exact (Fr.refl No w6).alloc _
  have HG6 := Lib.hid (HS6.out.trans g6 fun _ _ h => h)
  have HX6a := Lib.hid (HX6.out.at_ natG_elem g6)
  have HY6 := Lib.hid hy6
  have HV6 := Lib.hid hv6
  clear hy6 hv6 hC6
  go_wp2_with fail
  rw [HY6.out, HV6.out]
  refine HC6.out.mono ?_
  rintro e w7 ⟨x7, rfl, hr7, f7⟩
  have HS7 := Lib.hid (HG6.out.trans f7 fun _ _ h => h)
  have HX7 := Lib.hid (row_any natG_elem hr7)
  have HX6b := Lib.hid (HX6a.out.at_ natG_elem f7)
  obtain ⟨AX7, cX7, rfl, hq7, hp7⟩ := row_len hr7
  rw [HLR.out] at hq7 HX7 ⊢
  unfold maxLen at hp7
  clear hr7 f7 g6
  obtain ⟨y7, hy7⟩ : ∃ y, w7.heap.size = y := ⟨_, rfl⟩
  obtain ⟨v7, hv7⟩ : ∃ x, w7.alloc (.cells #[.int .i64 3, .slice (some ⟨gl, ol, none⟩) n c3, .slice none 0 0] 38) = x := ⟨_, rfl⟩
  have hC7 := ex_call ⟨3, l, []⟩ (.slice (some ⟨gl, ol, none⟩) n c3) (.slice none 0 0) w7 v7 y7 hv7 hy7 (HD5.out.at_ strG_elem HS7.out) (HL5.out.at_ strG_elem HS7.out) (RowE.nil _ _ _ _) (HG2.out 3) (i64_of 3 (by decide))
  rw [HE3.out] at hC7
  have HC7 := Lib.hid hC7
  have g7 : Fr No w7 v7 := by rw [← hv7]; exact (Fr.refl No w7).alloc _
  have HG7 := Lib.hid (HS7.out.trans g7 fun _ _ h => h)
  have HX6c := Lib.hid (HX6b.out.at_ natG_elem g7)
  have HX7a := Lib.hid (HX7.out.at_ natG_elem g7)
  have HY7 := Lib.hid hy7
  have HV7 := Lib.hid hv7
  clear hy7 hv7 hC7
  go_wp2_with fail
  rw [HY7.out, HV7.out]
  refine HC7.out.mono ?_
  rintro e w8 ⟨x8, rfl, hr8, f8⟩
  have HS8 := Lib.hid (HG7.out.trans f8 fun _ _ h => h)
  have HX8 := Lib.hid (row_any natG_elem hr8)
  have HX6d := Lib.hid (HX6c.out.at_ natG_elem f8)
  have HX7b := Lib.hid (HX7a.out.at_ natG_elem f8)
  obtain ⟨AX8, cX8, rfl, hq8, hp8⟩ := row_len hr8
  rw [HLC.out] at hq8 HX8 ⊢
  unfold maxLen at hp8
  clear hr8 f8 g7
  obtain ⟨y8, hy8⟩ : ∃ y, w8.heap.size = y := ⟨_, rfl⟩
  obtain ⟨v8, hv8⟩ : ∃ x, w8.alloc (.cells #[.int .i64 4, .slice none 0 0, .slice A6 p c6] 38) = x := ⟨_, rfl⟩
  have hC8 := ex_call ⟨4, [], cubeT l⟩ (.slice none 0 0) (.slice A6 p c6) w8 v8 y8 hv8 hy8 (HD5.out.at_ strG_elem HS8.out) (RowE.nil _ _ _ _) (HC5'.out.at_ lsG_elem HS8.out) HGC.out (i64_of 4 (by decide))
  rw [HE4.out] at hC8
  have HC8 := Lib.hid hC8
  have g8 : Fr No w8 v8 := by rw [← hv8]; exact (Fr.refl No w8).alloc _
  have HG8 := Lib.hid (HS8.out.trans g8 fun _ _ h => h)
  have HX6e := Lib.hid (HX6d.out.at_ natG_elem g8)
  have HX7c := Lib.hid (HX7b.out.at_ natG_elem g8)
  have HX8a := Lib.hid (HX8.out.at_ natG_elem g8)
  have HY8 := Lib.hid hy8
  have HV8 := Lib.hid hv8
  clear hy8 hv8 hC8
  go_wp2_with fail
  rw [HY8.out, HV8.out]
  refine HC8.out.mono ?_
  rintro e w9 ⟨x9, rfl, hr9, f9⟩
  have HS9 := Lib.hid (HG8.out.trans f9 fun _ _ h => h)
  have HX9 := Lib.hid (row_any natG_elem hr9)
  have HX6f := Lib.hid (HX6e.out.at_ natG_elem f9)
  have HX7d := Lib.hid (HX7c.out.at_ natG_elem f9)
  have HX8b := Lib.hid (HX8a.out.at_ natG_elem f9)
  obtain ⟨AX9, cX9, rfl, hq9, hp9⟩ := row_len hr9
  rw [HLC.out] at hq9 HX9 ⊢
  unfold maxLen at hp9
  clear hr9 f9 g8
  have HQ1 := Lib.hid (same_true w9 HX6f.out HX7d.out)
  go_wp2_with fail
  refine HQ1.out.mono ?_
  rintro e wA ⟨rfl, fA⟩
  have HSA := Lib.hid (HS9.out.trans fA fun _ _ h => h)
  have HQ2 := Lib.hid (same_true wA (HX8b.out.at_ natG_elem fA) (HX9.out.at_ natG_elem fA))
  clear fA HQ1
  go_wp2_with fail
  refine HQ2.out.mono ?_
  rintro e wB ⟨rfl, fB⟩
  have HSB := Lib.hid (HF5.out.trans (HSA.out.trans fB fun _ _ h => h) fun _ _ h => h)
  clear fB HQ2
  go_wp2_with fail
  go_ret
  exact ⟨rfl, HSB.out⟩
end Go.Proofs.Ythejnkpnpckmbaa
