/- below, Between. -/
import Derived.Test.YtlglfcadoofmpaaA7
import Derived.Deep.RegionHeld3
import Derived.Deep.Slices
namespace Go.Proofs.Ytlglfcadoofmpaa
open Go.RowKit Go.Maps Go.Proofs
set_option linter.unusedVariables false

def BelQ (n : Nat) (w : World) (e : Ending) (w' : World) : Prop := e = .returned (.int .i64 n) ∧ Fr No w w'
theorem srch_c (d bx : Nat) (R : Rp) (S : DS) (t : Tx) (w : World) (h : At w d R S) (hbx : Blk w bx 24 #[.pointer (some ⟨d, 0, none⟩)]) (hW : WF S) (hO : Ord S.L S.S) :
    Calls Try.prog 41 #[R.sv, encT t, .func (.func 42) #[] #[.pointer (some ⟨bx, 0, none⟩)]] w (SrchP S.L S.S t w) := by
  have hlen := hO.len
  by_cases h0 : 0 < S.L.length
  · obtain ⟨gt, c, htv, hgt, hct⟩ := own_cells h.texts h0
    obtain ⟨gs, cap, hsv, _, hgs⟩ := h.sorted.form (by omega)
    obtain ⟨a1, a2, a3, a4, a5, a6⟩ := h.apart
    have hsg : R.sv.ownBlock = some gs := by rw [hsv]; rfl
    have htg : R.tv.ownBlock = some gt := by rw [htv]; rfl
    have hR : Reads w bx d gt S.L.length c S.L := ⟨hbx.cell 0, by rw [← htv]; exact h.cells.1, fun i hi => (hct i hi).1.trans (by rw [txt_get hi]; simp [hi])⟩
    have hrow := h.sorted
    rw [hsv, hlen] at hrow
    rw [hsv, hlen]
    exact search_any bx d gt c gs cap S.L S.S t w hR (fun e => own_blk_ne h.sorted hsg hbx (by decide) e.symm) (fun e => a3 (e ▸ hsg)) (fun e => (a6 gt htg).1 (e ▸ hsg)) h0 hW.le hO hrow
  · have hS0 : S.S = [] := List.length_eq_zero_iff.1 (by omega)
    obtain ⟨A, c, hsv⟩ := own_form h.sorted
    rw [hsv, hS0]
    refine (search_none A c _ _ w).mono ?_
    rintro e w' ⟨rfl, rfl⟩
    exact ⟨⟨false, rfl⟩, Fr.refl _ _⟩

set_option maxHeartbeats 800000 in
theorem below_any (d : Nat) (R : Rp) (S : DS) (t : Tx) (w : World) (h : At w d R S) (hW : WF S) (hO : Ord S.L S.S) : Calls Try.prog 31 #[.pointer (some ⟨d, 0, none⟩), .string ⟨t.toArray⟩] w (BelQ (below S.L S.S t) w) := by
  obtain ⟨w0, hw0⟩ : ∃ w0, w.alloc (.cells #[.pointer (some ⟨d, 0, none⟩)] 24) = w0 := ⟨_, rfl⟩
  obtain ⟨bx, hbx⟩ : ∃ bx, w.heap.size = bx := ⟨_, rfl⟩
  have f0 : Fr No w w0 := by rw [← hw0]; exact (Fr.refl _ w).alloc _
  have h0 := h.keep f0
  have hb0 : Blk w0 bx 24 #[.pointer (some ⟨d, 0, none⟩)] := by rw [← hw0, ← hbx]; exact Blk.new w 24 _
  have hs := srch_c d bx R S t w0 h0 hb0 hW hO
  unfold SrchP at hs
  have HS := Lib.hid hs
  have c5 := h0.cells.2.2.2.2.2.1
  have bb := hb0.cell 0
  simp only [List.getElem?_toArray, List.getElem?_cons_zero] at bb
  have hmf : ∀ (fn : Fn) (first cap : Array Value) (w : World), (Instr.makeFunc fn first cap).run Try.prog w = .ok (.func fn first cap) w := fun _ _ _ _ => rfl
  have HF0 := Lib.hid f0
  have HW0 := Lib.hid hw0
  have HBX := Lib.hid hbx
  unfold encT at HS
  generalize below S.L S.S t = n at *
  have HS' : Hid (Calls Try.prog 41 #[R.sv, .string ⟨t.toArray⟩, .func (.func 42) #[] #[.pointer (some ⟨bx, 0, none⟩)]] w0 (fun e w' => (∃ b, e = .returned (.tuple #[.int .i64 n, .bool b])) ∧ Fr No w0 w')) := HS
  clear h f0 h0 hb0 hW hO HS hs hw0 hbx
  go_enter Try.func31, Try.ntmps31
  go_upto_region 1 with fail
  rw [HW0.out, HBX.out]
  go_wp2_with (go_at_call 41; refine HS'.out.mono ?_; rintro e w2 ⟨⟨b, rfl⟩, hf2⟩)
  go_ret
  exact ⟨rfl, HF0.out.trans hf2 fun _ _ h => h⟩

/-- A stretch of a row of numbers, sliced and copied. -/
theorem stretch {w : World} {v : Value} {n : Nat} {xs : List Value} (h : w.ownsRow 0 3 1 v n xs) (hn : n ≤ 4096) (h1 : ∀ u ∈ xs, u.oneCell' = true) {lo hi : Nat} (h2 : lo ≤ hi) (h3 : hi ≤ n) :
    ∃ u, (∀ wx, (Instr.slice 35 v (some (.int .i64 lo)) (some (.int .i64 hi)) none).run Try.prog wx = .ok u wx) ∧
      ∀ wx : World, wx.ownsRow 0 3 1 v n xs → Calls Try.prog 28 #[u] wx fun e w' => ∃ v', e = .returned v' ∧ w'.ownsRow wx.heap.size 3 1 v' (hi - lo) ((xs.take hi).drop lo) ∧ Below wx.heap.size wx w' := by
  obtain ⟨i0, hi0, hz0, hz1, hz2⟩ := info_parts info3
  have hel : Try.prog.underlying 35 = some (.slice (Try.prog.elem 35)) := by kernel_rfl
  have hsz : ∀ wx, (sizeOf (Try.prog.elem 35)).run Try.prog wx = .ok 1 wx := by
    intro wx
    have e : Try.prog.elem 35 = 3 := by kernel_rfl
    rw [e]
    simp [sizeOf, typeInfo, hi0, hz1]
  have e1 : ((hi : Int)).toNat = hi := by omega
  have e2 : ((lo : Int)).toNat = lo := by omega
  rcases h.2 with ⟨rfl, h0⟩ | ⟨g, cap, cur, rfl, _, hh, hnc, hcm, hs, ht⟩
  · refine ⟨.slice none 0 0, fun wx => ?_, fun wx hw => ?_⟩
    · have hr := run_slice_lh (P := Try.prog) wx 35 none 0 0 hel .i64 .i64 (lo : Int) (hi : Int) (by omega) (by omega) (by omega)
      rw [hsz, e1, e2] at hr
      rw [hr]
      obtain rfl : hi = 0 := by omega
      obtain rfl : lo = 0 := by omega
      simp [sliced, Result.andThen]
    · refine (iclone_nil wx).mono ?_
      rintro e w' ⟨rfl, rfl⟩
      have hx : xs = [] := List.length_eq_zero_iff.1 (by have := h.1; omega)
      subst hx
      have : hi - lo = 0 := by omega
      rw [this]
      simp only [List.take_nil, List.drop_nil]
      exact ⟨_, rfl, World.ownsRow_nil _ _ _ _, Below.refl _ _⟩
  · have hxl : xs.length = n := by have := h.1; omega
    refine ⟨.slice (some ⟨g, if cap = lo then 0 else lo, none⟩) (hi - lo) (cap - lo), fun wx => ?_, fun wx hw => ?_⟩
    · have hr := run_slice_lh (P := Try.prog) wx 35 (some ⟨g, 0, none⟩) n cap hel .i64 .i64 (lo : Int) (hi : Int) (by omega) (by omega) (by omega)
      rw [hsz, e1, e2] at hr
      rw [hr]
      by_cases e : cap = lo
      · simp [sliced, e, Result.andThen]
      · simp [sliced, e, Addr.add, Result.andThen]; omega
    · refine iclone_any g _ (hi - lo) (cap - lo) ((xs.take hi).drop lo) wx (by simp; omega) (by omega) (fun j u hj => ?_) (fun u hu => h1 u (List.mem_of_mem_take (List.mem_of_mem_drop hu)))
      have hj2 : j < hi - lo := by have := (List.getElem?_eq_some_iff.1 hj).1; simp at this; omega
      have hne : ¬ cap = lo := by omega
      rw [if_neg hne]
      refine (hw.cellAt (lo + j) (by omega)).trans ?_
      rw [List.getElem?_drop, List.getElem?_take, if_pos (by omega)] at hj
      exact hj

def BtwQ (d : Nat) (R : Rp) (S : DS) (low high : Tx) (w : World) (e : Ending) (w' : World) : Prop :=
  ∃ (v : Value) (S' : DS) (R' : Rp) (l : List Nat), e = .returned v ∧ S'.L = S.L ∧ WF S' ∧ (∀ T, Ord S.L T → l = btw S.L T low high) ∧ w'.ownsRow w.heap.size 3 1 v l.length (l.map encN) ∧
    At w' d R' S' ∧ Fr (foot d R) w w' ∧ (∀ k, foot d R' k → foot d R k ∨ w.heap.size ≤ k) ∧ ∀ k, v.ownBlock = some k → ¬ foot d R' k

set_option maxRecDepth 100000 in
set_option maxHeartbeats 2000000 in
theorem between_lt (d : Nat) (R : Rp) (S : DS) (low high : Tx) (w : World) (h : At w d R S) (hW : WF S) (hlt : low < high) : Calls Try.prog 19 #[.pointer (some ⟨d, 0, none⟩), encT low, encT high] w (BtwQ d R S low high w) := by
  have HD := Lib.hid (do_any d R S w h hW)
  have hmf : ∀ (fn : Fn) (first cap : Array Value) (w : World), (Instr.makeFunc fn first cap).run Try.prog w = .ok (.func fn first cap) w := fun _ _ _ _ => rfl
  have hle : Op.bytesLess low high = true := by rw [less_dec]; simpa using hlt
  have HLT := Lib.hid hlt
  unfold encT
  clear h hW hlt
  go_enter Try.func19, Try.ntmps19
  go_wp2_with fail
  refine HD.out.mono ?_
  rintro e w1 ⟨rfl, S1, eL, eD, hW1, hP⟩
  obtain ⟨R1, h1, hf1, hg1⟩ := hP
  obtain ⟨hO, hK⟩ := hW1.dn eD
  have c5 := h1.cells.2.2.2.2.2.1
  obtain ⟨hbl, hsb⟩ := slice_btw (L := S1.L) (S := S1.S) hO.up HLT.out
  obtain ⟨u, hsl, hcl⟩ := stretch h1.sorted (Nat.le_trans hW1.sl hW1.le) enc_one hbl (below_le S1.L S1.S high)
  have hB : ∀ (wx : World) (t : Tx), Fr No w1 wx → Calls Try.prog 31 #[.pointer (some ⟨d, 0, none⟩), .string ⟨t.toArray⟩] wx (BelQ (below S1.L S1.S t) wx) := fun wx t hf => below_any d R1 S1 t wx (h1.keep hf) hW1 hO
  have hC : ∀ wx : World, Fr No w1 wx → Calls Try.prog 28 #[u] wx fun e w' => ∃ v', e = .returned v' ∧ w'.ownsRow wx.heap.size 3 1 v' (below S1.L S1.S high - below S1.L S1.S low) (((S1.S.map encN).take (below S1.L S1.S high)).drop (below S1.L S1.S low)) ∧ Below wx.heap.size wx w' := fun wx hf => hcl wx (h1.keep hf).sorted
  have hfin : ∀ (v : Value) (wx w2 : World), Fr No w1 wx → w2.ownsRow wx.heap.size 3 1 v (below S1.L S1.S high - below S1.L S1.S low) (((S1.S.map encN).take (below S1.L S1.S high)).drop (below S1.L S1.S low)) → Below wx.heap.size wx w2 → BtwQ d R S low high w (.returned v) w2 := by
    intro v wx w2 hfx ho hb
    have h2 := (h1.keep hfx).below hb
    have e1 : ((S1.S.map encN).take (below S1.L S1.S high)).drop (below S1.L S1.S low) = (btw S1.L S1.S low high).map encN := by
      rw [← hsb, List.map_drop, List.map_take]
    have e2 : below S1.L S1.S high - below S1.L S1.S low = (btw S1.L S1.S low high).length := by
      rw [← hsb, List.length_drop, List.length_take, Nat.min_eq_left (below_le _ _ _)]
    rw [e1, e2] at ho
    refine ⟨v, S1, R1, btw S1.L S1.S low high, rfl, eL, hW1, fun T hT => ?_, own_base ho (Nat.le_trans hf1.size hfx.size), h2, (hf1.trans hfx.any fun _ _ h => h).trans (Fr.of_below hb).any fun _ _ h => h, hg1, fun k hk hf => ?_⟩
    · rw [eL, (eL ▸ hO : Ord S.L S1.S).unique hT]
    · have := h1.lt k hf
      have := (ho.lt k hk).1
      have := hfx.size
      omega
  have HBl := Lib.hid (fun wx => hB wx low)
  have HBh := Lib.hid (fun wx => hB wx high)
  have HC := Lib.hid hC
  have HFIN := Lib.hid hfin
  have h1d : d < w1.heap.size := h1.blk.lt
  have hkc : ∀ wx : World, Fr No w1 wx → wx.cell? ⟨d, 5, none⟩ = some R1.sv := fun wx hf => (h1.keep hf).cells.2.2.2.2.2.1
  have HKC := Lib.hid hkc
  have HF0 : Hid (Fr No w1 w1.drew) := Lib.hid (Fr.refl _ w1).drew
  have HSL := Lib.hid hsl
  clear h1 hf1 hg1 hO hK hsb hB hC hfin hcl hbl hW1 eL eD hkc hsl
  go_upto_region 4 with fail
  have hsl := HSL.out
  generalize below S1.L S1.S high = bh at *
  generalize below S1.L S1.S low = bl at *
  generalize R1.sv = sv at *
  go_region_held3 (fun w' => w'.cell? ⟨d, 5, none⟩ = some sv)
    (first | exact HKC.out _ HF3.out | exact HKC.out _ HF2.out | exact HKC.out _ HF1.out | exact HKC.out _ HF0.out | go_keep)
    (first
      | (go_at_call 31; (with_reducible refine (HBl.out _ HF0.out).mono ?_); rintro e wa ⟨rfl, fa⟩; have HF1 := Lib.hid (HF0.out.trans fa fun _ _ h => h); clear fa)
      | (go_at_call 31; (with_reducible refine (HBh.out _ HF0.out).mono ?_); rintro e wa ⟨rfl, fa⟩; have HF1 := Lib.hid (HF0.out.trans fa fun _ _ h => h); clear fa)
      | (go_at_call 31; (with_reducible refine (HBl.out _ HF1.out).mono ?_); rintro e wb ⟨rfl, fb⟩; have HF2 := Lib.hid (HF1.out.trans fb fun _ _ h => h); clear fb)
      | (go_at_call 31; (with_reducible refine (HBh.out _ HF1.out).mono ?_); rintro e wb ⟨rfl, fb⟩; have HF2 := Lib.hid (HF1.out.trans fb fun _ _ h => h); clear fb)
      | (go_at_call 28; (with_reducible refine (HC.out _ HF2.out).mono ?_); rintro e wc ⟨v, rfl, ho, hbe⟩; have HQ := Lib.hid (HFIN.out _ _ _ HF2.out ho hbe); have HF3 := Lib.hid (HF2.out.trans (Fr.of_below hbe) fun _ _ h => h); clear ho hbe))
  all_goals (go_simp; go_wp2_with fail)
  all_goals go_ret
  all_goals exact HQ.out

theorem between_ge (d : Nat) (low high : Tx) (w : World) (hlt : ¬ low < high) : Calls Try.prog 19 #[.pointer (some ⟨d, 0, none⟩), encT low, encT high] w fun e w' => e = .returned (.slice none 0 0) ∧ w = w' := by
  have hle : Op.bytesLess low high = false := by rw [less_dec]; simpa using hlt
  unfold encT
  clear hlt
  go_enter Try.func19, Try.ntmps19
  go_wp2
  go_ret
  exact ⟨rfl, rfl⟩
theorem between_nil (low high : ByteArray) (w : World) : Calls Try.prog 19 #[.pointer none, .string low, .string high] w fun e w' => e = .returned (.slice none 0 0) ∧ w = w' := by
  go_enter Try.func19, Try.ntmps19
  go_wp2
  go_ret
  exact ⟨rfl, rfl⟩
theorem copy_nil (w : World) : Calls Try.prog 20 #[.pointer none] w fun e w' => e = .returned (.pointer none) ∧ w = w' := by
  go_enter Try.func20, Try.ntmps20
  go_wp2
  go_ret
  exact ⟨rfl, rfl⟩
theorem between_any (d : Nat) (R : Rp) (S : DS) (low high : Tx) (w : World) (h : At w d R S) (hW : WF S) : Calls Try.prog 19 #[.pointer (some ⟨d, 0, none⟩), encT low, encT high] w (BtwQ d R S low high w) := by
  by_cases hlt : low < high
  · exact between_lt d R S low high w h hW hlt
  · refine (between_ge d low high w hlt).mono ?_
    rintro e w' ⟨rfl, rfl⟩
    exact ⟨_, S, R, [], rfl, rfl, hW, fun T _ => (btw_none hlt).symm, World.ownsRow_nil _ _ _ _, h, Fr.refl _ _, fun _ hk => .inl hk, fun k hk => by simp [Value.ownBlock] at hk⟩
end Go.Proofs.Ytlglfcadoofmpaa
