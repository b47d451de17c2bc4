/- The document's own net: those that are at their end go. -/
import Derived.Test.YthcpdeffgdaieaaD1
import Derived.Deep.DeepCutAuto
namespace Go.Proofs.Ythcpdeffgdaieaa
open Go.RowKit Go.Maps
set_option linter.unusedVariables false

theorem info39 : (Try.prog.info? 39).map (fun i => (i.zero, i.size, i.bytes)) = some (some (.pointer none), 1, 8) := by kernel_rfl

def LK.gone (K : LK) : Bool := if K.cut then K.told false && K.told true else K.over
def NS.alive (S : NS) (n : Int) : Bool := match S.link n with
  | some K => !K.gone
  | none => false
def NS.goes (S : NS) : NS := { S with keys := S.keys.filter S.alive, link := fun n => if S.alive n then S.link n else none }

def LK.allL (K : LK) : List UInt8 := K.wayL false ++ K.wayL true ++ K.thereL false ++ K.thereL true
def LK.doneR (K : LK) (sh : Bool → Bool) : Bool := sh false && (sh true && K.allL.isEmpty)
theorem allL_empty (K : LK) : K.allL.isEmpty = ((K.way false).bytes.isEmpty && (K.way true).bytes.isEmpty) := by
  rw [Bool.eq_iff_iff]
  simp only [LK.allL, LK.wayL, LK.thereL, List.isEmpty_iff, List.append_eq_nil_iff, Bool.and_eq_true]
  constructor
  · rintro ⟨⟨⟨h1, h2⟩, h3⟩, h4⟩
    exact ⟨by rw [← List.take_append_drop (K.way false).arr (K.way false).bytes, h1, h3]; rfl, by rw [← List.take_append_drop (K.way true).arr (K.way true).bytes, h2, h4]; rfl⟩
  · rintro ⟨h1, h2⟩
    rw [h1, h2]; simp
theorem done_over {K : LK} {sh : Bool → Bool} (hc : K.cut = false) (hs : ShOk K sh) : K.doneR sh = K.over := by
  unfold LK.doneR LK.over WS.ended
  rw [hs hc false, hs hc true, allL_empty]
  simp only [Bool.not_false, Bool.not_true]
  cases (K.way true).shut <;> cases (K.way false).shut <;> simp [Bool.and_comm]

theorem goes_end {w wr : World} {r : Nat} {Q : Rq} {S : NS} {v : Value} (h : RAt w r Q S) (hf : Fr No w wr) (ho : wr.ownsRow w.heap.size 39 1 v (S.keys.filter S.alive).length ((S.keys.filter S.alive).map fun n => ptrV (Q.rg n))) :
    Postr r Q S w S.goes (wr.setCell ⟨r, 1, none⟩ v) := by
  have hf2 : Fr (One r) w (wr.setCell ⟨r, 1, none⟩ v) := (hf.any (G := One r)).setCell (p := ⟨r, 1, none⟩) (fun _ => rfl) v
  have hb : Blk (wr.setCell ⟨r, 1, none⟩ v) r 29 #[.int .i64 S.last, v] := (h.blk.of (hf.block r h.blk.lt id)).set_ 1 v
  have hrl := h.blk.lt
  have ho2 : (wr.setCell ⟨r, 1, none⟩ v).ownsRow 0 39 1 v (S.keys.filter S.alive).length ((S.keys.filter S.alive).map fun n => ptrV (Q.rg n)) := by
    refine own_base (own_of ho fun k hk => ?_) (Nat.zero_le _)
    have := (ho.lt k hk).1
    exact Below.heap_setCell wr ⟨r, 1, none⟩ v k (by show k ≠ r; omega)
  refine ⟨{ Q with lv := v }, ⟨hb, ho2, fun n hn => ?_, fun n hn m hm => h.ap n (List.mem_filter.1 hn).1 m (List.mem_filter.1 hm).1⟩, hf2.mono fun k _ hk => .inl hk, fun k hk => ?_⟩
  · have hn' : n ∈ S.keys.filter S.alive := hn
    obtain ⟨hn1, hn2⟩ := List.mem_filter.1 hn'
    obtain ⟨K, sh, h1, h2, h3⟩ := h.con n hn1
    refine ⟨K, sh, by show (if S.alive n then S.link n else none) = _; rw [if_pos hn2]; exact h1, h2.of (hf2.block _ h2.lt fun e => ?_), h3⟩
    exact h2.ne_ h.blk (by decide) e
  · rcases hk with hk | hk | ⟨n, hn, hk⟩
    · exact .inl (.inl hk)
    · have hk' : v.ownBlock = some k := hk
      exact .inr (ho.lt k hk').1
    · have hn' : n ∈ S.keys.filter S.alive := hn
      exact .inl (.inr (.inr ⟨n, (List.mem_filter.1 hn').1, hk⟩))

theorem filter_snoc {S : NS} {k : Nat} {n : Int} (h : S.keys[k]? = some n) : (S.keys.take (k + 1)).filter S.alive = (S.keys.take k).filter S.alive ++ (if S.alive n then [n] else []) := by
  rw [List.take_add_one, h, List.filter_append]
  congr 1
  simp only [Option.toList, List.filter_cons, List.filter_nil]

/-- What a round of the list has. -/
def GoesR (w wr : World) (Q : Rq) (S : NS) (k : Nat) (v : Value) : Prop :=
  ∃ A c, v = .slice A ((S.keys.take k).filter S.alive).length c ∧ wr.ownsRow w.heap.size 39 1 v ((S.keys.take k).filter S.alive).length (((S.keys.take k).filter S.alive).map fun n => ptrV (Q.rg n)) ∧ Fr No w wr
theorem GoesR.kept {w wr : World} {Q : Rq} {S : NS} {k m : Nat} {v : Value} {n : Int} (h : GoesR w wr Q S k v) (hn : S.keys[k]? = some n) (ha : S.alive n = false) : GoesR w (wr.drewN m) Q S (k + 1) v := by
  obtain ⟨A, c, h1, h2, h3⟩ := h
  unfold GoesR
  rw [filter_snoc hn, ha]
  simp only [Bool.false_eq_true, if_false, List.append_nil]
  exact ⟨A, c, h1, own_of h2 fun _ _ => rfl, h3.drewN m⟩
theorem GoesR.more {w w5 : World} {Q : Rq} {S : NS} {k g cap : Nat} {n : Int} (hn : S.keys[k]? = some n) (ha : S.alive n = true) (hf : Fr No w w5)
    (ho : w5.ownsRow w.heap.size 39 1 (.slice (some ⟨g, 0, none⟩) (((S.keys.take k).filter S.alive).length + 1) cap) (((S.keys.take k).filter S.alive).length + 1) ((((S.keys.take k).filter S.alive).map fun n => ptrV (Q.rg n)) ++ [.pointer (some ⟨Q.rg n, 0, none⟩)])) :
    GoesR w w5 Q S (k + 1) (.slice (some ⟨g, 0, none⟩) (((S.keys.take k).filter S.alive).length + 1) cap) := by
  unfold GoesR
  rw [filter_snoc hn, ha]
  simp only [if_true, List.length_append, List.length_singleton, List.map_append, List.map_cons, List.map_nil]
  exact ⟨_, _, rfl, ho, hf⟩

set_option maxRecDepth 100000 in
set_option maxHeartbeats 8000000 in
theorem goes_any (r : Nat) (Q : Rq) (S : NS) (w : World) (h : RAt w r Q S) (hW : WF S) (h8 : S.keys.length ≤ 8) :
    Calls Try.prog 40 #[.pointer (some ⟨r, 0, none⟩)] w fun e w' => e = .returned (.tuple #[]) ∧ Postr r Q S w S.goes w' := by
  obtain ⟨A, c, hlv⟩ := h.lv
  have hc1 : w.cell? ⟨r, 1, none⟩ = some (.slice A S.keys.length c) := by rw [h.blk.cell 1, ← hlv]; rfl
  have HC1 := Lib.hid hc1
  have HH := Lib.hid h
  have HLV := Lib.hid hlv
  have HW := Lib.hid hW
  clear h hlv hc1 hW
  go_enter Try.func40, Try.ntmps40
  go_wp2
  go_loopw [2, 3] (fun v iv wr => ∃ k : Nat, k ≤ S.keys.length ∧ iv = .int .i64 k ∧ GoesR w wr Q S k v) (fun _ iv _ => S.keys.length - (intOf iv).toNat)
  case atStart => exact ⟨0, Nat.zero_le _, rfl, none, 0, rfl, World.ownsRow_nil _ _ _ _, Fr.refl _ _⟩
  case round =>
    obtain ⟨k, hk, rfl, hG⟩ := hrel
    obtain ⟨A', c', hv, hrow, hfr⟩ := hG
    have HG : Hid (GoesR w wr Q S k _) := Lib.hid ⟨A', c', hv, hrow, hfr⟩
    subst hv
    have HRow := Lib.hid hrow
    have HF := Lib.hid hfr
    have hc1 : wr.cell? ⟨r, 1, none⟩ = some (.slice A S.keys.length c) := by
      rw [(hfr.below).cell (p := ⟨r, 1, none⟩) HH.out.blk.lt]; exact HC1.out
    clear hrow hfr
    by_cases hlt : k < S.keys.length
    · have hA2 := HH.out.keep HF.out
      obtain ⟨g, cap, n, K, sh, e1, e2, hn, e3, hc, hb, hsh⟩ := hA2.at_ hlt
      rw [HLV.out] at e1
      cases e1
      have x0 : wr.cell? ⟨g, k, none⟩ = some (.pointer (some ⟨Q.rg n, 0, none⟩)) := hc
      have x1 : wr.cell? ⟨Q.rg n, 1, none⟩ = some (.string ⟨(K.wayL false).toArray⟩) := hb.cell 1
      have x2 : wr.cell? ⟨Q.rg n, 2, none⟩ = some (.string ⟨(K.wayL true).toArray⟩) := hb.cell 2
      have x3 : wr.cell? ⟨Q.rg n, 3, none⟩ = some (.string ⟨(K.thereL false).toArray⟩) := hb.cell 3
      have x4 : wr.cell? ⟨Q.rg n, 4, none⟩ = some (.string ⟨(K.thereL true).toArray⟩) := hb.cell 4
      have x5 : wr.cell? ⟨Q.rg n, 5, none⟩ = some (.bool (sh false)) := hb.cell 5
      have x6 : wr.cell? ⟨Q.rg n, 6, none⟩ = some (.bool (sh true)) := hb.cell 6
      have x7 : wr.cell? ⟨Q.rg n, 7, none⟩ = some (.bool (K.cut && K.told false)) := hb.cell 7
      have x8 : wr.cell? ⟨Q.rg n, 8, none⟩ = some (.bool (K.cut && K.told true)) := hb.cell 8
      have x9 : wr.cell? ⟨Q.rg n, 9, none⟩ = some (.bool K.cut) := hb.cell 9
      have hbig : ∀ s, (K.way s).bytes.length ≤ 65536 := fun s => (HW.out.way n K s e3).2
      have hwl : ∀ s, (K.wayL s).length ≤ 65536 := fun s => by have := hbig s; unfold LK.wayL; rw [List.length_drop]; omega
      have htl : ∀ s, (K.thereL s).length ≤ 65536 := fun s => by have := hbig s; unfold LK.thereL; rw [List.length_take]; omega
      have l1 := hwl false
      have l2 := hwl true
      have l3 := htl false
      have l4 := htl true
      obtain ⟨X1, hX1⟩ : ∃ X1, K.wayL false ++ K.wayL true = X1 := ⟨_, rfl⟩
      obtain ⟨X2, hX2⟩ : ∃ X2, X1 ++ K.thereL false = X2 := ⟨_, rfl⟩
      obtain ⟨L, hX3⟩ : ∃ L, X2 ++ K.thereL true = L := ⟨_, rfl⟩
      have hLL : K.allL = L := by rw [← hX3, ← hX2, ← hX1]; rfl
      have lX1 : X1.length = (K.wayL false).length + (K.wayL true).length := by rw [← hX1, List.length_append]
      have lX2 : X2.length = X1.length + (K.thereL false).length := by rw [← hX2, List.length_append]
      have hcat1 : ∀ w0, (Op.stringOp .add ⟨(K.wayL false).toArray⟩ ⟨(K.wayL true).toArray⟩).run Try.prog w0 = .ok (.string ⟨X1.toArray⟩) w0 := fun w0 => by
        rw [run_string_add_sum w0 _ _ (by simp [ByteArray.size]; omega), ByteArray.mk_append_mk, hX1]
      have hcat2 : ∀ w0, (Op.stringOp .add ⟨X1.toArray⟩ ⟨(K.thereL false).toArray⟩).run Try.prog w0 = .ok (.string ⟨X2.toArray⟩) w0 := fun w0 => by
        rw [run_string_add_sum w0 _ _ (by simp [ByteArray.size]; omega), ByteArray.mk_append_mk, hX2]
      have hcat3 : ∀ w0, (Op.stringOp .add ⟨X2.toArray⟩ ⟨(K.thereL true).toArray⟩).run Try.prog w0 = .ok (.string ⟨L.toArray⟩) w0 := fun w0 => by
        rw [run_string_add_sum w0 _ _ (by simp [ByteArray.size]; omega), ByteArray.mk_append_mk, hX3]
      have HLL := Lib.hid hLL
      clear hX1 hX2 hX3 lX1 lX2 hLL
      have HE2 := Lib.hid e2
      have HE3 := Lib.hid e3
      have HS := Lib.hid hsh
      clear hA2 hc hb hbig hwl htl l1 l2 l3 l4 e2 e3 hsh hn
      go_upto_region 5 with fail
      go_cut [5] (fun dv wy => dv = .bool (K.doneR sh) ∧ ∃ m, wy = wr.drewN m)
      case first =>
        cases h5 : sh false
        · rw [h5] at x5
          have ed : K.doneR sh = false := by unfold LK.doneR; rw [h5]; rfl
          have HD := Lib.hid ed
          clear h5 ed
          go_quiet (fail)
          go_wp2_with fail
          go_meet
          exact ⟨by rw [HD.out], _, rfl⟩
        · rw [h5] at x5
          cases h6 : sh true
          · rw [h6] at x6
            have ed : K.doneR sh = false := by unfold LK.doneR; rw [h5, h6]; rfl
            have HD := Lib.hid ed
            clear h5 h6 ed
            go_quiet (fail)
            go_wp2_with fail
            go_meet
            exact ⟨by rw [HD.out], _, rfl⟩
          · rw [h6] at x6
            have hL := HLL.out
            clear HLL
            cases L with
            | cons u us =>
              have ed : K.doneR sh = false := by unfold LK.doneR; rw [h5, h6, hL]; rfl
              have HD := Lib.hid ed
              clear h5 h6 ed hL
              go_quiet (fail)
              go_wp2_with fail
              go_meet
              exact ⟨by rw [HD.out], _, rfl⟩
            | nil =>
              have ed : K.doneR sh = true := by unfold LK.doneR; rw [h5, h6, hL]; rfl
              have HD := Lib.hid ed
              clear h5 h6 ed hL
              go_quiet (fail)
              go_wp2_with fail
              go_meet
              exact ⟨by rw [HD.out], _, rfl⟩
      case rest =>
        obtain ⟨rfl, m, rfl⟩ := hcut
        clear x1 x2 x3 x4 x5 x6 hcat1 hcat2 hcat3
        have HG2 := HG.out
        have y7 : (wr.drewN m).cell? ⟨Q.rg n, 7, none⟩ = some (.bool (K.cut && K.told false)) := x7
        have y8 : (wr.drewN m).cell? ⟨Q.rg n, 8, none⟩ = some (.bool (K.cut && K.told true)) := x8
        have y9 : (wr.drewN m).cell? ⟨Q.rg n, 9, none⟩ = some (.bool K.cut) := x9
        obtain ⟨i0, hi0, hz0, hz1, hz2⟩ := info_parts info39
        have hfl : ((S.keys.take k).filter S.alive).length ≤ 8 := by
          have := List.length_filter_le S.alive (S.keys.take k)
          rw [List.length_take] at this
          omega
        have hdead : K.gone = true → S.alive n = false := fun hg => by unfold NS.alive; rw [HE3.out]; simp [hg]
        have hlive : K.gone = false → S.alive n = true := fun hg => by unfold NS.alive; rw [HE3.out]; simp [hg]
        obtain ⟨wz, hwz⟩ : ∃ wz, wr.drewN m = wz := ⟨_, rfl⟩
        have HFz := Lib.hid (show Fr No w wz by rw [← hwz]; exact HF.out.drewN m)
        have HRz := Lib.hid (show wz.ownsRow w.heap.size 39 1 (.slice A' ((S.keys.take k).filter S.alive).length c') ((S.keys.take k).filter S.alive).length (((S.keys.take k).filter S.alive).map fun n => ptrV (Q.rg n)) by rw [← hwz]; exact own_of HRow.out fun _ _ => rfl)
        have HK := fun (ha : S.alive n = false) => Lib.hid (show GoesR w wz Q S (k + 1) _ by rw [← hwz]; exact HG2.kept HE2.out ha)
        rw [hwz] at y7 y8 y9 ⊢
        clear hwz x7 x8 x9 x0 HG2
        have A1' : ∀ j' u, [Value.pointer (some ⟨Q.rg n, 0, none⟩)][j']? = some u → (wz.alloc (.cells #[.pointer (some ⟨Q.rg n, 0, none⟩)] 39)).cell? ((⟨wz.heap.size, 0, none⟩ : Addr).add j') = some u := cell_one_new _ _ _
        have A2' : ∀ u ∈ [Value.pointer (some ⟨Q.rg n, 0, none⟩)], u.oneCell' = true := fun x hx => by simp at hx; subst hx; rfl
        have A3' : ((S.keys.take k).filter S.alive).length + 1 ≤ maxLen := by unfold maxLen; omega
        have A4' : w.heap.size ≤ (wz.alloc (.cells #[.pointer (some ⟨Q.rg n, 0, none⟩)] 39)).heap.size := by have := HFz.out.size; simp; omega
        have A5' := HRz.out.alloc (.cells #[.pointer (some ⟨Q.rg n, 0, none⟩)] 39)
        have B1' := Lib.hid A1'
        have B2' := Lib.hid A2'
        have B3' := Lib.hid A3'
        have B4' := Lib.hid A4'
        have B5' := Lib.hid A5'
        have HFL := Lib.hid hfl
        clear A1' A2' A3' A4' A5' hfl
        cases hcut : K.cut
        · rw [hcut] at y7 y8 y9
          simp only [Bool.false_and] at y7 y8
          have hdo := done_over hcut HS.out
          have hg : K.gone = K.over := by unfold LK.gone; rw [hcut]; rfl
          rw [hdo]
          cases hov : K.over
          · rw [hov] at hg
            have ha := hlive hg
            have HA := Lib.hid ha
            clear hdo hg hlive hdead hcut hov HK ha
            have ef : Fr No w (wz.alloc (.cells #[.pointer (some ⟨Q.rg n, 0, none⟩)] 39)) := HFz.out.alloc _
            have HEF := Lib.hid ef
            clear ef
            have hfl := HFL.out
            go_wp2_with (at_builtin; refine wpList_append_lies _ (by rfl) _ _ 27 (by rfl) w.heap.size 39 i0 _ 1 8 Try.underlying27 hi0 hz0 hz1 hz2 rfl (by omega) (.slice A' ((S.keys.take k).filter S.alive).length c') _ _ (by rfl) B5'.out ⟨wz.heap.size, 0, none⟩ 1 1 [.pointer (some ⟨Q.rg n, 0, none⟩)] (by rfl) (by rfl) B1'.out B2'.out (by omega) B3'.out (by omega) B4'.out _ rfl ?_; intro g' cap' w5 ho3 hg3 hat3 hl3)
            have hfr5 : Fr No w w5 := HEF.out.grown hg3 (fun k' hk' hlt => absurd ((HRz.out.lt k' hk').1) (by omega))
            refine ⟨⟨k + 1, by omega, by go_num, GoesR.more HE2.out HA.out hfr5 ho3⟩, by simp [intOf]; omega⟩
          · rw [hov] at hg
            have HK2 := HK (hdead hg)
            clear hdo hg hlive hdead hcut hov HK
            go_wp2
            refine ⟨⟨k + 1, by omega, by go_num, HK2.out⟩, by simp [intOf]; omega⟩
        · rw [hcut] at y7 y8 y9
          simp only [Bool.true_and] at y7 y8
          have hg : K.gone = (K.told false && K.told true) := by unfold LK.gone; rw [hcut]; rfl
          cases ht0 : K.told false
          · rw [ht0] at hg y7
            have ha := hlive hg
            have HA := Lib.hid ha
            clear hg hlive hdead hcut ht0 HK ha
            have ef : Fr No w (wz.alloc (.cells #[.pointer (some ⟨Q.rg n, 0, none⟩)] 39)) := HFz.out.alloc _
            have HEF := Lib.hid ef
            clear ef
            have hfl := HFL.out
            go_wp2_with (at_builtin; refine wpList_append_lies _ (by rfl) _ _ 27 (by rfl) w.heap.size 39 i0 _ 1 8 Try.underlying27 hi0 hz0 hz1 hz2 rfl (by omega) (.slice A' ((S.keys.take k).filter S.alive).length c') _ _ (by rfl) B5'.out ⟨wz.heap.size, 0, none⟩ 1 1 [.pointer (some ⟨Q.rg n, 0, none⟩)] (by rfl) (by rfl) B1'.out B2'.out (by omega) B3'.out (by omega) B4'.out _ rfl ?_; intro g' cap' w5 ho3 hg3 hat3 hl3)
            have hfr5 : Fr No w w5 := HEF.out.grown hg3 (fun k' hk' hlt => absurd ((HRz.out.lt k' hk').1) (by omega))
            refine ⟨⟨k + 1, by omega, by go_num, GoesR.more HE2.out HA.out hfr5 ho3⟩, by simp [intOf]; omega⟩
          · rw [ht0] at hg y7
            cases ht1 : K.told true
            · rw [ht1] at hg y8
              have ha := hlive hg
              have HA := Lib.hid ha
              clear hg hlive hdead hcut ht0 ht1 HK ha
              have ef : Fr No w (wz.alloc (.cells #[.pointer (some ⟨Q.rg n, 0, none⟩)] 39)) := HFz.out.alloc _
              have HEF := Lib.hid ef
              clear ef
              have hfl := HFL.out
              go_wp2_with (at_builtin; refine wpList_append_lies _ (by rfl) _ _ 27 (by rfl) w.heap.size 39 i0 _ 1 8 Try.underlying27 hi0 hz0 hz1 hz2 rfl (by omega) (.slice A' ((S.keys.take k).filter S.alive).length c') _ _ (by rfl) B5'.out ⟨wz.heap.size, 0, none⟩ 1 1 [.pointer (some ⟨Q.rg n, 0, none⟩)] (by rfl) (by rfl) B1'.out B2'.out (by omega) B3'.out (by omega) B4'.out _ rfl ?_; intro g' cap' w5 ho3 hg3 hat3 hl3)
              have hfr5 : Fr No w w5 := HEF.out.grown hg3 (fun k' hk' hlt => absurd ((HRz.out.lt k' hk').1) (by omega))
              refine ⟨⟨k + 1, by omega, by go_num, GoesR.more HE2.out HA.out hfr5 ho3⟩, by simp [intOf]; omega⟩
            · rw [ht1] at hg y8
              have HK2 := HK (hdead hg)
              clear hg hlive hdead hcut ht0 ht1 HK
              go_wp2
              refine ⟨⟨k + 1, by omega, by go_num, HK2.out⟩, by simp [intOf]; omega⟩
    · have ek : k = S.keys.length := by omega
      subst ek
      rw [List.take_length] at HRow
      have HE := Lib.hid (goes_end HH.out HF.out HRow.out)
      have hfz : wr.frozen? ⟨r, 1, none⟩ = false := (HH.out.keep HF.out).blk.frozen 1
      clear HG
      go_wp2
      go_end0
      exact ⟨rfl, HE.out⟩

end Go.Proofs.Ythcpdeffgdaieaa
