/- New, walked. -/
import Derived.Test.YtmaeejojmbibnaaG7
import Derived.Test.YtmaeejojmbibnaaH7
namespace Go.Proofs.Ytmaeejojmbibnaa
open Go.RowKit Go.Maps
set_option linter.unusedVariables false

def FS.zero (K M : Nat) : FS := ⟨K, M, fun _ => [], fun _ _ => 0, fun _ _ => 0, 0, 0, [0]⟩
theorem FW.zero {K M : Nat} (hK : 1 ≤ K ∧ K ≤ 6) (hM : 1 ≤ M ∧ M ≤ 4) : FW (.zero K M) [] [] where
  k := hK
  m := hM
  dn := fun d hd => by simp [FS.zero]
  cb := fun d hd p hp => absurd hp (Nat.not_lt_zero _)
  cz := fun d p hp => rfl
  mz := fun d p hp => rfl
  mi := fun m p => by unfold i64 FS.zero; simp
  g := by show 0 = (0 + 255) / 256; omega
  e := by simp [FS.zero, endsOf]
  f := rfl
  v := fun d hd => rfl
  b := by simp
  bn := by simp [FS.zero]
/-- The store while New makes it: all its blocks are new. -/
def Nw (w : World) (s k M : Nat) (w' : World) : Prop := ∃ Q, SAt w' s Q (.zero k M) ∧ Fr No w w' ∧ ∀ b, sfoot s Q (.zero k M) b → w.heap.size ≤ b
theorem nw_start (w : World) (M : Nat) : Nw w (w.heap.size + 1) 0 M ((w.alloc (.cells #[.int .i64 0] 3)).alloc (.cells #[.slice none 0 0, .int .i64 M, .slice none 0 0, .slice (some ⟨w.heap.size, 0, none⟩) 1 1] 60)) := by
  obtain ⟨b1, b2, f⟩ := blk2 w #[.int .i64 0] #[.slice none 0 0, .int .i64 M, .slice none 0 0, .slice (some ⟨w.heap.size, 0, none⟩) 1 1] 3 60
  refine ⟨⟨.slice none 0 0, .slice none 0 0, .slice (some ⟨w.heap.size, 0, none⟩) 1 1, fun _ => 0, fun _ => .new, fun _ => 0, fun _ => 0⟩, {
    blk := b2
    dicts := ⟨rfl, .inl ⟨rfl, rfl⟩⟩
    dict := fun d hd => absurd hd (Nat.not_lt_zero _)
    dap := fun d e hd => absurd hd (Nat.not_lt_zero _)
    segs := ⟨rfl, .inl ⟨rfl, rfl⟩⟩
    sega := fun d hd => absurd hd (Nat.not_lt_zero _)
    segb := fun d hd => absurd hd (Nat.not_lt_zero _)
    saa := fun d e hd => absurd hd (Nat.not_lt_zero _)
    sbb := fun d e hd => absurd hd (Nat.not_lt_zero _)
    ends := ⟨rfl, .inr ⟨w.heap.size, 1, _, rfl, Nat.zero_le _, b1, by simp [FS.zero], by simp [maxLen], by simp, by simp [FS.zero, encN]⟩⟩
    eap := fun d hd => absurd hd (Nat.not_lt_zero _) }, f, fun b hb => ?_⟩
  rcases hb with rfl | hb | hb | hb | ⟨i, hi, _⟩ | ⟨i, hi, _⟩
  · omega
  · simp [Value.ownBlock] at hb
  · simp [Value.ownBlock] at hb
  · have e : w.heap.size = b := by simpa [Value.ownBlock] using hb
    omega
  · exact absurd hi (Nat.not_lt_zero _)
  · exact absurd hi (Nat.not_lt_zero _)
theorem ptrs_more (Q : SRp) (k d : Nat) (R : Rp) : ptrs { Q with ds := fun e => if e = k then d else Q.ds e, rp := fun e => if e = k then R else Q.rp e } (k + 1) = ptrs Q k ++ [.pointer (some ⟨d, 0, none⟩)] := by
  unfold ptrs
  rw [List.range_succ, List.map_append]
  simp only [List.map_cons, List.map_nil, if_pos]
  congr 1
  refine List.map_congr_left fun e he => ?_
  have : e < k := by simpa using he
  rw [if_neg (by omega)]
theorem nw_more {w0 w wa wb w3 : World} {s k M d g cap : Nat} {Q : SRp} {R : Rp} (h : SAt w s Q (.zero k M)) (hf : Fr No w0 w) (hlo : ∀ b, sfoot s Q (.zero k M) b → w0.heap.size ≤ b)
    (ha : At wa d R .new) (hl : ∀ b, foot d R b → w.heap.size ≤ b) (fa : Fr No w wa) (fb : Fr No wa wb) (hg : wb.grownBy w3 Q.dv.ownBlock)
    (ho : w3.ownsRow 0 65 1 (.slice (some ⟨g, 0, none⟩) (k + 1) cap) (k + 1) (ptrs Q k ++ [.pointer (some ⟨d, 0, none⟩)])) (hat : Q.dv.ownBlock = some g ∨ g = wb.heap.size) :
    Nw w0 s (k + 1) M (w3.setCell ⟨s, 0, none⟩ (.slice (some ⟨g, 0, none⟩) (k + 1) cap)) := by
  obtain ⟨wf, hwf⟩ : ∃ wf, w3.setCell ⟨s, 0, none⟩ (.slice (some ⟨g, 0, none⟩) (k + 1) cap) = wf := ⟨_, rfl⟩
  rw [hwf]
  have fab : Fr No w wb := fa.trans fb fun _ _ h => h
  have f3 : Fr (fun b => Q.dv.ownBlock = some b) w w3 := (fab.any).grown hg fun b hb _ => hb
  have fb3 : Fr (fun b => Q.dv.ownBlock = some b) wb w3 := (Fr.refl _ wb).grown hg fun b hb _ => hb
  have hs := h.blk.lt
  have hds : Q.dv.ownBlock ≠ some s := fun e => own_blk_ne h.dicts e h.blk (by decide) rfl
  have hB3 : Blk w3 s 60 (scells Q (.zero k M)) := h.blk.of (f3.block s hs hds)
  have hgs3 : g ≠ s := own_blk_ne ho rfl hB3 (by decide)
  have f4 : Fr (One s) w3 wf := by rw [← hwf]; exact Fr.set0 s w3 0 _
  have keep : ∀ b, b < w.heap.size → b ≠ s → Q.dv.ownBlock ≠ some b → wf.heap[b]? = w.heap[b]? := fun b hb h1 h2 => (f4.block b (Nat.lt_of_lt_of_le hb f3.size) h1).trans (f3.block b hb h2)
  have hdl : ∀ b, Q.dv.ownBlock = some b → b < w.heap.size := fun b hb => (h.dicts.lt b hb).2
  have hda : At wf d R (.of []) := by
    refine ha.of fun b hb => ?_
    have h1 := hl b hb
    have h2 := ha.lt b hb
    have h3 : b ≠ s := by omega
    have h4 : Q.dv.ownBlock ≠ some b := fun e => by have := hdl b e; omega
    exact ((f4.block b (Nat.lt_of_lt_of_le h2 (Nat.le_trans fb.size fb3.size)) h3).trans (fb3.block b (Nat.lt_of_lt_of_le h2 fb.size) h4)).trans (fb.block b h2 id)
  have hfr0 : Fr No w0 wf := (hf.trans f3 fun b hb e => by have := hlo b (.inr (.inl e)); omega).trans f4 fun b hb e => by
    have e' : b = s := e
    have := hlo s (.inl rfl)
    omega
  refine ⟨{ Q with dv := .slice (some ⟨g, 0, none⟩) (k + 1) cap, ds := fun e => if e = k then d else Q.ds e, rp := fun e => if e = k then R else Q.rp e }, {
    blk := ?_
    dicts := ?_
    dict := fun e he => ?_
    dap := fun e1 e2 h1 h2 hne b hb1 hb2 => ?_
    segs := own_of h.segs fun b hb => keep b (h.segs.lt b hb).2 (own_blk_ne h.segs hb h.blk (by decide)) (fun e => own_own_ne h.segs hb h.dicts e (by decide) rfl)
    sega := fun i hi => absurd hi (Nat.not_lt_zero _)
    segb := fun i hi => absurd hi (Nat.not_lt_zero _)
    saa := fun i j hi => absurd hi (Nat.not_lt_zero _)
    sbb := fun i j hi => absurd hi (Nat.not_lt_zero _)
    ends := own_of h.ends fun b hb => keep b (h.ends.lt b hb).2 (own_blk_ne h.ends hb h.blk (by decide)) (fun e => own_own_ne h.ends hb h.dicts e (by decide) rfl)
    eap := fun e he b hb hf => ?_ }, hfr0, fun b hb => ?_⟩
  · rw [← hwf]
    exact hB3.set_ 0 (.slice (some ⟨g, 0, none⟩) (k + 1) cap)
  · show wf.ownsRow 0 65 1 (.slice (some ⟨g, 0, none⟩) (k + 1) cap) (k + 1) (ptrs _ (k + 1))
    have hp := ptrs_more Q k d R
    have hp2 : ptrs { Q with dv := .slice (some ⟨g, 0, none⟩) (k + 1) cap, ds := fun e => if e = k then d else Q.ds e, rp := fun e => if e = k then R else Q.rp e } (k + 1) = ptrs Q k ++ [.pointer (some ⟨d, 0, none⟩)] := hp
    rw [hp2]
    exact own_of ho fun b hb => by
      have : g = b := by simpa [Value.ownBlock] using hb
      subst this
      exact f4.block _ (ho.lt g rfl).2 hgs3
  · show At wf (if e = k then d else Q.ds e) (if e = k then R else Q.rp e) (.of [])
    by_cases e1 : e = k
    · rw [if_pos e1, if_pos e1]; exact hda
    · rw [if_neg e1, if_neg e1]
      have he' : e < k := by have : e < k + 1 := he; omega
      have hd : At w (Q.ds e) (Q.rp e) (.of []) := h.dict e he'
      exact hd.of fun b hb => keep b (hd.lt b hb) (h.apart he' hb).1 (h.apart he' hb).2.1
  · have hb1' : foot (if e1 = k then d else Q.ds e1) (if e1 = k then R else Q.rp e1) b := hb1
    have hb2' : foot (if e2 = k then d else Q.ds e2) (if e2 = k then R else Q.rp e2) b := hb2
    have h1' : e1 < k + 1 := h1
    have h2' : e2 < k + 1 := h2
    by_cases x1 : e1 = k
    · rw [if_pos x1, if_pos x1] at hb1'
      rw [if_neg (by omega), if_neg (by omega)] at hb2'
      have := hl b hb1'
      have := (h.dict e2 (by show e2 < k; omega)).lt b hb2'
      omega
    · rw [if_neg x1, if_neg x1] at hb1'
      by_cases x2 : e2 = k
      · rw [if_pos x2, if_pos x2] at hb2'
        have := hl b hb2'
        have := (h.dict e1 (by show e1 < k; omega)).lt b hb1'
        omega
      · rw [if_neg x2, if_neg x2] at hb2'
        exact h.dap e1 e2 (by show e1 < k; omega) (by show e2 < k; omega) hne b hb1' hb2'
  · have hf' : foot (if e = k then d else Q.ds e) (if e = k then R else Q.rp e) b := hf
    have he' : e < k + 1 := he
    by_cases x : e = k
    · rw [if_pos x, if_pos x] at hf'
      have := hl b hf'
      have := (h.ends.lt b hb).2
      omega
    · rw [if_neg x, if_neg x] at hf'
      exact h.eap e (by show e < k; omega) b hb hf'
  · rcases hb with hb | hb | hb | hb | ⟨i, hi, _⟩ | ⟨e, he, hb⟩
    · exact hlo b (.inl hb)
    · have e : g = b := by simpa [Value.ownBlock] using hb
      subst e
      rcases hat with hat | hat
      · exact hlo g (.inr (.inl hat))
      · have h1 := hf.size; have h2 := fab.size; omega
    · exact hlo b (.inr (.inr (.inl hb)))
    · exact hlo b (.inr (.inr (.inr (.inl hb))))
    · exact absurd hi (Nat.not_lt_zero _)
    · have hb' : foot (if e = k then d else Q.ds e) (if e = k then R else Q.rp e) b := hb
      have he' : e < k + 1 := he
      by_cases x : e = k
      · rw [if_pos x, if_pos x] at hb'
        have := hl b hb'
        have := hf.size
        omega
      · rw [if_neg x, if_neg x] at hb'
        exact hlo b (.inr (.inr (.inr (.inr (.inr ⟨e, by show e < k; omega, hb'⟩)))))

theorem info65 : (Try.prog.info? 65).map (fun i => (i.zero, i.size, i.bytes)) = some (some (.pointer none), 1, 8) := by kernel_rfl
def NewP (K M : Nat) (w : World) (e : Ending) (w' : World) : Prop := ∃ s, e = .returned (.tuple #[.pointer (some ⟨s, 0, none⟩), .int .i64 0]) ∧ Nw w s K M w'
theorem snew_no (dims meas : Int) (w : World) (h : dims < 1 ∨ 6 < dims ∨ meas < 1 ∨ 4 < meas) : Calls Try.prog 10 #[.int .i64 dims, .int .i64 meas] w fun e w' => e = .returned (.tuple #[.pointer none, .int .i64 1]) ∧ w = w' := by
  obtain ⟨b, hb⟩ : ∃ b : Bool, (((decide (dims < 1) || decide (6 < dims)) || decide (meas < 1)) || decide (4 < meas)) = b := ⟨_, rfl⟩
  have hbt : b = true := by
    rw [← hb]
    simp only [Bool.or_eq_true, decide_eq_true_eq]
    omega
  by_cases h1 : dims < 1
  · clear h hb
    go_enter Try.func10, Try.ntmps10
    go_wp2
    go_ret2
    exact ⟨rfl, rfl⟩
  · by_cases h2 : 6 < dims
    · have h1' : 1 ≤ dims := by omega
      clear h hb h1
      go_enter Try.func10, Try.ntmps10
      go_wp2
      go_ret2
      exact ⟨rfl, rfl⟩
    · by_cases h3 : meas < 1
      · have h1' : 1 ≤ dims := by omega
        have h2' : dims ≤ 6 := by omega
        clear h hb h1 h2
        go_enter Try.func10, Try.ntmps10
        go_wp2
        go_ret2
        exact ⟨rfl, rfl⟩
      · have h1' : 1 ≤ dims := by omega
        have h2' : dims ≤ 6 := by omega
        have h3' : 1 ≤ meas := by omega
        have h4' : 4 < meas := by omega
        clear h hb h1 h2 h3
        go_enter Try.func10, Try.ntmps10
        go_wp2
        go_ret2
        exact ⟨rfl, rfl⟩
section
attribute [local go_sem ↓] Go.wp_at_zero Go.wp_at_succ
set_option maxRecDepth 100000 in
set_option maxHeartbeats 8000000 in
theorem snew_any (K M : Nat) (hK : 1 ≤ K ∧ K ≤ 6) (hM : 1 ≤ M ∧ M ≤ 4) (w : World) : Calls Try.prog 10 #[.int .i64 K, .int .i64 M] w (NewP K M w) := by
  have hst := nw_start w M
  obtain ⟨r, hr⟩ : ∃ r, w.heap.size = r := ⟨_, rfl⟩
  rw [hr] at hst
  obtain ⟨s, hs⟩ : ∃ s, r + 1 = s := ⟨_, rfl⟩
  rw [hs] at hst
  obtain ⟨w1, hw1⟩ : ∃ w1, (w.alloc (.cells #[.int .i64 0] 3)).alloc (.cells #[.slice none 0 0, .int .i64 M, .slice none 0 0, .slice (some ⟨r, 0, none⟩) 1 1] 60) = w1 := ⟨_, rfl⟩
  rw [hw1] at hst
  have HST := Lib.hid hst
  obtain ⟨i0, hi0, hz0, hz1, hz2⟩ := info_parts info65
  have HW1 := Lib.hid hw1
  have HS := Lib.hid hs
  have HR := Lib.hid hr
  have hK1 : ¬ ((K : Int) < 1) := by omega
  have hK2 : ¬ (6 < (K : Int)) := by omega
  have hM1 : ¬ ((M : Int) < 1) := by omega
  have hM2 : ¬ (4 < (M : Int)) := by omega
  clear hst hs hr hw1
  go_enter Try.func10, Try.ntmps10
  go_upto_region 4 with fail
  rw [HR.out, HS.out, HW1.out]
  clear hK1 hK2 hM1 hM2
  go_wp2
  go_loopw [26] (fun kv wr => ∃ k : Nat, k ≤ K ∧ kv = .int .i64 k ∧ Hid (Nw w s k M wr)) (fun kv _ => K - (intOf kv).toNat)
  case atStart => exact ⟨0, by omega, rfl, HST⟩
  case round =>
    obtain ⟨k, hk, rfl, HI⟩ := hrel
    by_cases hlt : k < K
    · obtain ⟨Q, h, hf, hlo⟩ := HI.out
      obtain ⟨Ad, cd, ed⟩ := h.dform
      have ed' : Q.dv = .slice Ad k cd := ed
      have HCE : Hid (∀ wx, Fr No wr wx → wx.cell? ⟨s, 0, none⟩ = some (.slice Ad k cd) ∧ wx.ownsRow 0 65 1 (.slice Ad k cd) k (ptrs Q k)) := Lib.hid fun wx fx => by
        have h1 := (h.keep fx).cells.1
        have h2 := (h.keep fx).dicts
        rw [ed'] at h1 h2
        exact ⟨h1, h2⟩
      have HNW : Hid (∀ wx, Fr No wr wx → Calls Try.prog 29 #[] wx fun e w' => ∃ d R, e = .returned (.pointer (some ⟨d, 0, none⟩)) ∧ At w' d R .new ∧ Fr No wr w' ∧ ∀ b, foot d R b → wr.heap.size ≤ b) := Lib.hid fun wx fx => by
        refine (new_any wx).mono ?_
        rintro e w' ⟨R, he, ha, hf', hl⟩
        exact ⟨_, R, he, ha, fx.trans hf' fun _ _ h => h, fun b hb => Nat.le_trans fx.size (hl b hb)⟩
      have HGR : Hid (∀ wx w3, Fr No wr wx → wx.grownBy w3 (Value.slice Ad k cd).ownBlock → w3.cell? ⟨s, 0, none⟩ = some (.slice Ad k cd) ∧ w3.frozen? ⟨s, 0, none⟩ = false) := Lib.hid fun wx w3 fx hg => by
        have hb := (h.keep fx).blk
        have hgs : Q.dv.ownBlock ≠ some s := fun e => own_blk_ne (h.keep fx).dicts e hb (by decide) rfl
        rw [ed'] at hgs
        have hb3 : Blk w3 s 60 (scells Q (.zero k M)) := hb.of (hg.block s hb.lt fun e => hgs e.symm)
        have x0 := hb3.cell 0
        unfold scells at x0
        rw [ed'] at x0
        exact ⟨x0, hb3.frozen 0⟩
      have HEND : Hid (∀ d R wa w3 g cap, At wa d R .new → Fr No wr wa → (∀ b, foot d R b → wr.heap.size ≤ b) → ∀ o, (wa.alloc o).grownBy w3 (Value.slice Ad k cd).ownBlock → w3.ownsRow 0 65 1 (.slice (some ⟨g, 0, none⟩) (k + 1) cap) (k + 1) (ptrs Q k ++ [.pointer (some ⟨d, 0, none⟩)]) → ((Value.slice Ad k cd).ownBlock = some g ∨ g = wa.heap.size + 1) → Nw w s (k + 1) M (w3.setCell ⟨s, 0, none⟩ (.slice (some ⟨g, 0, none⟩) (k + 1) cap))) := Lib.hid fun d R wa w3 g cap ha fa hl o hg ho hat => by
        refine nw_more h hf hlo ha hl fa ((Fr.refl No wa).alloc o) (by rw [ed']; exact hg) ho ?_
        rw [ed']
        simpa using hat
      have HF0 : Hid (Fr No wr wr.drew) := Lib.hid (Fr.refl _ _).drew
      have k0 := (HCE.out _ HF0.out).1
      clear h hf hlo ed ed'
      go_upto_region 6 with fail
      go_region_law
        (first
          | (go_simp; go_at_call 29; (with_reducible refine (HNW.out _ HF0.out).mono ?_); rintro e wa ⟨d, R, rfl, ha, fa, hl⟩; have HA := Lib.hid ha; have HFA := Lib.hid fa; have HL := Lib.hid hl; have c0 := (HCE.out _ fa).1; have c1 : ∀ o, (wa.alloc o).cell? ⟨s, 0, none⟩ = some (.slice Ad k cd) := fun o => (HCE.out _ (HFA.out.alloc o)).1; clear ha fa hl)
          | (refine step_append_lies _ (by rfl) _ _ _ (by rfl) 0 65 i0 _ 1 8 Try.underlying56 hi0 hz0 hz1 hz2 rfl (by omega) (.slice Ad k cd) _ _ (by rfl) (HCE.out _ (HFA.out.alloc _)).2 ⟨wa.heap.size, 0, none⟩ 1 1 [.pointer (some ⟨d, 0, none⟩)] (by rfl) (by rfl) (World.news_of_block (cs := #[.pointer (some ⟨d, 0, none⟩)]) (t := 65) (fr := (0, 0)) (heap_alloc_new wa _)) (by simp [Value.oneCell']) (by omega) (by unfold maxLen; omega) (by omega) (by simp) (wa.heap.size + 1) (by simp) ?_; intro g cap w3 hown3 hgrow hat hlt; have d0 := (HGR.out _ _ (HFA.out.alloc _) hgrow).1; have dz := (HGR.out _ _ (HFA.out.alloc _) hgrow).2; have HX := Lib.hid (HEND.out d R wa w3 g cap HA.out HFA.out HL.out _ hgrow hown3 hat); clear hgrow hown3 hat))
      all_goals (go_simp; go_wp2_with fail)
      all_goals go_roundw
      all_goals first
        | exact ⟨k + 1, by omega, by go_num, HX⟩
        | (simp [intOf]; omega)
    · obtain rfl : k = K := by omega
      go_wp2
      go_ret2
      exact ⟨s, rfl, HI.out⟩
end
end Go.Proofs.Ytmaeejojmbibnaa
