/- Scan's closure, walked. -/
import Derived.Test.YtmaeejojmbibnaaH5
namespace Go.Proofs.Ytmaeejojmbibnaa
open Go.RowKit Go.Maps
set_option linter.unusedVariables false
def jn (n : Nat) (a b : Nat → Nat → Value) (i d : Nat) : Value := if i < n then a i d else b (i - n) d
section
variable (s : Nat) (Q : SRp) (S : FS) (B : List (List FactP)) (w : World)
attribute [local go_sem ↓] Go.wp_at_zero Go.wp_at_succ
set_option maxRecDepth 100000 in
set_option maxHeartbeats 8000000 in
theorem scan1_any (h : SAt w s Q S) (hW : FW S B []) (h0 bl bs n : Nat) (lv : Value) (TC MC : Nat → Nat → Value) (hbl : Blk w bl 32 #[lv]) (hbs : Blk w bs 24 #[.pointer (some ⟨s, 0, none⟩)])
    (hT : Told h0 w lv n S.K S.M TC MC) (hh0 : h0 ≤ w.heap.size) (hn64 : n ≤ 100000) (g lo hi : Nat) (hg : g < S.G) (hlh : lo < hi) (hh : hi ≤ 256) (hn : g * 256 + hi ≤ S.n) :
    Calls Try.prog 39 #[.agg #[.slice (some ⟨Q.sa g, 0, none⟩) S.K S.K, .slice (some ⟨Q.sb g, 0, none⟩) S.M S.M], .int .i64 lo, .int .i64 hi, .pointer (some ⟨bl, 0, none⟩), .pointer (some ⟨bs, 0, none⟩)] w fun e w' =>
      e = .returned (.tuple #[]) ∧ ∃ lv', Blk w' bl 32 #[lv'] ∧ Told h0 w' lv' (n + (hi - lo)) S.K S.M (jn n TC (TT S (g * 256 + lo))) (jn n MC (MT S (g * 256 + lo))) ∧ Fr (fun k => k = bl ∨ lv.ownBlock = some k) w w' := by
  obtain ⟨w1, hw1⟩ : ∃ w1, w.alloc (.cells #[.slice (some ⟨Q.sa g, 0, none⟩) S.K S.K, .slice (some ⟨Q.sb g, 0, none⟩) S.M S.M] 74) = w1 := ⟨_, rfl⟩
  obtain ⟨y, hy⟩ : ∃ y, w.heap.size = y := ⟨_, rfl⟩
  have f1 : Fr No w w1 := by rw [← hw1]; exact (Fr.refl _ w).alloc _
  have hby : Blk w1 y 74 #[.slice (some ⟨Q.sa g, 0, none⟩) S.K S.K, .slice (some ⟨Q.sb g, 0, none⟩) S.M S.M] := by rw [← hw1, ← hy]; exact Blk.new w 74 _
  have hT1 := hT.keep f1
  have hbl1 := hbl.of (f1.block bl hbl.lt id)
  have HC : Hid (∀ wx, Fr No w1 wx → wx.cell? ⟨bl, 0, none⟩ = some lv ∧ wx.cell? ⟨bs, 0, none⟩ = some (.pointer (some ⟨s, 0, none⟩)) ∧ wx.cell? ⟨y, 0, none⟩ = some (.slice (some ⟨Q.sa g, 0, none⟩) S.K S.K) ∧ wx.cell? ⟨y, 1, none⟩ = some (.slice (some ⟨Q.sb g, 0, none⟩) S.M S.M)) := Lib.hid fun wx fx =>
    ⟨(hbl1.of (fx.block bl hbl1.lt id)).cell 0, ((hbs.of (f1.block bs hbs.lt id)).of (fx.block bs (Nat.lt_of_lt_of_le hbs.lt f1.size) id)).cell 0, (hby.of (fx.block y hby.lt id)).cell 0, (hby.of (fx.block y hby.lt id)).cell 1⟩
  obtain ⟨n2, hn2⟩ : ∃ n2, hi - lo = n2 := ⟨_, rfl⟩
  have HR : Hid (∀ wx, Fr No w1 wx → Calls Try.prog 40 #[.pointer (some ⟨s, 0, none⟩), .agg #[.slice (some ⟨Q.sa g, 0, none⟩) S.K S.K, .slice (some ⟨Q.sb g, 0, none⟩) S.M S.M], .int .i64 lo, .int .i64 hi] wx fun e w' =>
      ∃ b, e = .returned (.slice (some ⟨b, 0, none⟩) n2 n2) ∧ Mk wx b n2 n2 S.K S.M (TT S (g * 256 + lo)) (MT S (g * 256 + lo)) w') := Lib.hid fun wx fx => by
    rw [← hn2]
    exact rows_any s Q S B wx (h.keep (f1.trans fx fun _ _ h => h)) hW g lo hi hg hlh hh hn
  have hsb : bl ≠ y := by have := hbl.lt; omega
  have HT1 := Lib.hid hT1
  have HBL := Lib.hid hbl1
  have hn2l : n2 ≤ 256 := by omega
  have hn20 : 0 < n2 := by omega
  have HF1 := Lib.hid f1
  have HW1 := Lib.hid hw1
  have HY := Lib.hid hy
  have hh1 : h0 ≤ w1.heap.size := by have := f1.size; omega
  have HH1 := Lib.hid hh1
  have hbl0 : bl < w.heap.size := hbl.lt
  have HBL0 := Lib.hid hbl0
  have HLV : Hid (∀ k, lv.ownBlock = some k → k < w.heap.size) := Lib.hid fun k hk => by
    obtain ⟨da, ma, h1, h2⟩ := hT
    exact (h1.lt k hk).2
  obtain ⟨Al, cl, rfl⟩ : ∃ A c, lv = .slice A n c := by
    obtain ⟨da, ma, h1, h2⟩ := hT
    exact own_form h1
  rw [hn2]
  obtain ⟨i0, hi0, hz0, hz1, hz2⟩ := info_parts info51
  have HF0 : Hid (Fr No w1 w1.drew) := Lib.hid (Fr.refl No w1).drew
  have HGR : Hid (∀ wx w3, Fr No w1 wx → wx.grownBy w3 (Value.slice Al n cl).ownBlock → Blk w3 bl 32 #[.slice Al n cl]) := Lib.hid fun wx w3 fx hg => by
    have hb := HBL.out.of (fx.block bl HBL.out.lt id)
    have hne : (Value.slice Al n cl).ownBlock ≠ some bl := fun e => by
      obtain ⟨da, ma, h1, h2⟩ := HT1.out.keep fx
      obtain ⟨cur, hc⟩ := own_row h1 e
      exact Blk.ne_ (t := 51) hc hb (by decide) rfl
    exact hb.of (hg.block bl hb.lt fun e => hne e.symm)
  have kk := HC.out _ HF0.out
  have kk0 := kk.1
  have kk1 := kk.2.1
  have kk2 := kk.2.2.1
  have kk3 := kk.2.2.2
  clear kk
  clear h hW hbl hbs hT hh0 hg hlh hh hn hw1 hy f1 hby hT1 hbl1 hn2 hh1 hbl0
  generalize Q.sa g = sa at *
  generalize Q.sb g = sb at *
  generalize S.K = K at *
  generalize S.M = M at *
  generalize TT S (g * 256 + lo) = TC2 at *
  generalize MT S (g * 256 + lo) = MC2 at *
  go_enter Try.func39, Try.ntmps39
  go_upto_region 1 with fail
  rw [HW1.out, HY.out]
  go_region_law
    (first
      | (go_simp; go_at_call 40; (with_reducible refine (HR.out _ HF0.out).mono ?_); rintro e wa ⟨b, rfl, hm⟩; have HF2 : Hid (Fr No w1 wa) := Lib.hid (by obtain ⟨_, _, _, _, _, h4⟩ := hm; exact HF0.out.trans h4 fun _ _ h => h); obtain ⟨cs, b1, xs, l1, l2, ho, hnx⟩ := Told.with (HT1.out.keep HF0.out) hm (Nat.le_trans HH1.out HF0.out.size); have HB1 := Lib.hid b1; have HL1 := Lib.hid l1; have HL2 := Lib.hid l2; have HO := Lib.hid ho; have HNX := Lib.hid hnx; have cc0 := (HC.out _ HF2.out).1; have cc1 := (HC.out _ HF2.out).2.1; have cc2 := (HC.out _ HF2.out).2.2.1; have cc3 := (HC.out _ HF2.out).2.2.2; have HBS : Hid (h0 ≤ wa.heap.size) := Lib.hid (Nat.le_trans HH1.out HF2.out.size); clear hm b1 l1 l2 ho hnx)
      | (refine step_append_lies _ (by rfl) _ _ _ (by rfl) h0 51 i0 _ 2 48 Try.underlying32 hi0 hz0 hz1 hz2 rfl (by omega) (.slice Al n cl) _ _ (by rfl) HO.out ⟨b, 0, none⟩ n2 n2 cs.toList (by rfl) HL1.out (World.news_of_block (cs := cs) (t := 51) (fr := (0, 0)) HB1.out) HL2.out (by omega) (by unfold maxLen; omega) (by omega) HBS.out _ rfl ?_; intro g' cap w3 hown3 hgrow hat hlt; have HD := Lib.hid (HGR.out _ _ HF2.out hgrow); have d0 := HD.out.cell 0; have dz := HD.out.frozen 0; have HTD := Lib.hid (HNX.out w3 _ hgrow hown3); have HFR := Lib.hid ((HF1.out.trans HF2.out fun _ _ h => h).any.grown (F := fun k => k = bl ∨ (Value.slice Al n cl).ownBlock = some k) hgrow fun k hk _ => .inr hk); clear hgrow hown3 hat))
  all_goals (go_simp; go_wp2_with fail)
  all_goals go_end0
  all_goals exact ⟨rfl, _, HD.out.set_ 0 _, HTD.out.off HD.out (by decide) (by decide) (by decide) (Fr.set0 bl w3 0 _), HFR.out.trans (Fr.set0 bl w3 0 _) fun k _ e => .inl e⟩
end
end Go.Proofs.Ytmaeejojmbibnaa
