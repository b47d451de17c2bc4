/- lay: a fact at the next place. -/
import Derived.Test.YtmaeejojmbibnaaF9
import Derived.Deep.RegionHeld3
import Derived.BigRegion
namespace Go.Proofs.Ytmaeejojmbibnaa
open Go.RowKit Go.Maps
set_option linter.unusedVariables false

/-- X, and one block more. -/
def Ad (X : Nat → Prop) (b : Nat) : Nat → Prop := fun k => X k ∨ k = b
theorem SX.ad {w w' : World} {X : Nat → Prop} {s : Nat} {Q : SRp} {S : FS} (h : SX w X s Q S) (hf : Fr No w w') {b : Nat} (h1 : w.heap.size ≤ b) (h2 : b < w'.heap.size) : SX w' (Ad X b) s Q S :=
  h.more hf fun k hk => hk.imp id fun e => by subst e; exact ⟨h1, h2⟩
theorem nx_ad {X : Nat → Prop} {b : Nat} {w w' : World} (h : Fr (NX (Ad X b)) w w') : Fr (NX X) w w' := h.mono fun k _ hk hx => hk (.inl hx)
theorem Fr.nxt {X : Nat → Prop} {a b c : World} (h : Fr (NX X) a b) (k : Fr (NX X) b c) : Fr (NX X) a c := h.trans k fun _ _ h => h
theorem start_le {S : FS} {B : List (List FactP)} {l : List FactP} (h : FW S B l) : S.n / 256 < S.start.G := by
  have hg := h.g
  unfold FS.start FS.seg
  by_cases e : S.n % 256 = 0
  · rw [if_pos e]; show _ < S.G + 1; omega
  · rw [if_neg e]; omega
theorem alloc3 (w : World) (A B C : Obj) : (((w.alloc A).alloc B).alloc C).drew.heap[w.heap.size + 1 + 1]? = some C := by
  have h := heap_alloc_new ((w.alloc A).alloc B) C
  have e : ((w.alloc A).alloc B).heap.size = w.heap.size + 1 + 1 := by simp
  rw [e] at h
  exact h
theorem blk3 (w : World) (A B C : Array Value) (t1 t2 t3 : TypeId) : Blk (((w.alloc (.cells A t1)).alloc (.cells B t2)).alloc (.cells C t3)).drew w.heap.size t1 A ∧ Blk (((w.alloc (.cells A t1)).alloc (.cells B t2)).alloc (.cells C t3)).drew (w.heap.size + 1) t2 B ∧ Fr No w (((w.alloc (.cells A t1)).alloc (.cells B t2)).alloc (.cells C t3)).drew := by
  have b1 := Blk.new w t1 A
  have b2 := Blk.new (w.alloc (.cells A t1)) t2 B
  have e : (w.alloc (.cells A t1)).heap.size = w.heap.size + 1 := by simp
  rw [e] at b2
  refine ⟨?_, ?_, ((((Fr.refl No w).alloc _).alloc _).alloc _).drew⟩
  · have f : Fr No (w.alloc (.cells A t1)) (((w.alloc (.cells A t1)).alloc (.cells B t2)).alloc (.cells C t3)).drew := (((Fr.refl No _).alloc _).alloc _).drew
    exact b1.of (f.block _ b1.lt id)
  · have f : Fr No ((w.alloc (.cells A t1)).alloc (.cells B t2)) (((w.alloc (.cells A t1)).alloc (.cells B t2)).alloc (.cells C t3)).drew := ((Fr.refl No _).alloc _).drew
    exact b2.of (f.block _ b2.lt id)
def LayP (X : Nat → Prop) (s : Nat) (S : FS) (w : World) (e : Ending) (w' : World) : Prop := e = .returned (.tuple #[]) ∧ (∃ Q', SX w' X s Q' S) ∧ Fr (NX X) w w'
theorem FW.n_le {S : FS} {B : List (List FactP)} {l : List FactP} (h : FW S B l) (hl : l.length ≤ 64) : S.n ≤ 70000 := by
  have := h.bn
  have := h.b
  omega
section
variable (s : Nat) (Q : SRp) (S : FS) (B : List (List FactP)) (l : List FactP) (w : World)
set_option maxRecDepth 100000 in
set_option maxHeartbeats 8000000 in
theorem lay_any (X : Nat → Prop) (h : SX w X s Q S) (hW : FW S B l) (hl64 : l.length ≤ 64) (dv mv : Value) (f : FactP) (hd : RowE X w 1 strE dv f.dims) (hm : RowE X w 1 intE mv f.meas) (hf : f.Fits S.K S.M) (hr : Room S f) :
    Calls Try.prog 41 #[.pointer (some ⟨s, 0, none⟩), .int .i64 (S.n : Nat), .agg #[dv, mv]] w (LayP X s (S.laid f) w) := by
  obtain ⟨w0, hw0⟩ : ∃ w0, w.alloc (.cells #[dv, mv] 51) = w0 := ⟨_, rfl⟩
  obtain ⟨bx, hbx⟩ : ∃ bx, w.heap.size = bx := ⟨_, rfl⟩
  have f0 : Fr No w w0 := by rw [← hw0]; exact (Fr.refl _ w).alloc _
  have hb0 : Blk w0 bx 51 #[dv, mv] := by rw [← hw0, ← hbx]; exact Blk.new w 51 _
  have h0 : SX w0 (Ad X bx) s Q S := h.ad f0 (by omega) hb0.lt
  have hd0 : RowE (Ad X bx) w0 1 strE dv f.dims := hd.of f0.size (fun k hk hlt => ⟨.inl hk, f0.block k hlt id⟩) fun _ _ _ h => h
  have hm0 : RowE (Ad X bx) w0 1 intE mv f.meas := hm.of f0.size (fun k hk hlt => ⟨.inl hk, f0.block k hlt id⟩) fun _ _ _ h => h
  obtain ⟨A1, c1, rfl⟩ := hd.slice
  obtain ⟨A2, c2, rfl⟩ := hm.slice
  obtain ⟨Ad_, cd, ed⟩ := h0.at_.dform
  obtain ⟨Ag, cg, eg⟩ := own_form h0.at_.segs
  have hGV := Lib.hid eg
  have hk := hW.k
  have hmm := hW.m
  have hn64 := hW.n_le hl64
  have HE : Hid (∀ wx, Fr No w0 wx → wx.cell? ⟨s, 0, none⟩ = some (.slice Ad_ S.K cd) ∧ wx.cell? ⟨s, 1, none⟩ = some (.int .i64 S.M) ∧ wx.cell? ⟨s, 2, none⟩ = some (.slice Ag S.G cg)) := Lib.hid fun wx fx => by
    have hx := (h0.at_.keep fx).cells
    rw [ed, eg] at hx
    exact ⟨hx.1, hx.2.1, hx.2.2.1⟩
  have HROW : Hid (∀ wx, Fr No w0 wx → wx.ownsRow 0 74 2 (.slice Ag S.G cg) S.G (segl Q S)) := Lib.hid fun wx fx => by
    have hx := (h0.at_.keep fx).segs
    rw [eg] at hx
    exact hx
  have HGR : Hid (∀ wx w3, Fr No w0 wx → wx.grownBy w3 (Value.slice Ag S.G cg).ownBlock → w3.cell? ⟨s, 2, none⟩ = some (.slice Ag S.G cg) ∧ w3.frozen? ⟨s, 2, none⟩ = false ∧ w3.cell? ⟨s, 0, none⟩ = some (.slice Ad_ S.K cd) ∧ w3.cell? ⟨s, 1, none⟩ = some (.int .i64 S.M)) := Lib.hid fun wx w3 fx hg => by
    have hb : Blk w0 s 60 (scells Q S) := h0.at_.blk
    have hgs : Q.gv.ownBlock ≠ some s := fun e => own_blk_ne h0.at_.segs e hb (by decide) rfl
    rw [eg] at hgs
    have hb3 : Blk w3 s 60 (scells Q S) := hb.of ((hg.block s (Nat.lt_of_lt_of_le hb.lt fx.size) fun e => hgs e.symm).trans (fx.block s hb.lt id))
    have x0 := hb3.cell 0
    have x2 := hb3.cell 2
    unfold scells at x0 x2
    rw [ed] at x0
    rw [eg] at x2
    exact ⟨x2, hb3.frozen 2, x0, hb3.cell 1⟩
  have H0 := Lib.hid h0
  have HW := Lib.hid hW
  have HFit := Lib.hid hf
  have HRoom := Lib.hid hr
  have HD := Lib.hid hd0
  have HM := Lib.hid hm0
  have HW0 := Lib.hid hw0
  have HBX := Lib.hid hbx
  have HF0 := Lib.hid f0
  have HB0 := Lib.hid hb0
  have hmk1 := make83 S.K (by omega)
  have hmk2 := make106 S.M (by omega)
  have hGle : S.G ≤ 1000 := by have := hW.g; omega
  clear h h0 hb0 hd0 hm0 hW hw0 hbx f0 ed eg hd hm hf hr
  obtain ⟨n, hn⟩ : ∃ n, S.n = n := ⟨_, rfl⟩
  have HN := Lib.hid hn
  rw [hn] at hn64 ⊢
  clear hn
  obtain ⟨m, hm⟩ : ∃ m : Nat, n % 256 = m := ⟨_, rfl⟩
  have hmod : (n : Int) % 256 = (m : Int) := by omega
  have HMM := Lib.hid hm
  have hm256 : m < 256 := by omega
  clear hm
  have c00 := (HE.out w0 (Fr.refl _ _)).1
  have c01 := (HE.out w0 (Fr.refl _ _)).2.1
  have c02 := (HE.out w0 (Fr.refl _ _)).2.2
  go_enter Try.func41, Try.ntmps41
  go_upto_if 17 with fail
  rw [HW0.out, HBX.out]
  go_cut [] (fun wz => ∃ wx, wx = wz ∧ (∃ Q1, SX wx (Ad X bx) s Q1 S.start) ∧ Fr (NX (Ad X bx)) w0 wx)
  case first =>
    by_cases hm0 : m = 0
    · have hq : ((m : Int) == 0) = true := by simp [hm0]
      obtain ⟨i0, hi0, hz0, hz1, hz2⟩ := info_parts info74
      have HZ : Hid (∀ d p, S.G * 256 ≤ p → S.cn d p = 0) := Lib.hid fun d p hp => HW.out.cz d p (by have := HW.out.g; have := HN.out; have := HMM.out; omega)
      have HZ' : Hid (∀ d p, S.G * 256 ≤ p → S.mn d p = 0) := Lib.hid fun d p hp => HW.out.mz d p (by have := HW.out.g; have := HN.out; have := HMM.out; omega)
      have HST : Hid (S.start = S.seg) := Lib.hid (by unfold FS.start; rw [if_pos (by rw [HN.out, HMM.out]; exact hm0)])
      clear hm0 hmod
      have k1 : ∀ A, (w0.alloc A).cell? ⟨s, 0, none⟩ = some (.slice Ad_ S.K cd) := fun A => (HE.out _ ((Fr.refl No w0).alloc A)).1
      have k2 : ∀ A, (w0.alloc A).cell? ⟨s, 1, none⟩ = some (.int .i64 S.M) := fun A => (HE.out _ ((Fr.refl No w0).alloc A)).2.1
      have k3 : ∀ A, (w0.alloc A).cell? ⟨s, 2, none⟩ = some (.slice Ag S.G cg) := fun A => (HE.out _ ((Fr.refl No w0).alloc A)).2.2
      have k4 : ∀ A C, ((w0.alloc A).alloc C).cell? ⟨s, 2, none⟩ = some (.slice Ag S.G cg) := fun A C => (HE.out _ (((Fr.refl No w0).alloc A).alloc C)).2.2
      have k5 : ∀ A C D, (((w0.alloc A).alloc C).alloc D).cell? ⟨s, 2, none⟩ = some (.slice Ag S.G cg) := fun A C D => (HE.out _ ((((Fr.refl No w0).alloc A).alloc C).alloc D)).2.2
      go_wp2_with fail
      go_region_law
        (first
          | (refine step_append_lies _ (by rfl) _ _ _ (by rfl) 0 74 i0 _ 2 48 Try.underlying57 hi0 hz0 hz1 hz2 rfl (by omega) (.slice Ag S.G cg) _ _ (by rfl) (HROW.out _ (by (repeat (first | exact Fr.refl No _ | refine Fr.drew ?_ | refine Fr.alloc ?_ _)))) ⟨w0.heap.size + 1 + 1, 0, none⟩ 1 1 [.slice (some ⟨w0.heap.size, 0, none⟩) S.K S.K, .slice (some ⟨w0.heap.size + 1, 0, none⟩) S.M S.M] (by rfl) (by rfl) (World.news_of_block (cs := #[.slice (some ⟨w0.heap.size, 0, none⟩) S.K S.K, .slice (some ⟨w0.heap.size + 1, 0, none⟩) S.M S.M]) (t := 74) (fr := (0, 0)) (alloc3 w0 (.cells (zcol (.int .u16 0) S.K) 83) (.cells (zcol (.int .i64 0) S.M) 106) _)) (by simp [Value.oneCell']) (by omega) (by unfold maxLen; omega) (by omega) (by simp) (w0.heap.size + 1 + 1 + 1) (by simp) ?_; intro g cap w3 hown3 hgrow hat hlt; have qq := HGR.out _ _ (by (repeat (first | exact Fr.refl No _ | refine Fr.drew ?_ | refine Fr.alloc ?_ _))) hgrow; have q2 := qq.1; have qf := qq.2.1; have q0 := qq.2.2.1; have q1 := qq.2.2.2; clear qq; have HX1 : Hid (SPost s Q S w0 S.seg (w3.setCell ⟨s, 2, none⟩ (.slice (some ⟨g, 0, none⟩) (S.G + 1) cap))) := Lib.hid (by
              have hb := blk3 w0 (zcol (.int .u16 0) S.K) (zcol (.int .i64 0) S.M) #[.slice (some ⟨w0.heap.size, 0, none⟩) S.K S.K, .slice (some ⟨w0.heap.size + 1, 0, none⟩) S.M S.M] 83 106 74
              refine seg_end (a := w0.heap.size) (b := w0.heap.size + 1) H0.out.at_ HZ.out HZ'.out hb.2.2 hb.1 hb.2.1 (by omega) (by omega) (by rw [hGV.out]; exact hgrow) hown3 ?_
              rw [hGV.out]; simpa using hat); clear hgrow hown3 hat)
          | (refine step_append_lies _ (by rfl) _ _ _ (by rfl) 0 74 i0 _ 2 48 Try.underlying57 hi0 hz0 hz1 hz2 rfl (by omega) (.slice Ag S.G cg) _ _ (by rfl) (HROW.out _ (by (repeat (first | exact Fr.refl No _ | refine Fr.drew ?_ | refine Fr.alloc ?_ _)))) ⟨w0.heap.size + 1 + 1, 0, none⟩ 1 1 [.slice (some ⟨w0.heap.size + 1, 0, none⟩) S.K S.K, .slice (some ⟨w0.heap.size, 0, none⟩) S.M S.M] (by rfl) (by rfl) (World.news_of_block (cs := #[.slice (some ⟨w0.heap.size + 1, 0, none⟩) S.K S.K, .slice (some ⟨w0.heap.size, 0, none⟩) S.M S.M]) (t := 74) (fr := (0, 0)) (alloc3 w0 (.cells (zcol (.int .i64 0) S.M) 106) (.cells (zcol (.int .u16 0) S.K) 83) _)) (by simp [Value.oneCell']) (by omega) (by unfold maxLen; omega) (by omega) (by simp) (w0.heap.size + 1 + 1 + 1) (by simp) ?_; intro g cap w3 hown3 hgrow hat hlt; have qq := HGR.out _ _ (by (repeat (first | exact Fr.refl No _ | refine Fr.drew ?_ | refine Fr.alloc ?_ _))) hgrow; have q2 := qq.1; have qf := qq.2.1; have q0 := qq.2.2.1; have q1 := qq.2.2.2; clear qq; have HX1 : Hid (SPost s Q S w0 S.seg (w3.setCell ⟨s, 2, none⟩ (.slice (some ⟨g, 0, none⟩) (S.G + 1) cap))) := Lib.hid (by
              have hb := blk3 w0 (zcol (.int .i64 0) S.M) (zcol (.int .u16 0) S.K) #[.slice (some ⟨w0.heap.size + 1, 0, none⟩) S.K S.K, .slice (some ⟨w0.heap.size, 0, none⟩) S.M S.M] 106 83 74
              refine seg_end (a := w0.heap.size + 1) (b := w0.heap.size) H0.out.at_ HZ.out HZ'.out hb.2.2 hb.2.1 hb.1 (by omega) (by omega) (by rw [hGV.out]; exact hgrow) hown3 ?_
              rw [hGV.out]; simpa using hat); clear hgrow hown3 hat))
      all_goals (go_wp2_with fail; go_meet)
      all_goals exact ⟨_, rfl, by obtain ⟨hQ, _⟩ := H0.out.post HX1.out; rw [HST.out]; exact hQ, (H0.out.post HX1.out).2⟩
    · have hq : ((m : Int) == 0) = false := by simp [hm0]
      have HST : Hid (S.start = S) := Lib.hid (by unfold FS.start; rw [if_neg (by rw [HN.out, HMM.out]; exact hm0)])
      go_wp2
      go_meet
      exact ⟨_, rfl, ⟨Q, by rw [HST.out]; exact H0.out⟩, Fr.refl _ _⟩
  case rest =>
  obtain ⟨wx, ewx, ⟨Q1, h1⟩, fx⟩ := hcut
  subst ewx
  have hb1 : Blk wx bx 51 #[.slice A1 f.dims.length c1, .slice A2 f.meas.length c2] := HB0.out.of (fx.block bx HB0.out.lt fun hx => hx (.inr rfl))
  have hd1 := HD.out.nx fx
  have hm1 := HM.out.nx fx
  obtain ⟨q, hq⟩ : ∃ q : Nat, n / 256 = q := ⟨_, rfl⟩
  have hdiv : (n : Int) / 256 = (q : Int) := by omega
  have HQQ := Lib.hid hq
  clear hq
  have eK : S.start.K = S.K := S.start_K
  have eM : S.start.M = S.M := S.start_M
  have en : S.start.n = n := S.start_n.trans HN.out
  have hG : q < S.start.G := by have h3 := start_le HW.out; rw [HN.out, HQQ.out] at h3; exact h3
  have hG2 : S.start.G ≤ 1001 := by have h2 := hGle; unfold FS.start FS.seg; split <;> simp <;> omega
  obtain ⟨bg, cgg, ev, k0, k1⟩ := h1.at_.seg hG
  have cg2 := h1.at_.cells.2.2.1
  rw [ev] at cg2
  obtain ⟨a, hae⟩ : ∃ a, Q1.sa q = a := ⟨_, rfl⟩
  obtain ⟨b, hbe⟩ : ∃ b, Q1.sb q = b := ⟨_, rfl⟩
  rw [hae, eK] at k0
  rw [hbe, eM] at k1
  obtain ⟨w2, hw2⟩ : ∃ w2, wx.alloc (.cells #[.slice (some ⟨a, 0, none⟩) S.K S.K, .slice (some ⟨b, 0, none⟩) S.M S.M] 74) = w2 := ⟨_, rfl⟩
  obtain ⟨y, hy⟩ : ∃ y, wx.heap.size = y := ⟨_, rfl⟩
  have f2 : Fr No wx w2 := by rw [← hw2]; exact (Fr.refl _ wx).alloc _
  have hby : Blk w2 y 74 #[.slice (some ⟨a, 0, none⟩) S.K S.K, .slice (some ⟨b, 0, none⟩) S.M S.M] := by rw [← hw2, ← hy]; exact Blk.new wx 74 _
  have h2 : SX w2 (Ad (Ad X bx) y) s Q1 S.start := h1.ad f2 (by omega) hby.lt
  have hb2 : Blk w2 bx 51 #[.slice A1 f.dims.length c1, .slice A2 f.meas.length c2] := hb1.of (f2.block bx hb1.lt id)
  have hd2 : RowE (Ad (Ad X bx) y) w2 1 strE _ f.dims := hd1.of f2.size (fun k hk hlt => ⟨.inl hk, f2.block k hlt id⟩) fun _ _ _ h => h
  have hm2 : RowE (Ad (Ad X bx) y) w2 1 intE _ f.meas := hm1.of f2.size (fun k hk hlt => ⟨.inl hk, f2.block k hlt id⟩) fun _ _ _ h => h
  have x0 : w2.cell? ⟨bx, 0, none⟩ = some (.slice A1 f.dims.length c1) := hb2.cell 0
  have H2 := Lib.hid h2
  have HB2 := Lib.hid hb2
  have HBY := Lib.hid hby
  have HD2 := Lib.hid hd2
  have HM2 := Lib.hid hm2
  have HW2 := Lib.hid hw2
  have HY := Lib.hid hy
  have HF2 : Hid (Fr (NX X) w w2) := Lib.hid (((HF0.out.any).nxt (nx_ad fx)).nxt f2.any)
  have HA := Lib.hid hae
  have HBE := Lib.hid hbe
  have HEN := Lib.hid en
  have HEK := Lib.hid eK
  have HEM := Lib.hid eM
  have HG := Lib.hid hG
  have e1 : f.dims.length = S.K := HFit.out.1
  have e2 : f.meas.length = S.M := HFit.out.2.1
  rw [e1] at x0
  clear h1 fx hb1 hd1 hm1 h2 hb2 hby hd2 hm2 hw2 hy f2 hae hbe en eK eM hG ev H0 HE HROW HGR HD HM HB0 hmk1 hmk2 hGV c00 c01 c02
  go_upto_region 5 with fail
  rw [HW2.out, HY.out]
  clear cg2 k0 k1 hdiv
  go_wp2
  go_loopw [50] (fun iv wr => ∃ i : Nat, i ≤ S.K ∧ iv = .int .i64 i ∧ Hid (∃ Q2, SX wr (Ad (Ad X bx) y) s Q2 (S.start.part f i 0) ∧ Q2.sa q = a ∧ Q2.sb q = b ∧ Fr (NX (Ad (Ad X bx) y)) w2 wr)) (fun iv _ => S.K - (intOf iv).toNat)
  case atStart => exact ⟨0, by omega, rfl, Lib.hid ⟨Q1, by rw [FS.part_zero]; exact H2.out, HA.out, HBE.out, Fr.refl _ _⟩⟩
  case round =>
    obtain ⟨i, hi, rfl, HI⟩ := hrel
    by_cases hlt : i < S.K
    · obtain ⟨Q2, h2, ea, eb, f2⟩ := HI.out
      have hil : i < f.dims.length := by rw [e1]; exact hlt
      have hb3 := HB2.out.of (f2.block bx HB2.out.lt fun hx => hx (.inl (.inr rfl)))
      have hy3 := HBY.out.of (f2.block y HBY.out.lt fun hx => hx (.inr rfl))
      have hd3 := HD2.out.nx f2
      obtain ⟨g1, o1, cc, e, _, _, hcell⟩ := texts_at hd3 (by omega)
      injection e with e _ e3
      subst e
      subst e3
      have ht := hcell i hil
      obtain ⟨hdl, hde⟩ := fits_dim HFit.out hlt
      rw [hde] at ht
      have y0 : wr.cell? ⟨y, 0, none⟩ = some (.slice (some ⟨a, 0, none⟩) S.K S.K) := hy3.cell 0
      have hlK : i < (S.start.part f i 0).K := by show i < S.start.K; rw [HEK.out]; exact hlt
      obtain ⟨gd, cdd, edv, cp⟩ := h2.at_.ptr hlK
      have cv := h2.at_.cells.1
      rw [edv] at cv
      have eK2 : (S.start.part f i 0).K = S.K := HEK.out
      rw [eK2] at cv
      have hDi : (S.start.part f i 0).D i = S.D i := by rw [part_D, if_neg (by omega), S.start_D]
      have hat := h2.at_.dict i hlK
      rw [hDi] at hat
      have hdn := HW.out.dn i hlt
      have hput := putq_any (Q2.ds i) (Q2.rp i) (S.D i) wr hat (WF.of_ hdn.1 hdn.2.1 hdn.2.2) (f.dim i) (dim_len HFit.out hlt) (HRoom.out i hlt)
      have hix : idx (addT (S.D i) (f.dim i)) (f.dim i) < 4096 := by
        have h3 := (idx_add (S.D i) (f.dim i)).1
        rcases HRoom.out i hlt with hr | hr
        · rw [addT_in hr] at h3 ⊢; have := hdn.2.1; omega
        · have h4 : (addT (S.D i) (f.dim i)).length ≤ (S.D i).length + 1 := by
            by_cases hm : f.dim i ∈ S.D i
            · rw [addT_in hm]; omega
            · rw [addT_out hm]; simp
          omega
      have HP := Lib.hid hput
      have HS2 := Lib.hid h2
      have HF3 := Lib.hid f2
      have HEA := Lib.hid ea
      have HEB := Lib.hid eb
      have HYY := Lib.hid hy3
      have HDI := Lib.hid hDi
      have HLK := Lib.hid hlK
      clear hput h2 f2 ea eb hb3 hy3 hd3 hcell hdl hde hat hDi edv hil hlK eK2 hdn
      unfold encT at HP ht
      obtain ⟨ix, hixe⟩ : ∃ ix, idx (addT (S.D i) (f.dim i)) (f.dim i) = ix := ⟨_, rfl⟩
      have HIX := Lib.hid hixe
      rw [hixe] at hix
      clear hixe
      have HP' : Hid (Calls Try.prog 53 #[.pointer (some ⟨Q2.ds i, 0, none⟩), .string ⟨(f.dim i).toArray⟩] wr fun e w' => e = .returned (.tuple #[.int .i64 (ix : Nat), .int .i64 0]) ∧ Post (Q2.ds i) (Q2.rp i) wr (.of (addT (S.D i) (f.dim i))) w') := Lib.hid (by rw [← HIX.out]; exact HP.out)
      clear HP
      obtain ⟨dd, hdd⟩ : ∃ dd, Q2.ds i = dd := ⟨_, rfl⟩
      rw [hdd] at cp HP'
      have HDD := Lib.hid hdd
      clear hdd
      generalize (⟨(f.dim i).toArray⟩ : ByteArray) = sz at *
      go_wp2_with fail
      refine HP'.out.mono ?_
      rintro e w3 ⟨rfl, R', a3, fr3, gr3⟩
      have hy4 : Blk w3 y 74 #[.slice (some ⟨a, 0, none⟩) S.K S.K, .slice (some ⟨b, 0, none⟩) S.M S.M] := HYY.out.of (fr3.block y HYY.out.lt fun hf => HS2.out.off y (.inr (.inr (.inr (.inr (.inr ⟨i, HLK.out, by rw [HDD.out]; exact hf⟩))))) (.inr rfl))
      have y4 : w3.cell? ⟨y, 0, none⟩ = some (.slice (some ⟨a, 0, none⟩) S.K S.K) := hy4.cell 0
      have hds := dset (w := wr) (w2 := w3) (s := s) (i := i) (Q := Q2) (S := S.start) (f := f) (R' := R') HS2.out.at_ HLK.out (by rw [HEN.out, HQQ.out]; exact HG.out) (by rw [HDD.out, S.start_D]; exact a3) (by rw [HDD.out]; exact fr3) (by rw [HDD.out]; exact gr3)
      rw [S.start_D, HIX.out, HEN.out, HQQ.out, HMM.out, HEA.out] at hds
      have hcol := (HS2.out.at_.sega q HG.out)
      rw [HEA.out] at hcol
      have hcol3 : Col w3 a 83 (S.start.part f i 0).K (dcol (S.start.part f i 0) q) := hcol.of (fr3.block a hcol.lt fun hf => ((HS2.out.at_.apart HLK.out (by rw [HDD.out]; exact hf)).2.2.2.2 q HG.out).1 HEA.out)
      have z0 := (hcol3.cell HLK.out hm256).1
      have z1 := (hcol3.cell HLK.out hm256).2
      obtain ⟨zv, hzv⟩ : ∃ zv, dcol (S.start.part f i 0) q i m = zv := ⟨_, rfl⟩
      rw [hzv] at z0
      have HDS := Lib.hid hds
      clear hds hy4 hcol hcol3 hzv cv cp ht y0 a3 fr3 gr3
      go_wp2
      go_roundw
      case rel =>
        refine ⟨i + 1, by omega, by go_num, Lib.hid ⟨_, ⟨fun k hk => ?_, HDS.out.1, fun k hk hx => ?_⟩, HEA.out, HEB.out, HF3.out.nxt (HDS.out.2.1.mono fun k _ hk => HS2.out.off k hk)⟩⟩
        · exact Nat.lt_of_lt_of_le (HS2.out.lo k hk) HDS.out.2.1.size
        · rcases HDS.out.2.2 k hk with h | h
          · exact HS2.out.off k h hx
          · have := HS2.out.lo k hx; omega
      case measure => simp [intOf]; omega
    · obtain rfl : i = S.K := by omega
      obtain ⟨Q2, h2, _, eb, f2⟩ := HI.out
      have hb3 := HB2.out.of (f2.block bx HB2.out.lt fun hx => hx (.inl (.inr rfl)))
      have x1 : wr.cell? ⟨bx, 1, none⟩ = some (.slice A2 f.meas.length c2) := hb3.cell 1
      rw [e2] at x1
      have HI2 : Hid (SX wr (Ad (Ad X bx) y) s Q2 (S.start.part f S.K 0) ∧ Q2.sb q = b ∧ Fr (NX (Ad (Ad X bx) y)) w2 wr) := Lib.hid ⟨h2, eb, f2⟩
      clear h2 eb f2 hb3 HI x0
      go_wp2
      go_loopw [79] (fun iv wz => ∃ j : Nat, j ≤ S.M ∧ iv = .int .i64 j ∧ Hid (∃ Q2, SX wz (Ad (Ad X bx) y) s Q2 (S.start.part f S.K j) ∧ Q2.sb q = b ∧ Fr (NX (Ad (Ad X bx) y)) w2 wz)) (fun iv _ => S.M - (intOf iv).toNat)
      case atStart => exact ⟨0, by omega, rfl, Lib.hid ⟨Q2, HI2.out⟩⟩
      case round =>
        obtain ⟨j, hj, rfl, HI⟩ := hrel
        by_cases hlt : j < S.M
        · obtain ⟨Q3, h3, eb, f3⟩ := HI.out
          have hjl : j < f.meas.length := by rw [e2]; exact hlt
          have hy3 := HBY.out.of (f3.block y HBY.out.lt fun hx => hx (.inr rfl))
          have hm3 := HM2.out.nx f3
          obtain ⟨g1, o1, cc, e, _, _, hcell⟩ := ints_at hm3 (by omega)
          injection e with e _ e3
          subst e
          subst e3
          have ht := hcell j hjl
          have hmea : f.meas[j] = f.mea j := by simp [FactP.mea, hjl]
          rw [hmea] at ht
          have y1 : wr.cell? ⟨y, 1, none⟩ = some (.slice (some ⟨b, 0, none⟩) S.M S.M) := hy3.cell 1
          have hlM : j < S.start.M := by rw [HEM.out]; exact hlt
          have hcol := (h3.at_.segb q HG.out)
          rw [eb] at hcol
          have z0 := (hcol.cell hlM hm256).1
          have z1 := (hcol.cell hlM hm256).2
          obtain ⟨zv, hzv⟩ : ∃ zv, mcol (S.start.part f S.K j) q j m = zv := ⟨_, rfl⟩
          rw [hzv] at z0
          have h3' : SAt wr s Q3 (S.start.part f S.start.K j) := by rw [HEK.out]; exact h3.at_
          have hms := mset (w := wr) (s := s) (j := j) (Q := Q3) (S := S.start) (f := f) h3' hlM (by rw [HEN.out, HQQ.out]; exact HG.out)
          rw [HEK.out, HEN.out, HQQ.out, HMM.out, eb] at hms
          have HMS := Lib.hid hms
          have HS3 := Lib.hid h3
          have HEB := Lib.hid eb
          have HF3 := Lib.hid f3
          clear hms h3' hcol hzv hmea hcell hm3 hy3 h3 eb f3 hjl hlM
          obtain ⟨mv2, hmv⟩ : ∃ x, f.mea j = x := ⟨_, rfl⟩
          rw [hmv] at ht HMS
          clear hmv
          go_wp2
          go_roundw
          case rel =>
            refine ⟨j + 1, by omega, by go_num, Lib.hid ⟨Q3, ⟨fun k hk => ?_, HMS.out.1, fun k hk hx => ?_⟩, HEB.out, HF3.out.nxt (HMS.out.2.mono fun k _ hk => HS3.out.off k hk)⟩⟩
            · exact Nat.lt_of_lt_of_le (HS3.out.lo k hk) HMS.out.2.size
            · exact HS3.out.off k hk hx
          case measure => simp [intOf]; omega
        · obtain rfl : j = S.M := by omega
          obtain ⟨Q3, h3, eb, f3⟩ := HI.out
          have hfin : SX wr X s Q3 (S.laid f) := ⟨fun k hk => h3.lo k (.inl (.inl hk)), h3.at_.next, fun k hk hx => h3.off k hk (.inl (.inl hx))⟩
          have HFIN := Lib.hid hfin
          have HFF : Hid (Fr (NX X) w wr) := Lib.hid (HF2.out.nxt (nx_ad (nx_ad f3)))
          clear h3 eb f3 hfin
          go_wp2
          go_end0
          exact ⟨rfl, ⟨Q3, HFIN.out⟩, HFF.out⟩
end
end Go.Proofs.Ytmaeejojmbibnaa
