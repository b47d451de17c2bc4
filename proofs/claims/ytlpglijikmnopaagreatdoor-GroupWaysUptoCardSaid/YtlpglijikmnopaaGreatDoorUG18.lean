/- The landed Sort. -/
import Derived.Test.YtlpglijikmnopaaGreatDoorUM3
import Derived.Deep.Light
namespace Go.Proofs.YtlpglijikmnopaaGreatDoor
open Go.RowKit Go.Maps Go.Sort Go.Proofs Go.Shelf
set_option linter.unusedVariables false
attribute [local go_sem] Oper.semAt_some

set_option maxRecDepth 100000 in
set_option maxHeartbeats 8000000 in
theorem sort_any {B : Nat} {fv wv : Value} {fs : List Fc} {s meas : Int} {M : Fc → Bool} (w : World) (hBs : w.heap.size = B) (hf : FR (fun j => j < B) w fv fs) (hM : MeantC wv M B w) (hwv : ∃ p, wv = .pointer p) (hok : ∀ f ∈ fs, Fok f) (hl : fs.length < 4000000) :
    Calls Tryz.prog 14 #[fv, wv, .int .i64 s, .int .i64 meas] w (TellsH B (grpL takeA (newA meas) (keyedL M (listB s) fs)) w) := by
  obtain ⟨p, rfl⟩ := hwv
  obtain ⟨A, fn, c, rfl, -⟩ : ∃ A l c, fv = .slice A l c ∧ True := by obtain ⟨A, c, e, _⟩ := hf; exact ⟨A, _, c, e, trivial⟩
  obtain ⟨z, hz⟩ : ∃ z, newA meas = z := ⟨_, rfl⟩
  obtain ⟨w2, hw2⟩ : ∃ x, w.alloc (.cells #[] 80) = x := ⟨_, rfl⟩
  obtain ⟨w3, hw3⟩ : ∃ x, w2.alloc (.cells #[.slice (some ⟨B, 0, none⟩) 0 0] 78) = x := ⟨_, rfl⟩
  have f2 : Fr No w w2 := by rw [← hw2]; exact (Fr.refl No w).alloc _
  have f3 : Fr No w2 w3 := by rw [← hw3]; exact (Fr.refl No w2).alloc _
  have hs2 : w2.heap.size = B + 1 := by rw [← hw2, ← hBs]; simp
  have hs3 : w3.heap.size = B + 2 := by rw [← hw3]; simp; omega
  have hb9 : Blk w3 (B + 1) 78 #[.slice (some ⟨B, 0, none⟩) 0 0] := by rw [← hw3, ← hs2]; exact Blk.new w2 78 _
  have hg2 : GrX (fun k => k ≠ B + 1) B 80 2 (entG B) w2 (.slice (some ⟨B, 0, none⟩) 0 0) [] := by
    refine ⟨fun _ => False, [], ⟨by simp, .inr ⟨B, 0, #[], rfl, Nat.le_refl _, ?_, Nat.le_refl _, by decide, by simp, by simp⟩⟩, fun j hj => absurd hj (by simp), fun k hk => hk.elim⟩
    rw [← hw2, ← hBs]
    exact heap_alloc_new w _
  have HZ := Lib.hid hz
  have HBS := Lib.hid hBs
  have HN := Lib.hid (fun w' => new_any meas w')
  have HFV := Lib.hid hf
  have HM := Lib.hid hM
  have HOK := Lib.hid hok
  have HL := Lib.hid hl
  have HB9 := Lib.hid hb9
  have HG2 := Lib.hid hg2
  have HF2 := Lib.hid f2
  have HF3 := Lib.hid f3
  have HS23 := Lib.hid (And.intro hs2 hs3)
  have HW2 := Lib.hid hw2
  have HW3 := Lib.hid hw3
  rw [hz] at HN ⊢
  clear hz hBs hf hM hok hl hw2 hw3 f2 f3 hb9 hg2 hs2 hs3
  refine (callsIn_wide (n := 3)).1 ?_
  refine callsIn_of_wp_marks Tryz.func14 rfl trivial ?_ rfl
  simp only [Tryz.ntmps14, List.size_toArray, List.length_cons, List.length_nil, Nat.reduceAdd, Nat.reduceSub, Array.replicate_succ, Array.replicate_zero, List.push_toArray, List.append_toArray, List.nil_append, List.cons_append]
  gi_wp2
  rw [HBS.out, HW2.out, HW3.out]
  gi_wp2_with (refine ⟨trivial, ?_⟩; gi_at_call 38; refine (callsIn_wide.2 (keyed_any A fn c p s w3)).mono ?_; rintro e w4 ⟨x, y, u, dv, rfl, hx, hy, hu, hd, hx1, hy1, hu1, f4⟩; have HX := Lib.hid hx; have HY := Lib.hid hy; have HU := Lib.hid hu; have HD := Lib.hid hd; have HF4 := Lib.hid f4; clear hx hy hu hd f4)
  obtain ⟨N0, hN0⟩ : ∃ x, w4.heap.size = x := ⟨_, rfl⟩
  have hB0 := HBS.out
  have hs23 := HS23.out
  have hs4 := HF4.out.size
  have f04 : Fr No w w4 := (HF2.out.trans HF3.out fun _ _ h => h).trans HF4.out fun _ _ h => h
  have f24 : Fr No w2 w4 := HF3.out.trans HF4.out fun _ _ h => h
  have hxl := HX.out.lt
  have hyl := HY.out.lt
  have hul := HU.out.lt
  have HSEQ : Hid (SeqM 2 70 #[.pointer (some ⟨x, 0, none⟩), .pointer (some ⟨y, 0, none⟩), .pointer (some ⟨u, 0, none⟩)] ydE (ydR B) (fun k => k = B + 1 ∨ k = B ∨ N0 ≤ k) (fun xs => lT xs = keyedL M (listB s) fs) fs.length w4) := Lib.hid
    (keyed1_any (w0 := w) (Kd := fun k => w3.heap.size ≤ k ∧ k < N0) HX.out HY.out HU.out (HD.out.mono (fun k hk hlt => ⟨⟨hk, by omega⟩, rfl⟩) fun _ _ h => h) (HFV.out.no f04) HM.out (by rw [← hB0]; exact f04.below)
      (fun k hk => by rcases hk with h | h | h <;> refine ⟨?_, ?_, ?_, ?_, ?_⟩ <;> omega) (by have := listB_len s; omega) (fun n h => listB_last h) HOK.out (by omega) ⟨_, rfl⟩)
  have HI0 : Hid (LI B (B + 1) N0 w4 w4.heap.size [] w4) := Lib.hid ⟨by omega, ⟨_, HB9.out.no HF4.out, GrX.keep (entG_elem B) HG2.out f24 fun _ h _ => h.elim, fun k hk => by
    have e : B = k := by injection hk
    exact ⟨by omega, .inl e.symm⟩⟩, Fr.refl _ _⟩
  have HA : Hid (B + 2 ≤ N0) := Lib.hid (by omega)
  have HF04 := Lib.hid f04
  have HN0 := Lib.hid hN0
  clear hs23 hs4 hB0 f04 f24 hxl hyl hul hN0 hx1 hy1 hu1
  refine walk_range (encs := ydE) (Rd := ydR B) (Gm := fun k => k = B + 1 ∨ k = B ∨ N0 ≤ k) (N := fs.length) rfl (enters_of Tryz.func70 (by kernel_rfl) rfl) (fun _ => rfl) (fun k hk => .inr (.inr (by have := HN0.out; omega))) HSEQ.out (LI B (B + 1) N0 w4) (fun s pre A B h f => h.no f) (fun s s' pre A h hs => h.up hs)
    (fun s pre A r o o' h hr ho hc => h.turn ho hc (by have := HN0.out; omega)) (fun s x A r o o' h hr ho hc => h.turn ho hc) HI0.out
    (fun xd => { tmps := #[Value.slice A fn c, Value.pointer p, Value.int IntKind.i64 s, Value.int IntKind.i64 meas, undef, undef, undef,
          undef, Value.slice none 0 0, Value.pointer (some { block := B + 1, off := 0 }), xd.kv, xd.mv, undef, undef,
          undef, undef, Value.slice (some { block := B, off := 0 }) 0 0, Value.slice A fn c, Value.pointer p, Value.int IntKind.i64 s,
          Value.func (Fn.func 70) #[] #[Value.pointer (some { block := x, off := 0 }), Value.pointer (some { block := y, off := 0 }), Value.pointer (some { block := u, off := 0 })],
          xd.kv, xd.mv, undef, undef, undef, undef, undef, undef, undef, undef, undef, undef, undef, undef, undef, undef, undef, undef, undef, undef, undef, undef, undef, undef, undef, undef, undef, undef, undef, undef, undef, undef, undef, undef, undef, undef, undef, undef, undef, undef, undef, undef, undef, undef, undef, undef, undef, undef, undef, undef, undef, undef, undef, undef, undef, undef, undef], defers := [] }) ?assign ?body ?done
  case assign =>
    intro l xd W K hK
    dsimp only [ydE]
    gi_wp2
    exact hK
  case body =>
    rintro l sv pre xd W hsW hI hR hn
    obtain ⟨k, ms, kv, mv⟩ := xd
    obtain ⟨Ak, kn, ck, rfl, -⟩ : ∃ A l c, kv = .slice A l c ∧ True := by obtain ⟨A, c, e, _⟩ := hR.1.form; exact ⟨A, _, c, e, trivial⟩
    obtain ⟨Am, mn, cm, rfl, -⟩ : ∃ A l c, mv = .slice A l c ∧ True := by obtain ⟨A, c, e, _⟩ := hR.2.1.form; exact ⟨A, _, c, e, trivial⟩
    obtain ⟨v, A9, c9, w9, hb, ⟨A1, n1, c1, rfl⟩, hrun, hb9, hbk, hfr, hli⟩ := hI.step hsW (by have := HA.out; omega) hR (by have := HL.out; omega)
    have b0 := hb.cell 0
    have b9 := hb9.cell 0
    have z9 := hb9.frozen 0
    have HRUN := Lib.hid hrun
    have HE : Hid (∀ act, bodyQ w4.heap.size (fun k => k = B + 1 ∨ k = B ∨ N0 ≤ k) (fun pre W => LI B (B + 1) N0 w4 W.heap.size pre W) (pre ++ [⟨k, ms, .slice Ak kn ck, .slice Am mn cm⟩]) W .normal act (w9.setCell ⟨B + 1, 0, none⟩ (.slice A9 (pre.length + 1) c9))) := Lib.hid fun act => by
      rw [HN0.out]; exact ⟨hbk, hfr, hli⟩
    have hlt := hb.lt
    have hlt9 := hb9.lt
    clear hI hR hb hb9 hrun hbk hfr hli
    gi_wp2_with (gi_at_builtin; refine wpListIn_add rfl _ _ _ _ rfl _ _ _ _ rfl rfl (HRUN.out _) ?_)
    exact HE.out _
  case done =>
    rintro D xs W hD hS ⟨-, ⟨v, hb, hg, ho⟩, hfr⟩ hK
    have hlen : (lT xs).length ≤ fs.length := by
      rw [hS]
      unfold keyedL
      rw [List.length_map]
      exact List.length_filter_le _ _
    have b0 := hb.cell 0
    have hlt := hb.lt
    have HSO := Lib.hid (sortE_any hg (by have := HL.out; omega))
    have HB := Lib.hid hb
    have HO : Hid (∀ k, v.ownBlock = some k → k = B ∨ N0 ≤ k) := Lib.hid fun k hk => (ho k hk).2
    have HC : Hid (∀ k, v.ownBlock = some k → IsC W k) := Lib.hid fun k hk => by
      obtain ⟨K, xs, how, _⟩ := hg
      obtain ⟨cur, hc2⟩ := own_row how hk
      exact ⟨_, _, _, hc2⟩
    obtain ⟨A1, c1, rfl⟩ := hg.len
    have HK := Lib.hid hK
    have HFR := Lib.hid hfr
    have HS := Lib.hid hS
    have HLN := Lib.hid hlen
    obtain ⟨n1, hn1⟩ : ∃ x, (lT xs).length = x := ⟨_, rfl⟩
    rw [hn1] at b0 HSO HB HO HC HLN
    have HN1 := Lib.hid hn1
    clear hb hg ho hfr hK hS hlen hn1
    gi_wp2_with (refine ⟨trivial, ?_⟩; gi_at_call 42; refine (callsIn_wide.2 HSO.out).mono ?_; rintro e wb ⟨rfl, l', hpm, hso, hgb, fb⟩; have HPM := Lib.hid hpm; have HSOR := Lib.hid hso; have HGB := Lib.hid hgb; have HFB := Lib.hid fb; have hbb := HB.out.of (fb.block (B + 1) hlt (fun h => by have := HO.out _ h; have := HA.out; omega)); have bb0 := hbb.cell 0; have hbl := hbb.lt; have HBB := Lib.hid hbb; clear hpm hso hgb fb hbb)
    obtain ⟨N1, hN1⟩ : ∃ x, wb.heap.size = x := ⟨_, rfl⟩
    obtain ⟨wd, hwd⟩ : ∃ x, wb.alloc (.cells #[] 50) = x := ⟨_, rfl⟩
    rw [hwd, hN1]
    have fc : Fr No wb wd := by rw [← hwd]; exact (Fr.refl No wb).alloc _
    have hB1 : B + 2 ≤ N1 := by omega
    have HRG : Hid (RG B N1 wd (.slice (some ⟨N1, 0, none⟩) 0 0) []) := Lib.hid (by
      refine ⟨fun _ => False, [], ⟨by simp, .inr ⟨N1, 0, #[], rfl, Nat.le_refl _, ?_, Nat.le_refl _, by decide, by simp, by simp⟩⟩, fun j hj => absurd hj (by simp), fun k hk => hk.elim⟩
      rw [← hwd, ← hN1]
      exact heap_alloc_new wb _)
    have HFC := Lib.hid fc
    have HN1' := Lib.hid hN1
    have hl1 : n1 = l'.length := by rw [HPM.out.length_eq, HN1.out]
    have HL1 := Lib.hid hl1
    have HENT : Hid (∀ wr, Fr (fun k => N1 ≤ k) wb wr → Blk wr (B + 1) 78 #[.slice A1 n1 c1] ∧ ∀ j (h : j < l'.length), ∃ ge Ak kn ck Am mn cm, A1 = some ⟨ge, 0, none⟩ ∧ ge < wr.heap.size ∧ wr.cell? ⟨ge, j * 2, none⟩ = some (.slice Ak kn ck) ∧ wr.cell? ⟨ge, j * 2 + 1, none⟩ = some (.slice Am mn cm) ∧ KRz (fun k => B ≤ k ∧ k < N1) wr (.slice Ak kn ck) l'[j].1 ∧ IR (fun k => k < N1) wr (.slice Am mn cm) l'[j].2) := Lib.hid fun wr f => by
      refine ⟨HBB.out.of (f.block (B + 1) hbl (by omega)), fun j h => ?_⟩
      obtain ⟨ge, Ak, kn, ck, Am, mn, cm, e1, -, h2, h3, h4, h5, h6, h7⟩ := ent_at HGB.out h
      have e := f.block ge h3 (by omega)
      rw [hN1] at h6 h7
      exact ⟨ge, Ak, kn, ck, Am, mn, cm, e1, heap_lt h3 e, (cell_of_heap e).trans h4, (cell_of_heap e).trans h5, h6.mono (fun k hk hlt => ⟨hk, f.block k hlt (by omega)⟩) (fun _ _ h => h), h7.mono (fun k hk hlt => ⟨hk, f.block k hlt (by omega)⟩) fun _ _ h => h⟩
    clear hN1 hwd fc hl1 b0 hlt
    refine wpIn_wide.2 (wp_noP ?_)
    go_loopg [12, 34] n1 (fun g r12 r34 wr => Hid (∃ (j a : Nat) (A2 : Option Addr) (c2 : Nat), r34 = .int .i64 (j : Nat) ∧ j + g = n1 ∧ r12 = .slice A2 a c2 ∧ a = (rowsL z (l'.take j)).length ∧ RG B N1 wr (.slice A2 a c2) (rowsL z (l'.take j)) ∧ Wf (rowsL z (l'.take j)) ∧ Fr (fun k => N1 ≤ k) wb wr))
    case atStart => exact Lib.hid ⟨0, 0, _, _, rfl, by omega, rfl, rfl, HRG.out, Wf.nil, HFC.out.any⟩
    case round =>
      obtain ⟨j, a, A2, c2, rfl, hjn, rfl, ha, hrg, hwf, hfr⟩ := hrel.out
      clear hrel
      have HA2 := Lib.hid ha
      have HRGJ := Lib.hid hrg
      have HWF := Lib.hid hwf
      have HFRJ := Lib.hid hfr
      clear ha hrg hwf
      have hjn' : j ≤ n1 := by omega
      by_cases hj : j < n1
      · have hjl : j < l'.length := by rw [← HL1.out]; exact hj
        obtain ⟨hbx, hent⟩ := HENT.out wr hfr
        obtain ⟨ge, Ak, kn, ck, Am, mn, cm, rfl, hgl, e0, e1, hkr, hir⟩ := hent j hjl
        have HSTEP : Hid (rowsL z (l'.take (j + 1)) = lastG takeA z (rowsL z (l'.take j)) l'[j].1 l'[j].2) := Lib.hid (by rw [take_succ hjl, rowsL_snoc])
        have HRL : Hid ((rowsL z (l'.take j)).length < 4000000) := Lib.hid (by
          have h1 := rowsL_len z (l'.take j)
          have h2 : (l'.take j).length ≤ j := List.length_take_le _ _
          have := HLN.out
          have := HL.out
          omega)
        have HWFL := Lib.hid (wf_last (z := z) (by rw [← HZ.out]; exact new_lok _) HWF.out (k := l'[j].1) hir.i64s)
        obtain ⟨R, hR⟩ : ∃ R, rowsL z (l'.take j) = R := ⟨_, rfl⟩
        obtain ⟨k, hk⟩ : ∃ k, l'[j].1 = k := ⟨_, rfl⟩
        obtain ⟨ms, hms⟩ : ∃ k, l'[j].2 = k := ⟨_, rfl⟩
        have HLAST : Hid (∀ (i : Nat) (h : i < l'.length), j = i + 1 → (R.getLast?).map Rw.key = some l'[i].1) := Lib.hid fun i h e => by rw [← hR, e]; exact rowsL_last z h
        have HR0 : Hid (j = 0 → R = []) := Lib.hid fun e => by rw [← hR, e]; rfl
        rw [hR, hk, hms] at HSTEP HWFL
        rw [hR] at HRL HA2 HRGJ HWF
        rw [hk] at hkr
        rw [hms] at hir
        obtain ⟨q, hq⟩ : ∃ q, wr.heap.size = q := ⟨_, rfl⟩
        obtain ⟨w1, hw1⟩ : ∃ x, wr.alloc (.cells #[.slice Ak kn ck, .slice Am mn cm] 80) = x := ⟨_, rfl⟩
        have f1 : Fr No wr w1 := by rw [← hw1]; exact (Fr.refl No wr).alloc _
        have hqb : Blk w1 q 80 #[.slice Ak kn ck, .slice Am mn cm] := by rw [← hw1, ← hq]; exact Blk.new wr 80 _
        have hfr1 : Fr (fun k => N1 ≤ k) wb w1 := hfr.trans f1 fun _ _ h => h.elim
        have HOWN : Hid ((Value.slice A2 a c2).ownBlock ≠ some q ∧ N1 ≤ w1.heap.size) := Lib.hid ⟨fun e => by have := (HRGJ.out.lt q e).2; omega, by have := hfr1.size; have := HN1'.out; omega⟩
        have HADD : Hid (∀ W wx zv, Fr No w1 W → Fr No W wx → PO W.heap.size wx zv z.parts → ∃ gr c w', (∀ ty, (Builtin.append_ #[28, 28] ty #[.slice A2 a c2, .slice (some ⟨wx.heap.size, 0, none⟩) 1 1]).run Tryz.prog (wx.alloc (.cells #[.slice Ak kn ck, .int .i64 z.count, zv] 50)) = .ok (.slice (some ⟨gr, 0, none⟩) (a + 1) c) w') ∧ RG B N1 w' (.slice (some ⟨gr, 0, none⟩) (a + 1) c) (R ++ [⟨k, z⟩]) ∧ Fr (fun j => (Value.slice A2 a c2).ownBlock = some j) w1 w' ∧ gr < w'.heap.size) := Lib.hid fun W wx zv fa fb' hpo => by
          have fx : Fr No wr W := f1.trans fa fun _ _ h => h
          have hs1 := fa.size
          have hs2 := HOWN.out.2
          have hal := HA2.out
          obtain ⟨A3, c3, w', h1, h2, h3⟩ := (HRGJ.out.keep fx).add fb' (hkr.no (fx.trans fb' fun _ _ h => h)) hpo (by omega) HRL.out
          obtain ⟨gr, rfl, h4, h5, h6⟩ := h2.sm (by simp)
          rw [← hal] at h1 h2
          exact ⟨gr, c3, w', h1, h2, fa.any.trans h3 fun _ _ h => h, h6⟩
        have HTAKE : Hid (∀ W W' v (acc : Ac), Fr (fun j => (Value.slice A2 a c2).ownBlock = some j) w1 W → Fr No W W' → PR (fun k => B ≤ k) W v acc.parts → Lok acc.parts → Calls Tryz.prog 40 #[.agg #[.int .i64 acc.count, v], .slice Am mn cm] W' (TellsA (takeA acc ms) W')) := Lib.hid fun W W' v acc fa fb' hpr hlk => by
          refine take_any acc.count acc.parts ms v (.slice Am mn cm) W' (hpr.no fb') hlk (IR.no (RowE.mono (hir.no f1) (fun k hk hlt => ⟨hk, fa.block k hlt fun e => by have := (HRGJ.out.lt k e).1; omega⟩) fun _ _ h => h) fb')
        have HFIN : Hid (∀ gr c w8 w9 v9 i R1 (acc : Ac), RG B N1 w8 (.slice (some ⟨gr, 0, none⟩) (i + 1) c) R1 → i < R1.length → Fr (fun j => (Value.slice A2 a c2).ownBlock = some j) w1 w8 → Fr No w8 w9 → PO w8.heap.size w9 v9 (takeA acc ms).parts → lastG takeA z R k ms = setA R1 i (takeA acc ms) → R1.length = i + 1 →
            Hid (SRel B N1 z l' wb j gr i c ((w9.setCell ⟨gr, i * 3 + 1, none⟩ (.int .i64 (takeA acc ms).count)).setCell ⟨gr, i * 3 + 2, none⟩ v9))) := Lib.hid fun gr c w8 w9 v9 i R1 acc h1 h2 h3 h4 h5 h6 h7 => by
          have hs1 := h3.size
          have hs2 := HOWN.out.2
          have h8 : Fr (fun k => N1 ≤ k) wb w8 := hfr1.trans h3 fun k _ h => by have := (HRGJ.out.lt k h).1; exact this
          obtain ⟨s1, s2⟩ := sort_fin h1 h2 (takeA acc ms) h4 h5 (by omega) h8
          refine Lib.hid ⟨j + 1, i + 1, _, c, by go_num, rfl, rfl, ?_, ?_, ?_, s2⟩
          · rw [HSTEP.out, h6, setA_len, h7]
          · rw [HSTEP.out, h6]; exact s1
          · rw [HSTEP.out]; exact HWFL.out
        have hqlt := hqb.lt
        have HQ := Lib.hid hqb
        have HF1 := Lib.hid f1
        have HFR1 := Lib.hid hfr1
        have HBX := Lib.hid (hbx.no f1)
        have b91 := (hbx.no f1).cell 0
        have hb91 := (hbx.no f1).lt
        have q0 := hqb.cell 0
        have q1 := hqb.cell 1
        have hmx : Tryz.prog.follows .mixedOrders = true := by kernel_rfl
        have HKR := Lib.hid (hkr.no f1)
        have HHENT := Lib.hid (HENT.out w1 hfr1).2
        have HLZ : Hid (Lok z.parts) := Lib.hid (by rw [← HZ.out]; exact new_lok _)
        have HQW := Lib.hid hq
        have HW1 := Lib.hid hw1
        clear hbx hent hkr hir hR hk hms f1 hqb hfr1 hfr hq hw1
        obtain ⟨b, hb⟩ : ∃ b : Bool, b = (decide (j = 0) || decide (∃ i, ∃ h : i < l'.length, j = i + 1 ∧ l'[i].1 ≠ k)) := ⟨_, rfl⟩
        have HLB1 : Hid (b = true → (R.getLast?).map Rw.key ≠ some k) := Lib.hid fun e => by
          rw [e] at hb
          by_cases h0 : j = 0
          · rw [HR0.out h0]; simp
          · rw [decide_eq_false h0, Bool.false_or] at hb
            obtain ⟨i, hi, h1, h2⟩ := of_decide_eq_true hb.symm
            rw [HLAST.out i hi h1]
            exact fun e => h2 (Option.some.inj e)
        have HLB2 : Hid (b = false → (R.getLast?).map Rw.key = some k) := Lib.hid fun e => by
          rw [e] at hb
          by_cases h0 : j = 0
          · rw [decide_eq_true h0] at hb; simp at hb
          · rw [decide_eq_false h0, Bool.false_or] at hb
            obtain ⟨i, hi⟩ : ∃ i, j = i + 1 := ⟨j - 1, by omega⟩
            have hil : i < l'.length := by omega
            rw [HLAST.out i hil hi]
            by_cases h2 : l'[i].1 = k
            · rw [h2]
            · rw [decide_eq_true (⟨i, hil, hi, h2⟩ : ∃ i, ∃ h : i < l'.length, j = i + 1 ∧ l'[i].1 ≠ k)] at hb; cases hb
        have HBB2 := Lib.hid hb
        clear hb
        go_upto_region 11 with fail
        rw [HQW.out, HW1.out]
        go_cut [52] from 39 to 76 (fun v wx => v = .bool b ∧ Hid (Fr No w1 wx))
        case first =>
          by_cases h0 : j = 0
          · have hb : b = true := by rw [HBB2.out, decide_eq_true h0]; rfl
            have hjb : ((j : Int) == 0) = true := by simp [h0]
            clear h0
            go_quiet (fail)
            go_wp2_with fail
            go_meet
            exact ⟨by rw [hb], Lib.hid ((Fr.refl No w1).drewN _)⟩
          · obtain ⟨i, hji⟩ : ∃ i, j = i + 1 := ⟨j - 1, by omega⟩
            have hjb : ((j : Int) == 0) = false := by simp [h0]
            have hil : i < l'.length := by omega
            obtain ⟨ge', A3, n3, c3, A4, n4, c4, e, hgl', d0, d1, hkr3, -⟩ := HHENT.out i hil
            have e' : ge = ge' := by injection e with e; injection e
            subst e'
            have HCMP := fun n' => Lib.hid (Calls.quiet_of_same (P := Tryz.prog) (w := w1) (n := n') ((compare_x (w1.drewN n') (hkr3.no ((Fr.refl No w1).drewN n')).1 (HKR.out.no ((Fr.refl No w1).drewN n')).1).mono fun e w'' ⟨h1, h2⟩ => ⟨h1, h2.symm⟩))
            have hb : b = (cmpK l'[i].1 k != 0) := by
              rw [HBB2.out]
              by_cases hk : l'[i].1 = k
              · rw [(cmpK_zero _ _).2 hk]
                simp
                simp [h0]
                intro i' e h
                have e2 : i = i' := by omega
                subst e2
                exact hk
              · have h1 : (cmpK l'[i].1 k) ≠ 0 := fun e => hk ((cmpK_zero _ _).1 e)
                have h2 : ∃ i', ∃ h : i' < l'.length, j = i' + 1 ∧ l'[i'].1 ≠ k := ⟨i, hil, hji, hk⟩
                rw [decide_eq_true h2]
                simp [h1]
            obtain ⟨x9, hx9⟩ : ∃ x, cmpK l'[i].1 k = x := ⟨_, rfl⟩
            rw [hx9] at hb HCMP
            have hsub : (j : Int) - 1 = (i : Int) := by omega
            have hni : (i : Int) < (n1 : Int) := by omega
            have hib : i < 4000000 := by have := HLN.out; have := HL.out; omega
            have hwr1 : IntKind.i64.wrap (i : Int) = (i : Int) := IntWalk.i64_in _ (by omega)
            have hwr2 : wrap64 (i : Int) = (i : Int) := by unfold wrap64; omega
            clear hji h0
            go_quiet ((go_at_call 25; exact (HCMP _).out))
            go_wp2_with fail
            go_meet
            exact ⟨by rw [hb], Lib.hid ((Fr.refl No w1).drewN _)⟩
        case rest =>
          obtain ⟨rfl, HW⟩ := hcut
          go_upto_if 52 with fail
          go_cut [12] from 39 to 76 (fun v wx => ∃ gr i c, v = .slice (some ⟨gr, 0, none⟩) (i + 1) c ∧ Hid (∃ R1 acc, RG B N1 wx (.slice (some ⟨gr, 0, none⟩) (i + 1) c) R1 ∧ R1.length = i + 1 ∧ Fr (fun j => (Value.slice A2 a c2).ownBlock = some j) w1 wx ∧ lastG takeA z R k ms = setA R1 i (takeA acc ms) ∧ (∀ h : i < R1.length, R1[i].acc = acc) ∧ Lok acc.parts))
          case first =>
            have qc0 := (HQ.out.no HW.out).cell 0
            have hqc := (HQ.out.no HW.out).lt
            cases b with
            | false =>
              have hkl := HLB2.out rfl
              have hRl : 0 < R.length := by
                rcases R with _ | ⟨r, R⟩
                · simp at hkl
                · simp
              obtain ⟨i, hi⟩ : ∃ i, a = i + 1 := ⟨a - 1, by have := HA2.out; omega⟩
              have hRG := HRGJ.out
              have hal := HA2.out
              subst hi
              obtain ⟨gr, rfl, h4, h5, h6⟩ := hRG.sm hRl
              go_wp2_with fail
              go_meet
              have hil : R.length - 1 < R.length := by omega
              have hei : R.length - 1 = i := by omega
              have hold := lastG_old (z := z) (ns := ms) hkl hil
              refine ⟨gr, i, c2, by rw [hal], Lib.hid ⟨R, R[R.length - 1].acc, hRG.keep (HF1.out.trans HW.out fun _ _ h => h), hal.symm, HW.out.any, ?_, ?_, HWF.out _ (List.getElem_mem _)⟩⟩
              · rw [hold]; simp only [hei]
              · intro h
                congr 1
                simp only [hei]
            | true =>
              go_wp2_with fail
              go_region_law (first
                | (obtain ⟨gr, cg, w9, hrun, hrg, hfo, hgl9⟩ := HEA; refine step_add (by rfl) _ _ _ _ (by rfl) _ _ _ _ (by rfl) (by rfl) (hrun _) ?_)
                | (obtain ⟨gr, cg, w9, hrun, hrg, hfo, hgl9⟩ := HEB; refine step_add (by rfl) _ _ _ _ (by rfl) _ _ _ _ (by rfl) (by rfl) (hrun _) ?_)
                | (go_simp; go_at_call 37; refine (HN.out _).mono ?_; rintro e w6 ⟨zv, rfl, hpo, f6⟩; obtain ⟨Zv, zc, rfl, -⟩ := hpo.pr.form; have HEA := HADD.out _ w6 _ (by first | exact HW.out | exact HW.out.drew | exact HW.out.drew.drew) f6 hpo; have HEB := HADD.out _ w6.drew _ (by first | exact HW.out | exact HW.out.drew | exact HW.out.drew.drew) f6.drew (hpo.no (Fr.refl _ _).drew); have q06 := (cell_of_heap (f6.block q hqc id) (o := 0)).trans qc0; clear hpo f6))
              all_goals (go_simp; go_wp2_with fail)
              all_goals go_meet
              all_goals exact ⟨gr, a, cg, rfl, Lib.hid ⟨R ++ [⟨k, z⟩], z, hrg, by rw [List.length_append, ← HA2.out]; rfl, hfo, by rw [HA2.out]; exact lastG_new (HLB1.out (by first | rfl | trivial)), fun h => by simp [HA2.out], HLZ.out⟩⟩
          case rest =>
            obtain ⟨gr, i, cg, rfl, HR1⟩ := hcut
            obtain ⟨R1, acc, hrg1, hlen1, hfo1, hstep1, hacc1, hlok1⟩ := HR1.out
            have hi1 : i < R1.length := by omega
            obtain ⟨⟨Ap, mp, cp, x1, x2, hpr⟩, hfz⟩ := hrg1.look hi1
            rw [hacc1 hi1] at x1 hpr
            have hgrl := (hrg1.lt gr rfl).2
            have hqc := HQ.out.of (hfo1.block q HQ.out.lt HOWN.out.1)
            have q1c := hqc.cell 1
            have hqcl := hqc.lt
            have HTC : Hid (∀ w', Fr No wc w' → Calls Tryz.prog 40 #[.agg #[.int .i64 acc.count, .slice Ap mp cp], .slice Am mn cm] w' (TellsA (takeA acc ms) w')) := Lib.hid fun w' f' => HTAKE.out wc w' _ acc hfo1 f' hpr.1 hlok1
            have HEND := Lib.hid (fun w9 v9 (f : Fr No wc w9) (hpo : PO wc.heap.size w9 v9 (takeA acc ms).parts) => HFIN.out gr cg wc w9 v9 i R1 acc hrg1 hi1 hfo1 f hpo hstep1 hlen1)
            have z1 := hfz (i * 3 + 1)
            have z2 := hfz (i * 3 + 2)
            have HU : Hid (∀ w', Fr No wc w' → w'.cell? ⟨gr, i * 3 + 1, none⟩ = some (.int .i64 acc.count) ∧ w'.cell? ⟨gr, i * 3 + 2, none⟩ = some (.slice Ap mp cp) ∧ w'.frozen? ⟨gr, i * 3 + 1, none⟩ = false ∧ w'.frozen? ⟨gr, i * 3 + 2, none⟩ = false ∧ w'.cell? ⟨q, 1, none⟩ = some (.slice Am mn cm)) := Lib.hid fun w' f' => by
              have e := f'.block gr hgrl id
              refine ⟨(cell_of_heap e).trans x1, (cell_of_heap e).trans x2, ?_, ?_, (hqc.no f').cell 1⟩
              · simp only [World.frozen?] at z1 ⊢; rw [e]; exact z1
              · simp only [World.frozen?] at z2 ⊢; rw [e]; exact z2
            obtain ⟨ac0, hac0⟩ : ∃ x, acc.count = x := ⟨_, rfl⟩
            obtain ⟨am, ham⟩ : ∃ x, takeA acc ms = x := ⟨_, rfl⟩
            rw [hac0] at x1 HTC HU
            rw [ham] at HTC HEND
            have hib : i < 4000000 := by
              have h1 := HRL.out
              have h2 := lastG_len takeA z R k ms
              rw [hstep1, setA_len] at h2
              omega
            have hwr1 : IntKind.i64.wrap (i : Int) = (i : Int) := IntWalk.i64_in _ (by omega)
            have hjb4 : j < 4000000 := by have := HLN.out; have := HL.out; omega
            have HWRJ : Hid (wrap64 ((j : Int) + 1) = (j : Int) + 1) := Lib.hid (by unfold wrap64; omega)
            clear hrg1 hlen1 hfo1 hstep1 hacc1 hlok1 hi1 hpr hfz hqc hac0 ham
            obtain ⟨g1, rfl⟩ := pos_succ2 hjn hj
            have HJG : Hid (j + 1 + g1 = n1) := Lib.hid (assoc2 hjn)
            go_wp2_with fail
            go_region_law (go_simp; go_at_call 40; refine (HTC.out _ (by first | exact Fr.refl _ _ | exact (Fr.refl _ _).drew | exact (Fr.refl _ _).drew.drew)).mono ?_; rintro e w9 ⟨v9, rfl, hpo, f9⟩; have f19 : Fr No wc w9 := (Fr.refl No wc).drew.trans f9 fun _ _ h => h; obtain ⟨u1', u2', v1', v2', y1'⟩ := HU.out w9 f19; have HE3 := Lib.hid (HEND.out w9 v9 f19 hpo); obtain ⟨V3, k3, rfl, -⟩ := hpo.pr.form; clear hpo f9 f19)
            all_goals (go_simp; go_wp2_with fail)
            all_goals
              go_roundg g1
              case rel => first | exact sort_relW HWRJ.out HJG.out HE3.out | exact sort_rel HJG.out HE3.out
              all_goals first | exact Nat.lt_succ_self _ | (go_light; omega)
      · have hje : j = n1 := by omega
        subst hje
        have HT : Hid (l'.take j = l') := Lib.hid (List.take_of_length_le (by rw [HL1.out]; exact Nat.le_refl _))
        go_wp2_with fail
        gi_wp2
        have hD1 : D < W.heap.size := (Array.getElem?_eq_some_iff.1 HK.out).1
        have hKb : wb.heap[D]? = some (.deferred (some [])) := (HFB.out.block D hD1 fun h => not_isC HK.out rfl (HC.out D h)).trans HK.out
        have hKr : wr.heap[D]? = some (.deferred (some [])) := (hfr.block D (Array.getElem?_eq_some_iff.1 hKb).1 (by have := (Array.getElem?_eq_some_iff.1 hKb).1; have := HN1'.out; omega)).trans hKb
        refine ⟨by simp, .inl ⟨_, _, rfl, run_takeDeferred hKr, ?_⟩⟩
        have hl' : rowsL z l' = grpL takeA z (keyedL M (listB s) fs) := by rw [← HS.out]; exact rows_sorted z HPM.out HSOR.out
        have hgr := HRGJ.out
        have ha := HA2.out
        rw [HT.out, hl'] at hgr ha
        have f1 : Fr (fun k => B ≤ k) w wr := ((HF04.out.any.trans HFR.out fun k _ h => by have := HA.out; rcases h with h | h | h <;> omega).trans HFB.out fun k _ h => by have := HA.out; rcases HO.out k h with h | h <;> omega).trans hfr fun k _ h => by omega
        have f2 := fr_put (o := .deferred none) f1 (show B ≤ D by have := HN0.out; have := HA.out; omega)
        refine ⟨_, results_tmp rfl _ _ _, A2, a, c2, rfl, ha, RowE.turn rwU_elem rwU_c (by decide) (hgr.rr (by omega)) (frc_put hKr rfl), ⟨f2.os, f2.tape, f2.output, f2.size, fun k hk _ => f2.block k hk (by have := HBS.out; omega)⟩⟩
end Go.Proofs.YtlpglijikmnopaaGreatDoor
