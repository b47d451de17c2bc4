/- Copy, walked. -/
import Derived.Test.YtccjkolcmdhliaaGreatDoorY2
namespace Go.Proofs.YtccjkolcmdhliaaGreatDoor
open Go.RowKit Go.Maps Go.Shelf Go.Proofs
set_option linter.unusedVariables false

/-- Behind the first region. -/
def CpM (S : AS) (w : World) (cv : Value) (wx : World) : Prop :=
  ∃ (q : World) (x y : Option Nat) (A : Option Addr) (c k : Nat), CSt S w q (some x) (some y) (some (.slice A S.loose.length c)) (some k) ∧ cv = .pointer (some ⟨q.heap.size, 0, none⟩) ∧ wx = q.alloc (.cells (cpCells S 0 x y (.slice A S.loose.length c) k) 84)
theorem CpM.mk_ {S : AS} {w q : World} {x y : Option Nat} {A : Option Addr} {c k : Nat} (h : CSt S w q (some x) (some y) (some (.slice A S.loose.length c)) (some k)) :
    CpM S w (.pointer (some ⟨q.heap.size, 0, none⟩)) (q.alloc (.cells #[.int .i64 S.room, .bool S.on, .bool S.armed, .int .i64 S.left, .int .i64 0, .map x, .map y, .slice A S.loose.length c, .map (some k), .int .i64 S.last] 84)) := ⟨q, x, y, A, c, k, h, rfl, rfl⟩
theorem CpM.mk2 {S : AS} {w q : World} {x y : Option Nat} {A : Option Addr} {c : Nat} (h : CSt S w q (some x) (some y) (some (.slice A S.loose.length c)) none) :
    CpM S w (.pointer (some ⟨q.heap.size + 1, 0, none⟩)) ((q.alloc (.map #[] 0)).alloc (.cells #[.int .i64 S.room, .bool S.on, .bool S.armed, .int .i64 S.left, .int .i64 0, .map x, .map y, .slice A S.loose.length c, .map (some q.heap.size), .int .i64 S.last] 84)) := by
  have e : (q.alloc (.map #[] 0)).heap.size = q.heap.size + 1 := by simp
  have := CpM.mk_ h.alloc
  rw [e] at this
  exact this
set_option maxRecDepth 100000 in
set_option maxHeartbeats 8000000 in
theorem copy_any (d nb fb : Nat) (R : Rp) (S : AS) (w : World) (h : At w d R S) (hW : WF S) (hl : S.loose.length ≤ 1000000000000) (hsz : Maps.size R.FD < maxLen) (hnm : R.nm = some nb) (hfb : R.fb = some fb) :
    Calls Tryz.prog 31 #[.pointer (some ⟨d, 0, none⟩)] w (CpQ S w) := by
  have hcA : ∀ wx b c m, CSt S w wx none b c m → Calls Tryz.prog 80 #[.map R.nm] wx fun e w' => ∃ x, e = .returned (.map x) ∧ CSt S w w' (some x) b c m := fun wx b c m hc => hc.callA h hnm
  have hcB : ∀ wx a c m, CSt S w wx a none c m → Calls Tryz.prog 80 #[.map R.fm] wx fun e w' => ∃ x, e = .returned (.map x) ∧ CSt S w w' a (some x) c m := fun wx b c m hc => hc.callB h
  have hcC : ∀ wx a b m, CSt S w wx a b none m → Calls Tryz.prog 81 #[R.lv] wx fun e w' => ∃ A c, e = .returned (.slice A S.loose.length c) ∧ CSt S w w' a b (some (.slice A S.loose.length c)) m := fun wx b c m hc => hc.callC h hl
  have hce : ∀ wx, Fr No w wx → wx.cell? ⟨d, 0, none⟩ = some (.int .i64 S.room) ∧ wx.cell? ⟨d, 1, none⟩ = some (.bool S.on) ∧ wx.cell? ⟨d, 2, none⟩ = some (.bool S.armed) ∧ wx.cell? ⟨d, 3, none⟩ = some (.int .i64 S.left) ∧
      wx.cell? ⟨d, 5, none⟩ = some (.map R.nm) ∧ wx.cell? ⟨d, 6, none⟩ = some (.map R.fm) ∧ wx.cell? ⟨d, 7, none⟩ = some R.lv ∧ wx.cell? ⟨d, 9, none⟩ = some (.int .i64 S.last) := fun wx hf => by
    obtain ⟨c0, c1, c2, c3, c4, c5, c6, c7, c8, c9⟩ := cells_all (h.keep hf)
    exact ⟨c0, c1, c2, c3, c5, c6, c7, c9⟩
  have hmm := @run_makeMap Tryz.prog
  have H := Lib.hid h
  have HW := Lib.hid hW
  have HA := Lib.hid hcA
  have HB := Lib.hid hcB
  have HC := Lib.hid hcC
  have HE := Lib.hid hce
  have HFB := Lib.hid hfb
  have HS : Hid (CSt S w w.drew none none none none) := Lib.hid (CSt.start S w w.drew (Fr.refl No w).drew)
  have HS0 : Hid (CSt S w (w.alloc (.map #[] 0)).drew none none none (some w.heap.size)) := Lib.hid ((CSt.start S w w (Fr.refl No w)).alloc.step (Fr.refl No _).drew)
  clear hcA hcB hcC hce h hW hfb
  obtain ⟨nm, hnm'⟩ : ∃ x, R.nm = x := ⟨_, rfl⟩
  obtain ⟨fm, hfm⟩ : ∃ x, R.fm = x := ⟨_, rfl⟩
  obtain ⟨lv, hlv⟩ : ∃ x, R.lv = x := ⟨_, rfl⟩
  rw [hnm', hfm, hlv] at HE
  rw [hnm'] at HA
  rw [hfm] at HB
  rw [hlv] at HC
  clear hnm hnm' hfm hlv
  go_enter Tryz.func31, Tryz.ntmps31
  go_upto_region 3 with fail
  go_cut [3] (fun cv wx => CpM S w cv wx)
  case first =>
    go_region_held3 (fun w' => w'.cell? ⟨d, 0, none⟩ = some (.int .i64 S.room) ∧ w'.cell? ⟨d, 1, none⟩ = some (.bool S.on) ∧ w'.cell? ⟨d, 2, none⟩ = some (.bool S.armed) ∧ w'.cell? ⟨d, 3, none⟩ = some (.int .i64 S.left) ∧
        w'.cell? ⟨d, 5, none⟩ = some (.map nm) ∧ w'.cell? ⟨d, 6, none⟩ = some (.map fm) ∧ w'.cell? ⟨d, 7, none⟩ = some lv ∧ w'.cell? ⟨d, 9, none⟩ = some (.int .i64 S.last))
      (first | exact HE.out _ HS.out.fr | exact HE.out _ (HS.out.alloc).fr | exact HE.out _ HS0.out.fr | go_keep)
      (first
        | (go_at_call 81; (with_reducible refine (HC.out _ _ _ _ HS0.out).mono ?_); rintro e wa ⟨A1, c1, rfl, hs⟩; clear HS; have HS := Lib.hid hs; clear hs)
        | (go_at_call 80; (with_reducible refine (HA.out _ _ _ _ HS0.out).mono ?_); rintro e wa ⟨x1, rfl, hs⟩; clear HS; have HS := Lib.hid hs; clear hs)
        | (go_at_call 80; (with_reducible refine (HB.out _ _ _ _ HS0.out).mono ?_); rintro e wa ⟨x1, rfl, hs⟩; clear HS; have HS := Lib.hid hs; clear hs)
        | (go_at_call 81; (with_reducible refine (HC.out _ _ _ _ HS.out).mono ?_); rintro e wa ⟨A1, c1, rfl, hs⟩; clear HS; have HS := Lib.hid hs; clear hs)
        | (go_at_call 80; (with_reducible refine (HA.out _ _ _ _ HS.out).mono ?_); rintro e wa ⟨x1, rfl, hs⟩; clear HS; have HS := Lib.hid hs; clear hs)
        | (go_at_call 80; (with_reducible refine (HB.out _ _ _ _ HS.out).mono ?_); rintro e wa ⟨x1, rfl, hs⟩; clear HS; have HS := Lib.hid hs; clear hs)
        | (go_at_call 81; (with_reducible refine (HC.out _ _ _ _ HS.out.alloc).mono ?_); rintro e wa ⟨A1, c1, rfl, hs⟩; clear HS; have HS := Lib.hid hs; clear hs)
        | (go_at_call 80; (with_reducible refine (HA.out _ _ _ _ HS.out.alloc).mono ?_); rintro e wa ⟨x1, rfl, hs⟩; clear HS; have HS := Lib.hid hs; clear hs)
        | (go_at_call 80; (with_reducible refine (HB.out _ _ _ _ HS.out.alloc).mono ?_); rintro e wa ⟨x1, rfl, hs⟩; clear HS; have HS := Lib.hid hs; clear hs))
    all_goals (go_wp2_with fail; go_meet)
    all_goals first | exact CpM.mk_ HS.out | exact CpM.mk2 HS.out
  case rest =>
    clear HA HB HC HE HS HS0 hmm
    obtain ⟨q, x, y, A, cc, M, hst, ecv, ewc⟩ := hcut
    obtain ⟨v, hv⟩ : ∃ v : Value, Value.slice A S.loose.length cc = v := ⟨_, rfl⟩
    rw [hv] at hst ewc
    subst ecv
    subst ewc
    obtain ⟨w1, hw1⟩ : ∃ w1, q.alloc (.cells (cpCells S 0 x y v M) 84) = w1 := ⟨_, rfl⟩
    have b1 : Blk w1 q.heap.size 84 (cpCells S 0 x y v M) := by rw [← hw1]; exact Blk.new q 84 _
    have f1 : Fr No q w1 := by rw [← hw1]; exact (Fr.refl No q).alloc _
    have s1 : q.heap.size < w1.heap.size := b1.lt
    rw [hw1]
    clear hv hw1
    have hld : ∀ wx, Fr No w1 wx → Calls Tryz.prog 83 #[.pointer (some ⟨d, 4, none⟩)] wx fun e w' => e = .returned (.int .i64 S.steps) ∧ wx = w' := fun wx hf => load_any d 4 S.steps wx (cells_all (H.out.keep ((hst.fr.no f1).no hf))).2.2.2.2.1
    have hso : ∀ wx, Fr No w1 wx → Calls Tryz.prog 82 #[.pointer (some ⟨q.heap.size, 4, none⟩), .int .i64 S.steps] wx fun e w' => e = .returned (.tuple #[]) ∧ Fr (One q.heap.size) w1 w' ∧ Blk w' q.heap.size 84 (cpCells S S.steps x y v M) := fun wx hf => by
      have bx := b1.of (hf.block _ b1.lt id)
      refine (store_any q.heap.size 4 S.steps (.int .i64 0) wx (bx.cell 4) (bx.frozen 4)).mono ?_
      rintro e w' ⟨he, rfl⟩
      exact ⟨he, hf.any.set1 4 _, bx.set_ 4 _⟩
    have HLD := Lib.hid hld
    have HSO := Lib.hid hso
    have HST := Lib.hid hst
    have HB1 := Lib.hid b1
    have HF1 := Lib.hid f1
    clear hld hso hst b1 f1
    obtain ⟨c, hc⟩ : ∃ c, q.heap.size = c := ⟨_, rfl⟩
    rw [hc] at HSO HB1 s1 ⊢
    have HCQ := Lib.hid hc
    clear hc
    go_upto_region 4 with fail
    go_cut [] (fun wx => ∃ w2, w2 = wx ∧ ∃ w3, Fr (One c) w1 w3 ∧ Blk w3 c 84 (cpCells S S.steps x y v M) ∧ Fr No w3 w2)
    case first =>
      go_region_with (first
        | (go_at_call 83; (with_reducible refine (HLD.out _ (by first | exact Fr.refl No w1 | exact (Fr.refl No w1).drew)).mono ?_); rintro e wz ⟨rfl, rfl⟩)
        | (go_at_call 82; (with_reducible refine (HSO.out _ (by first | exact Fr.refl No w1 | exact (Fr.refl No w1).drew)).mono ?_); rintro e wz ⟨rfl, hz1, hz2⟩))
      all_goals (go_wp2_with fail; go_meet)
      all_goals first | exact ⟨_, rfl, _, hz1, hz2, Fr.refl No _⟩ | exact ⟨_, rfl, _, hz1, hz2, (Fr.refl No _).drew⟩
    case rest =>
      obtain ⟨w2, ew2, w3, g1, b3, g2⟩ := hcut
      subst ew2
      have f2 : Fr No q w2 := ((HF1.out.trans g1 fun j hj e => by have : j = c := e; have := HCQ.out; omega)).no g2
      have b2 : Blk w2 c 84 (cpCells S S.steps x y v M) := b3.of (g2.block _ b3.lt id)
      have hlt : q.heap.size < w2.heap.size := by rw [HCQ.out]; exact b2.lt
      have HA2 := H.out.keep (HST.out.fr.no f2)
      have k8 := (cells_all HA2).2.2.2.2.2.2.2.2.1
      have hfl := HA2.files
      rw [HFB.out] at hfl k8
      have HFL : Hid (w2.ownsMap Tryz.prog 3 ptrElem fb (Maps.size R.FD) R.FD) := Lib.hid hfl
      have HB2 := Lib.hid b2
      have HF2 := Lib.hid f2
      have hfw : fb < w.heap.size := by have := H.out.files.lt fb HFB.out; exact this
      clear f2 b2 HA2 hfl g1 b3 g2 HLD HSO HB1 HF1
      go_wp2_with (first
        | (at_range; refine wpList_range_own _ rfl _ 76 rfl 3 111 law3 Tryz.underlying76 ptrElem fb _ _ rfl HFL.out ?_; intro w0 hrg0 hg0 hs0)
        | go_in)
      have hcl := CL.start H.out HST.out HF2.out hlt (by rw [HCQ.out]; exact HB2.out) hg0 hs0
      rw [HCQ.out] at hcl
      have HCL0 := Lib.hid hcl.1
      have HMP0 := Lib.hid hcl.2
      clear hcl hg0 hs0 k8
      go_frame
      go_loopw [4, 5] (fun _ _ wr => ∃ (left : Lit → Bool) (cnt : Nat) (Dout : DU) (rc : Int → Nat × Value), wr.ranges Tryz.prog 3 ptrElem fb w2.heap.size (Maps.size R.FD) R.FD left cnt ∧ cnt ≤ Maps.size R.FD ∧ wr.ownsMap Tryz.prog 3 ptrElem M (Maps.size R.FD - cnt) Dout ∧ CL w c M w2.heap.size R S x y v left Dout rc wr)
        (fun _ _ wr => wr.rangeLeft fb w2.heap.size)
      case atStart => exact ⟨_, _, .map [], _, hrg0, Nat.le_refl _, by simpa using HMP0.out, HCL0.out⟩
      case round =>
        obtain ⟨left, cnt, Dout, rc, hrg, hcs, hmp, hcl⟩ := hrel
        have HRG := Lib.hid hrg
        have HM := Lib.hid hmp
        have HCL := Lib.hid hcl
        clear hrg hmp hcl hrg0 HCL0 HMP0
        go_wp2_with (first
          | (at_next; refine wpList_next_ranges _ rfl _ rfl 3 law3 ptrElem (Value.int .i64) (fun o : Option Nat => Value.pointer (o.map fun b => ⟨b, 0, none⟩)) (fun key kl hkey => by obtain ⟨z, rfl, _⟩ := Maps.keyOf_int_inv Tryz.underlying3 hkey; exact ⟨z, rfl⟩) (fun v y hv => ptr_inv hv) fb w2.heap.size _ _ _ _ rfl HRG.out ?_ ?_)
          | go_in)
        · intro hc0 hl0
          go_wp2
          go_ret
          exact HCL.out.fin HM.out H.out hl0
        · intro n o kl yl yp w4 cnt1 hkey hlx hv hat hrg1 hlt1 hg1 hs1 hen
          obtain ⟨n', en, rfl, hwn⟩ := Maps.keyOf_int_inv Tryz.underlying3 hkey
          cases en
          have hh : has R.FD (.int .i64 n) = true := has_true_of_atKey hat
          obtain ⟨r, hr⟩ := H.out.file_of hh
          have hfd := H.out.fd n
          rw [hr] at hfd
          obtain ⟨ga, gb, gr⟩ := hfd
          have e1 : yl = .lit (.int .i64 (R.rc n).1) := (hat .nil).symm.trans (ga .nil)
          have ho : o = some (R.rc n).1 := by
            cases o with
            | none =>
              have : some ((.nil : DU), ([] : List MemPlace)) = some (yl, yp) := hv
              cases this
              cases e1
            | some b =>
              have : some ((.lit (.int .i64 b) : DU), ([] : List MemPlace)) = some (yl, yp) := hv
              cases this
              have : (b : Int) = ((R.rc n).1 : Nat) := by simpa using e1
              rw [show b = (R.rc n).1 by omega]
          subst ho
          have hitw : w.heap.size ≤ w2.heap.size := Nat.le_trans HST.out.fr.size (by omega)
          have f4 : Fr No w w4 := HCL.out.fr.grown hg1 fun k e hk => by cases e; omega
          have hcl4 := HCL.out.of f4 (by omega) fun k hk => hg1.block k (HCL.out.lt hk) fun e => HCL.out.notIT hk (Option.some.inj e)
          have hm4 := HM.out.kept hg1 fun e => HCL.out.itx.2.2.2.2 (Option.some.inj e)
          have hce : ∀ wx, Fr No w4 wx → wx.cell? ⟨(R.rc n).1, 0, none⟩ = some (R.rc n).2 ∧ wx.cell? ⟨(R.rc n).1, 1, none⟩ = some (.int .i64 r.firm) ∧ wx.cell? ⟨c, 8, none⟩ = some (.map (some M)) := fun wx hf => by
            have g1 := gb.of ((f4.no hf).block _ gb.lt id)
            have g2 := hcl4.blk.of (hf.block _ hcl4.blk.lt id)
            exact ⟨g1.cell 0, g1.cell 1, g2.cell 8⟩
          have hbc : ∀ wx, Fr No w4 wx → Calls Tryz.prog 84 #[(R.rc n).2] wx fun e w' => ∃ A cc w5, e = .returned (.slice A r.bytes.length cc) ∧ Fr No w4 w' ∧ (Instr.mapUpdate 76 (.map (some M)) (.int .i64 n) (.pointer (some ⟨w'.heap.size, 0, none⟩))).run Tryz.prog (w'.alloc (.cells #[.slice A r.bytes.length cc, .int .i64 r.firm] 124)) = .ok () w5 ∧
              Hid (w5.ownsMap Tryz.prog 3 ptrElem M (Maps.size R.FD - cnt + 1) (Dout.put (.int .i64 n) (.lit (.int .i64 w'.heap.size))) ∧ CL w c M w2.heap.size R S x y v (fun z => left z && !z.sameKey (.int .i64 n)) (Dout.put (.int .i64 n) (.lit (.int .i64 w'.heap.size))) (upd rc n (w'.heap.size, .slice A r.bytes.length cc)) w5 ∧
                w5.ranges Tryz.prog 3 ptrElem fb w2.heap.size (Maps.size R.FD) R.FD (fun z => left z && !z.sameKey (.int .i64 n)) cnt1 ∧ w5.cell? ⟨(R.rc n).1, 0, none⟩ = some (R.rc n).2 ∧ w5.cell? ⟨(R.rc n).1, 1, none⟩ = some (.int .i64 r.firm) ∧ w5.cell? ⟨c, 8, none⟩ = some (.map (some M))) := fun wx hf => by
            refine (bclone_any wx (R.rc n).2 _ _ (own_of gr fun k hk => (f4.no hf).block k (gr.lt k hk).2 id) (by have := (HW.out.file n r hr).2.2.2; omega) (byte_one _)).mono ?_
            rintro e wa ⟨A, cc, rfl, h1, h2⟩
            have fa := hf.no (Fr.of_below h2)
            obtain ⟨w5, k1, k2, k3, k4⟩ := hcl4.store hr hh hwn hm4 (by omega) hlx hrg1 hfw wa A cc fa (own_base h1 hf.size)
            have g5 := gb.of (k3.fr.block _ gb.lt id)
            exact ⟨A, cc, w5, rfl, fa, k1, Lib.hid ⟨k2, k3, k4, g5.cell 0, g5.cell 1, k3.blk.cell 8⟩⟩
          have HCE := Lib.hid hce
          have HBC := Lib.hid hbc
          have HLQ := Lib.hid HRG.out.left_eq
          have HW4 := Lib.hid hwn
          obtain ⟨g, hg⟩ : ∃ g, (R.rc n).1 = g := ⟨_, rfl⟩
          obtain ⟨bv, hbv⟩ : ∃ b, (R.rc n).2 = b := ⟨_, rfl⟩
          obtain ⟨fi, hfi⟩ : ∃ z, r.firm = z := ⟨_, rfl⟩
          obtain ⟨bl, hbl⟩ : ∃ z, r.bytes.length = z := ⟨_, rfl⟩
          rw [hg] at hen ⊢
          rw [hg, hbv, hfi] at HCE
          rw [hg, hbv, hfi, hbl] at HBC
          clear hg hbv hfi hbl hce hbc hm4 hcl4 f4 hitw e1 ga gb gr hr hh hkey hlx hv hat hrg1 hg1 hs1 hwn HRG HM HCL HW4
          go_upto_region 8 with fail
          go_region_held3 (fun w' => w'.cell? ⟨g, 0, none⟩ = some bv ∧ w'.cell? ⟨g, 1, none⟩ = some (.int .i64 fi) ∧ w'.cell? ⟨c, 8, none⟩ = some (.map (some M)))
            (first | exact HK.out.2.2.2 | exact HCE.out _ HF4.out | exact HCE.out _ (HF4.out.alloc _) | exact HCE.out _ (Fr.refl No w4).drew | exact HCE.out _ (Fr.refl No w4) | go_keep)
            (first
              | (go_at_call 84; (with_reducible refine (HBC.out _ (Fr.refl No w4).drew).mono ?_); rintro e wa ⟨A1, c1, w5, rfl, f5, hrun, HK⟩; have HF4 := Lib.hid f5; clear f5)
              | (go_at_call 84; (with_reducible refine (HBC.out _ (Fr.refl No w4)).mono ?_); rintro e wa ⟨A1, c1, w5, rfl, f5, hrun, HK⟩; have HF4 := Lib.hid f5; clear f5))
          all_goals (go_wp2_with fail; go_roundw)
          case rel => exact ⟨_, cnt1, _, _, HK.out.2.2.1, by omega, HK.out.1.mono (by omega), HK.out.2.1⟩
          case measure => rw [HK.out.2.2.1.left_eq, HLQ.out]; exact hlt1
end Go.Proofs.YtccjkolcmdhliaaGreatDoor
