/- Append: facts behind all others, as the next batch. -/
import Derived.Test.YtmaeejojmbibnaaG1
namespace Go.Proofs.Ytmaeejojmbibnaa
open Go.RowKit Go.Maps
set_option linter.unusedVariables false

theorem done_end {w wx w3 : World} {s g cap : Nat} {Q : SRp} {S : FS} (h : SAt w s Q S) (fx : Fr No w wx) (hg : wx.grownBy w3 Q.ev.ownBlock)
    (ho3 : w3.ownsRow 0 3 1 (.slice (some ⟨g, 0, none⟩) (S.E.length + 1) cap) (S.E.length + 1) (S.E.map encN ++ [.int .i64 (S.n : Nat)])) (hat : Q.ev.ownBlock = some g ∨ g = wx.heap.size) :
    SPost s Q S w S.done (w3.setCell ⟨s, 3, none⟩ (.slice (some ⟨g, 0, none⟩) (S.E.length + 1) cap)) := by
  obtain ⟨wf, hwf⟩ : ∃ wf, w3.setCell ⟨s, 3, none⟩ (.slice (some ⟨g, 0, none⟩) (S.E.length + 1) cap) = wf := ⟨_, rfl⟩
  rw [hwf]
  have f3 : Fr (fun k => Q.ev.ownBlock = some k) w w3 := (fx.any).grown hg fun k hk _ => hk
  have hs := h.blk.lt
  have hgs : Q.ev.ownBlock ≠ some s := fun e => own_blk_ne h.ends e h.blk (by decide) rfl
  have hB3 : Blk w3 s 60 (scells Q S) := h.blk.of (f3.block s hs hgs)
  have hgs3 : g ≠ s := own_blk_ne ho3 rfl hB3 (by decide)
  have f4 : Fr (One s) w3 wf := by rw [← hwf]; exact Fr.set0 s w3 3 _
  have f5 : Fr (fun k => k = s ∨ Q.ev.ownBlock = some k) w wf := (f3.mono fun k _ hk => .inr hk).trans f4 fun k _ hk => .inl hk
  have keep : ∀ k, k < w.heap.size → k ≠ s → Q.ev.ownBlock ≠ some k → wf.heap[k]? = w.heap[k]? := fun k hk h1 h2 => f5.block k hk (by rintro (e | e); exact h1 e; exact h2 e)
  have hev : ∀ k, Q.ev.ownBlock = some k → k < w.heap.size := fun k hk => (h.ends.lt k hk).2
  refine ⟨{ Q with ev := .slice (some ⟨g, 0, none⟩) (S.E.length + 1) cap }, {
    blk := ?_
    dicts := own_of h.dicts fun k hk => keep k (h.dicts.lt k hk).2 (own_blk_ne h.dicts hk h.blk (by decide)) (fun e => own_own_ne h.dicts hk h.ends e (by decide) rfl)
    dict := fun d hd => (h.dict d hd).of fun k hk => keep k ((h.dict d hd).lt k hk) (h.apart hd hk).1 (h.apart hd hk).2.2.2.1
    dap := h.dap
    segs := own_of h.segs fun k hk => keep k (h.segs.lt k hk).2 (own_blk_ne h.segs hk h.blk (by decide)) (fun e => own_own_ne h.segs hk h.ends e (by decide) rfl)
    sega := fun i hi => ?_
    segb := fun i hi => ?_
    saa := h.saa
    sbb := h.sbb
    ends := ?_
    eap := fun d hd k hk hf => ?_ }, f5.mono fun k _ hk => ?_, fun k hk => ?_⟩
  · rw [← hwf]
    exact hB3.set_ 3 (.slice (some ⟨g, 0, none⟩) (S.E.length + 1) cap)
  · have hc := h.sega i hi
    refine hc.of (keep _ hc.lt (hc.ne_ h.blk (by decide)) fun e1 => ?_)
    obtain ⟨cur, hcc⟩ := own_row h.ends e1
    exact hc.ne_ (cs := cur) (t' := 3) hcc (by decide) rfl
  · have hc := h.segb i hi
    refine hc.of (keep _ hc.lt (hc.ne_ h.blk (by decide)) fun e1 => ?_)
    obtain ⟨cur, hcc⟩ := own_row h.ends e1
    exact hc.ne_ (cs := cur) (t' := 3) hcc (by decide) rfl
  · show wf.ownsRow 0 3 1 (.slice (some ⟨g, 0, none⟩) (S.E.length + 1) cap) (S.E ++ [S.n]).length ((S.E ++ [S.n]).map encN)
    rw [List.length_append, List.length_singleton, List.map_append]
    exact own_of ho3 fun k hk => by
      have : g = k := by simpa [Value.ownBlock] using hk
      subst this
      exact f4.block _ (ho3.lt g rfl).2 hgs3
  · have e : g = k := by simpa [Value.ownBlock] using hk
    subst e
    rcases hat with hat | hat
    · exact h.eap d hd g hat hf
    · have := (h.dict d hd).lt g hf
      have := fx.size
      omega
  · rcases hk with hk | hk
    · exact .inl hk
    · exact .inr (.inr (.inr (.inl hk)))
  · rcases hk with hk | hk | hk | hk | hk | hk
    · exact .inl (.inl hk)
    · exact .inl (.inr (.inl hk))
    · exact .inl (.inr (.inr (.inl hk)))
    · have e : g = k := by simpa [Value.ownBlock] using hk
      subst e
      rcases hat with hat | hat
      · exact .inl (.inr (.inr (.inr (.inl hat))))
      · exact .inr (by have := fx.size; omega)
    · exact .inl (.inr (.inr (.inr (.inr (.inl hk)))))
    · exact .inl (.inr (.inr (.inr (.inr (.inr hk)))))

theorem laid_D {S : FS} {f : FactP} {d : Nat} (hd : d < S.K) : (S.laid f).D d = addT (S.D d) (f.dim d) := by
  show (if d < S.K then addT (S.start.D d) (f.dim d) else S.start.D d) = _
  rw [if_pos hd, S.start_D]
theorem room_at {S S' : FS} {l : List FactP} {j : Nat} (hj : j < l.length) (hK : S'.K = S.K) (hD : ∀ d, d < S.K → S'.D d = addAll (S.D d) d (l.take j)) (hc : ∀ d, d < S.K → (addAll (S.D d) d l).length ≤ 4096) : Room S' l[j] := by
  intro d hd
  rw [hK] at hd
  by_cases hm : l[j].dim d ∈ S'.D d
  · exact .inl hm
  · refine .inr ?_
    have h1 := addAll_take_le (S.D d) d l (j + 1)
    rw [addAll_take _ _ _ hj, ← hD d hd, addT_out hm, List.length_append, List.length_singleton] at h1
    have := hc d hd
    omega

def SeqE (X : Nat → Prop) (s : Nat) (B : List (List FactP)) (K M : Nat) (w w' : World) : Prop := (∃ Q' S', SX w' X s Q' S' ∧ FW S' B [] ∧ S'.K = K ∧ S'.M = M) ∧ Fr (NX X) w w'
/-- What is so while a batch is laid. -/
def Laying (X : Nat → Prop) (s : Nat) (S : FS) (B : List (List FactP)) (l : List FactP) (j : Nat) (w w' : World) : Prop :=
  ∃ Q' S', SX w' X s Q' S' ∧ FW S' B (l.take j) ∧ S'.K = S.K ∧ S'.M = S.M ∧ (∀ d, d < S.K → S'.D d = addAll (S.D d) d (l.take j)) ∧ Fr (NX X) w w'
section
variable (s : Nat) (Q : SRp) (S : FS) (B : List (List FactP)) (w : World)
theorem append_no (p : Option Addr) (A : Option Addr) (n c : Nat) (r : Int) (hr : r ≠ 0) (hc : Calls Try.prog 27 #[.pointer p, .slice A n c] w (ChkP r w)) : Calls Try.prog 21 #[.pointer p, .slice A n c] w fun e w' => e = .returned (.tuple #[.int .i64 0, .int .i64 r]) ∧ Fr No w w' := by
  have HC := Lib.hid hc
  have h1 : (r != 0) = true := by simpa using hr
  have h2 : (r == 0) = false := by simpa using hr
  clear hc hr
  go_enter Try.func21, Try.ntmps21
  go_wp2_with (go_at_call 27; refine HC.out.mono ?_; rintro e w1 ⟨rfl, f1⟩; have F1 := Lib.hid f1; clear f1)
  go_ret2
  exact ⟨rfl, F1.out⟩
set_option maxRecDepth 100000 in
set_option maxHeartbeats 8000000 in
theorem append_ok (X : Nat → Prop) (h : SX w X s Q S) (hW : FW S B []) (hB : B.length < 1000) (lv : Value) (l : List FactP) (hl : Facts X w lv l) (hc : chk S l = 0) :
    Calls Try.prog 21 #[.pointer (some ⟨s, 0, none⟩), lv] w fun e w' => e = .returned (.tuple #[.int .i64 (B.length + 1 : Nat), .int .i64 0]) ∧ SeqE X s (B ++ [l]) S.K S.M w w' := by
  obtain ⟨hl64, hfit, hroom⟩ := chk_ok hc
  have hck := check_any s Q S B [] w h.at_ hW X lv l hl
  rw [hc] at hck
  have HCK := Lib.hid hck
  have HLN : Hid (∀ w1, Fr No w w1 → Calls Try.prog 14 #[.pointer (some ⟨s, 0, none⟩)] w1 (QuietI (B.flatten.length : Nat) w1)) := Lib.hid fun w1 f1 => slen_any s Q S B [] w1 (h.at_.keep f1) hW
  have HSX := Lib.hid h
  have HW := Lib.hid hW
  have HL := Lib.hid hl
  have HFit := Lib.hid hfit
  have HRoom := Lib.hid hroom
  have HOk := Lib.hid (Facts.ok hl)
  obtain ⟨A, cl, rfl⟩ := hl.slice
  obtain ⟨n, hn⟩ : ∃ n, l.length = n := ⟨_, rfl⟩
  obtain ⟨N0, hN0⟩ : ∃ N, B.flatten.length = N := ⟨_, rfl⟩
  have hNle : N0 ≤ 70000 := by
    have h1 := hW.n_eq
    have h2 := hW.n_le (by simp)
    rw [hN0, List.length_nil, Nat.add_zero] at h1
    omega
  have HN := Lib.hid hn
  have HN0 := Lib.hid hN0
  rw [hn] at HCK hl64 ⊢
  rw [hN0] at HLN
  have HEND : Hid (∀ w', Laying X s S B l n w w' → ∃ Q' S', SX w' X s Q' S' ∧ FW S' B l ∧ S'.K = S.K ∧ S'.M = S.M ∧ Fr (NX X) w w') := Lib.hid fun w' hy => by
    obtain ⟨Q', S', a1, a2, a3, a4, a5, a6⟩ := hy
    rw [← HN.out, List.take_length] at a2
    exact ⟨Q', S', a1, a2, a3, a4, a6⟩
  clear h hW hl hfit hroom hck hn hN0 hc
  go_enter Try.func21, Try.ntmps21
  go_wp2_with fail
  refine HCK.out.mono ?_
  rintro e w1 ⟨rfl, f1⟩
  have F1 := Lib.hid f1
  clear f1 HCK
  go_wp2_with fail
  refine (HLN.out _ F1.out).mono ?_
  rintro e w2 ⟨rfl, q, rfl⟩
  obtain ⟨w2, hw2⟩ : ∃ w2, w1.drewN q = w2 := ⟨_, rfl⟩
  have F2 : Hid (Fr No w w2) := Lib.hid (by rw [← hw2]; exact F1.out.drewN q)
  rw [hw2]
  clear hw2 HLN
  go_wp2
  go_loopw [7, 20] (fun mv iv wr => ∃ j : Nat, j ≤ n ∧ iv = .int .i64 j ∧ mv = .int .i64 (N0 + j : Nat) ∧ Hid (Laying X s S B l j w wr)) (fun _ iv _ => n - (intOf iv).toNat)
  case atStart => exact ⟨0, by omega, rfl, rfl, Lib.hid ⟨Q, S, HSX.out.keep F2.out, HW.out, rfl, rfl, fun d hd => rfl, F2.out.any⟩⟩
  case round =>
    obtain ⟨j, hj, rfl, rfl, HI⟩ := hrel
    by_cases hlt : j < n
    · have hjl : j < l.length := by rw [HN.out]; exact hlt
      obtain ⟨Q', S', h1, hW1, eK, eM, eD, fw⟩ := HI.out
      have hr := HL.out.nx fw
      obtain ⟨g, off, c, e, hg, hgl, hcell⟩ := Facts.at_ hr (by omega)
      injection e with e _ e2
      subst e
      subst e2
      obtain ⟨dv, mv, k0, k1, rd, rm⟩ := hcell j hjl
      obtain ⟨A1, c1, rfl⟩ := rd.slice
      obtain ⟨A2, c2, rfl⟩ := rm.slice
      obtain ⟨wa, hwa⟩ : ∃ wa, wr.alloc (.cells #[.slice A1 l[j].dims.length c1, .slice A2 l[j].meas.length c2] 51) = wa := ⟨_, rfl⟩
      obtain ⟨bx, hbx⟩ : ∃ bx, wr.heap.size = bx := ⟨_, rfl⟩
      have hbk : Blk wa bx 51 #[.slice A1 l[j].dims.length c1, .slice A2 l[j].meas.length c2] := by rw [← hwa, ← hbx]; exact Blk.new wr 51 _
      have fa : Fr No wr wa := by rw [← hwa]; exact (Fr.refl _ wr).alloc _
      have x0 : wa.cell? ⟨bx, 0, none⟩ = some (.slice A1 l[j].dims.length c1) := hbk.cell 0
      have x1 : wa.cell? ⟨bx, 1, none⟩ = some (.slice A2 l[j].meas.length c2) := hbk.cell 1
      have hfj : l[j].Fits S'.K S'.M := by rw [eK, eM]; exact HFit.out _ (List.getElem_mem hjl)
      have hoj := HOk.out _ (List.getElem_mem hjl)
      have hrj := room_at hjl eK eD HRoom.out
      have hn1 : S'.n = N0 + j := by
        rw [hW1.n_eq, HN0.out, List.length_take, HN.out]; omega
      have htk : (l.take j).length ≤ 64 := by rw [List.length_take, HN.out]; omega
      have hlay := lay_any s Q' S' B (l.take j) wa X (h1.keep fa) hW1 htk _ _ l[j] (rd.of fa.size (fun k hk hlt => ⟨hk, fa.block k hlt id⟩) fun _ _ _ h => h) (rm.of fa.size (fun k hk hlt => ⟨hk, fa.block k hlt id⟩) fun _ _ _ h => h) hfj hrj
      rw [hn1] at hlay
      have hW2 := hW1.laid hfj hoj hrj
      rw [← List.take_succ_eq_append_getElem hjl] at hW2
      have eK2 : (S'.laid l[j]).K = S.K := (S'.start_K).trans eK
      have eM2 : (S'.laid l[j]).M = S.M := (S'.start_M).trans eM
      have eD2 : ∀ d, d < S.K → (S'.laid l[j]).D d = addAll (S.D d) d (l.take (j + 1)) := fun d hd => by
        rw [laid_D (by rw [eK]; exact hd), eD d hd, addAll_take _ _ _ hjl]
      have HNX : Hid (∀ w3, LayP X s (S'.laid l[j]) wa (.returned (.tuple #[])) w3 → Laying X s S B l (j + 1) w w3) := Lib.hid fun w3 hp => by
        obtain ⟨_, ⟨Q3, h3⟩, f3⟩ := hp
        exact ⟨Q3, _, h3, hW2, eK2, eM2, eD2, (fw.nxt fa.any).nxt f3⟩
      have HLY := Lib.hid hlay
      have HWA := Lib.hid hwa
      have HBX := Lib.hid hbx
      clear hr hcell rd rm hwa hbx fa hg hgl hbk hlay hW2 eK2 eM2 eD2 h1 hW1 eK eM eD fw hfj hoj hrj hn1 htk
      obtain ⟨n1, hn1⟩ : ∃ n, l[j].dims.length = n := ⟨_, rfl⟩
      obtain ⟨n2, hn2⟩ : ∃ n, l[j].meas.length = n := ⟨_, rfl⟩
      rw [hn1] at k0 x0 HWA HLY
      rw [hn2] at k1 x1 HWA HLY
      clear hn1 hn2
      have HLY' : Hid (Calls Try.prog 41 #[.pointer (some ⟨s, 0, none⟩), .int .i64 ((N0 : Int) + (j : Int)), .agg #[.slice A1 n1 c1, .slice A2 n2 c2]] wa fun e w3 => e = .returned (.tuple #[]) ∧ Laying X s S B l (j + 1) w w3) := Lib.hid (by
        have hq := HLY.out
        rw [Int.natCast_add] at hq
        refine hq.mono ?_
        rintro e w3 ⟨rfl, hp⟩
        exact ⟨rfl, HNX.out w3 ⟨rfl, hp⟩⟩)
      clear HLY HNX
      go_upto_region 8 with fail
      rw [HWA.out, HBX.out]
      go_wp2_with (go_at_call 41; refine HLY'.out.mono ?_; rintro e w3 ⟨rfl, hy⟩; have HY := Lib.hid hy; clear hy)
      go_roundw
      case rel => exact ⟨j + 1, by omega, by go_num, by go_num, HY⟩
      case measure => simp [intOf]; omega
    · obtain rfl : j = n := by omega
      obtain ⟨Q', S', h1, hW1, eK, eM, fw⟩ := HEND.out _ HI.out
      have hn1 : S'.n = N0 + j := by rw [hW1.n_eq, HN0.out, HN.out]
      have hEl : S'.E.length = B.length + 1 := by rw [hW1.e, endsOf_len]
      have c3 := h1.at_.cells.2.2.2
      have z3 := h1.at_.blk.frozen 3
      obtain ⟨Ae, ce, ee⟩ := own_form h1.at_.ends
      rw [ee] at c3
      have HEE := Lib.hid ee
      obtain ⟨i0, hi0, hz0, hz1, hz2⟩ := info_parts (show (Try.prog.info? 3).map (fun i => (i.zero, i.size, i.bytes)) = some (some (.int .i64 0), 1, 8) from info3)
      have HROW : Hid (wr.ownsRow 0 3 1 (.slice Ae S'.E.length ce) S'.E.length (S'.E.map encN)) := Lib.hid (by have h := h1.at_.ends; rw [ee] at h; exact h)
      have HQ : Hid (∀ o w3, (wr.alloc o).grownBy w3 (Value.slice Ae S'.E.length ce).ownBlock → w3.cell? ⟨s, 3, none⟩ = some (.slice Ae S'.E.length ce) ∧ w3.frozen? ⟨s, 3, none⟩ = false) := Lib.hid fun o w3 hg => by
        have hb := h1.at_.blk
        have hgs : Q'.ev.ownBlock ≠ some s := fun e => own_blk_ne h1.at_.ends e hb (by decide) rfl
        rw [ee] at hgs
        have hb3 : Blk w3 s 60 (scells Q' S') := hb.of ((hg.block s (by have := hb.lt; simp; omega) fun e => hgs e.symm).trans (Below.heap_alloc wr o s hb.lt))
        have x3 := hb3.cell 3
        unfold scells at x3
        rw [ee] at x3
        exact ⟨x3, hb3.frozen 3⟩
      have hW2 := hW1.done (by rw [HN.out]; exact hl64) hB
      have HDONE : Hid (∀ w4, SPost s Q' S' wr S'.done w4 → (∃ Q4, SX w4 X s Q4 S'.done) ∧ SeqE X s (B ++ [l]) S.K S.M w w4) := Lib.hid fun w4 hp => by
        obtain ⟨⟨Q4, h4⟩, f4⟩ := h1.post hp
        exact ⟨⟨Q4, h4⟩, ⟨Q4, _, h4, hW2, eK, eM⟩, fw.nxt f4⟩
      have HSQ : Hid (∀ w4 Q4, SX w4 X s Q4 S'.done → Calls Try.prog 13 #[.pointer (some ⟨s, 0, none⟩)] w4 fun e w' => e = .returned (.int .i64 (B.length + 1 : Nat)) ∧ w4 = w') := Lib.hid fun w4 Q4 h4 => by
        have hq := seq_any s Q4 S'.done (B ++ [l]) [] w4 h4.at_ hW2
        rw [List.length_append, List.length_singleton] at hq
        exact hq
      have HAT := Lib.hid h1.at_
      have HN1 := Lib.hid hn1
      have hEle : S'.E.length ≤ 1001 := by omega
      clear h1 hW1 hW2 eK eM fw hn1 ee HI HEND hEl
      generalize hEL : S'.E.length = EL at *
      have HEL := Lib.hid hEL
      clear hEL
      go_wp2_with (first
        | (at_builtin; refine wpList_append_lies _ (by rfl) _ _ 58 (by rfl) 0 3 i0 _ 1 8 Try.underlying58 hi0 hz0 hz1 hz2 rfl (by omega) (.slice Ae EL ce) _ _ (by rfl) (HROW.out.alloc _) ⟨wr.heap.size, 0, none⟩ 1 1 [.int .i64 ((N0 : Int) + (j : Int))] (by rfl) (by rfl) (World.news_of_block (cs := #[.int .i64 ((N0 : Int) + (j : Int))]) (t := 3) (fr := (0, 0)) (heap_alloc_new wr _)) (by simp [Value.oneCell']) (by omega) (by unfold maxLen; omega) (by omega) (by simp) (wr.heap.size + 1) (by simp) ?_; intro g cap w3 hown3 hgrow hat hlt; have c3' := (HQ.out _ _ hgrow).1; have z3' := (HQ.out _ _ hgrow).2; have HF := Lib.hid (HDONE.out _ (done_end HAT.out ((Fr.refl No wr).alloc _) (by rw [HEE.out]; exact hgrow) (by rw [HEL.out, HN1.out, Int.natCast_add]; exact hown3) (by rw [HEE.out]; simpa using hat))); rw [HEL.out] at HF; clear hgrow hown3 hat)
        | (go_at_call 13; obtain ⟨⟨Q4, h4⟩, hfin⟩ := HF.out; refine (HSQ.out _ Q4 h4).mono ?_; rintro e w5 ⟨rfl, rfl⟩))
      go_ret2
      exact ⟨rfl, hfin⟩
end
end Go.Proofs.Ytmaeejojmbibnaa
