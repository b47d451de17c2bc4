/- hasRoom: whether a dimension has room for the texts of facts. -/
import Derived.Test.YtmaeejojmbibnaaF5
namespace Go.Proofs.Ytmaeejojmbibnaa
open Go.RowKit Go.Maps
set_option linter.unusedVariables false

/-- The texts that are new so far: a map's keys. -/
def SetM (D0 : List Tx) (d : Nat) (l : List FactP) (b j : Nat) (w : World) : Prop :=
  ∃ (F : List Tx) (D : DU), w.ownsMap Try.prog 9 (unitElem (H := Unit)) b j D ∧ (∀ s, Maps.has D (.string s) = decide (s ∈ F)) ∧ Maps.size D = F.length ∧ D0 ++ F = addAll D0 d (l.take j)
theorem owns_more {w : World} {b n m : Nat} {D : DU} {P : Program} {k : TypeId} {R : Value → Option (DU × List MemPlace)} (h : w.ownsMap P k R b n D) (hm : n ≤ m) : w.ownsMap P k R b m D := by
  obtain ⟨es, clock, h2, F, h3, h4⟩ := h
  exact ⟨es, clock, h2, F, Nat.le_trans h3 hm, h4⟩
theorem SetM.start {D0 : List Tx} {d : Nat} {l : List FactP} (w : World) : SetM D0 d l w.heap.size 0 (w.alloc (.map #[] 0)) :=
  ⟨[], .map [], World.ownsMap_made (H := Unit) w Try.prog 9 _, fun s => rfl, rfl, by simp [addAll]⟩
theorem SetM.fr {D0 : List Tx} {d : Nat} {l : List FactP} {b j : Nat} {w w' : World} (h : SetM D0 d l b j w) (hf : w'.heap[b]? = w.heap[b]?) : SetM D0 d l b j w' := by
  obtain ⟨F, D, h1, h2, h3, h4⟩ := h
  exact ⟨F, D, owns_of h1 hf, h2, h3, h4⟩
theorem SetM.old {D0 : List Tx} {d : Nat} {l : List FactP} {b j : Nat} {w : World} (h : SetM D0 d l b j w) (hj : j < l.length) (ht : l[j].dim d ∈ D0) : SetM D0 d l b (j + 1) w := by
  obtain ⟨F, D, h1, h2, h3, h4⟩ := h
  refine ⟨F, D, owns_more h1 (by omega), h2, h3, ?_⟩
  rw [addAll_take D0 d l hj, ← h4, addT_in (List.mem_append.2 (.inl ht))]
theorem SetM.put {D0 : List Tx} {d : Nat} {l : List FactP} {b j : Nat} {w w2 : World} {F : List Tx} {D : DU} {t : Tx} (h1 : w.ownsMap Try.prog 9 (unitElem (H := Unit)) b j D) (h2 : ∀ s, Maps.has D (.string s) = decide (s ∈ F)) (h3 : Maps.size D = F.length) (h4 : D0 ++ F = addAll D0 d (l.take j))
    (hj : j < l.length) (e : l[j].dim d = t) (ht : t ∉ D0) (h5 : w2.ownsMap Try.prog 9 (unitElem (H := Unit)) b (j + 1) (D.put (.string t) (.agg []))) : SetM D0 d l b (j + 1) w2 := by
  refine ⟨addT F t, D.put (.string t) (.agg []), h5, fun s => ?_, ?_, ?_⟩
  · by_cases es : s = t
    · subst es
      rw [has_put_same h1.isMap (isKey s)]
      symm
      rw [decide_eq_true_eq]
      exact mem_addT.2 (.inr rfl)
    · rw [has_put_other (key_ne es), h2]
      congr 1
      rw [mem_addT]
      simp [es]
  · rw [size_put (h1.tidy law9), h2, h3]
    by_cases hm : t ∈ F
    · rw [addT_in hm]; simp [hm]
    · rw [addT_out hm]; simp [hm]
  · rw [addAll_take D0 d l hj, ← h4, e]
    by_cases hm : t ∈ F
    · rw [addT_in hm, addT_in (List.mem_append.2 (.inr hm))]
    · rw [addT_out hm, addT_out (fun h => (List.mem_append.1 h).elim ht hm), List.append_assoc]

theorem fits_dim {K M : Nat} {f : FactP} (h : f.Fits K M) {d : Nat} (hd : d < K) : ∃ h' : d < f.dims.length, f.dims[d] = f.dim d := by
  have hl : d < f.dims.length := by rw [h.1]; exact hd
  exact ⟨hl, by simp [FactP.dim, hl]⟩
section
variable (s : Nat) (Q : SRp) (S : FS) (B : List (List FactP)) (l0 : List FactP) (w : World)
set_option maxRecDepth 100000 in
set_option maxHeartbeats 4000000 in
theorem room_any (h : SAt w s Q S) (hW : FW S B l0) (K : Nat → Prop) (lv : Value) (l : List FactP) (hl : Facts K w lv l) (hl64 : l.length ≤ 64) (hfit : ∀ f ∈ l, f.Fits S.K S.M) (d : Nat) (hd : d < S.K) :
    Calls Try.prog 48 #[.pointer (some ⟨s, 0, none⟩), .int .i64 d, lv] w (FitsP (decide ((addAll (S.D d) d l).length ≤ 4096)) w) := by
  obtain ⟨w0, hw0⟩ : ∃ w0, w.alloc (.map #[] 0) = w0 := ⟨_, rfl⟩
  obtain ⟨b, hb⟩ : ∃ b, w.heap.size = b := ⟨_, rfl⟩
  have f0 : Fr No w w0 := by rw [← hw0]; exact (Fr.refl _ w).alloc _
  have m0 : SetM (S.D d) d l b 0 w0 := by rw [← hw0, ← hb]; exact SetM.start w
  have hmk := @run_makeMap Try.prog
  obtain ⟨A, cl, rfl⟩ := hl.slice
  obtain ⟨n, hn⟩ : ∃ n, l.length = n := ⟨_, rfl⟩
  have HAT := Lib.hid h
  have HL := Lib.hid hl
  have HFit := Lib.hid hfit
  have HN := Lib.hid hn
  have HW0 := Lib.hid hw0
  have HB := Lib.hid hb
  have HF0 := Lib.hid f0
  have HM0 := Lib.hid m0
  have hb0 : b < w0.heap.size := by rw [← hw0, ← hb]; simp
  have HB0 := Lib.hid hb0
  have HD := Lib.hid (hW.dn d hd)
  have hk := hW.k
  rw [hn] at hl64 ⊢
  obtain ⟨bv, hbv⟩ : ∃ bv, decide ((addAll (S.D d) d l).length ≤ 4096) = bv := ⟨_, rfl⟩
  rw [hbv]
  have HBV := Lib.hid hbv
  clear h hl hfit hn hw0 hb f0 m0 hb0 hbv
  have HDK := Lib.hid hd
  go_enter Try.func48, Try.ntmps48
  go_upto_region 2 with fail
  rw [HW0.out, HB.out]
  clear hmk
  go_wp2
  go_loopw [15] (fun i wr => ∃ j : Nat, j ≤ n ∧ i = .int .i64 j ∧ Hid (Fr No w wr ∧ SetM (S.D d) d l b j wr ∧ b < wr.heap.size)) (fun i _ => n - (intOf i).toNat)
  case atStart => exact ⟨0, by omega, rfl, Lib.hid ⟨HF0.out, HM0.out, HB0.out⟩⟩
  case round =>
    obtain ⟨j, hj, rfl, HI⟩ := hrel
    by_cases hlt : j < n
    · have hjl : j < l.length := by rw [HN.out]; exact hlt
      have hr := HL.out.keep HI.out.1
      obtain ⟨g, off, c, e, hg, hgl, hcell⟩ := Facts.at_ hr (by omega)
      injection e with e _ e2
      subst e
      obtain ⟨dv, mv, k0, k1, rd, rm⟩ := hcell j hjl
      obtain ⟨hdl, hde⟩ := fits_dim (HFit.out _ (List.getElem_mem hjl)) HDK.out
      obtain ⟨A2, c2, rfl⟩ := rm.slice
      obtain ⟨g1, o1, c1, rfl, hg1, hgl1, hc1⟩ := texts_at rd (by omega)
      have kt := hc1 d hdl
      rw [hde] at kt
      obtain ⟨wa, hwa⟩ : ∃ wa, wr.alloc (.cells #[.slice (some ⟨g1, o1, none⟩) l[j].dims.length c1, .slice A2 l[j].meas.length c2] 51) = wa := ⟨_, rfl⟩
      obtain ⟨bx, hbx⟩ : ∃ bx, wr.heap.size = bx := ⟨_, rfl⟩
      have hbk : Blk wa bx 51 #[.slice (some ⟨g1, o1, none⟩) l[j].dims.length c1, .slice A2 l[j].meas.length c2] := by rw [← hwa, ← hbx]; exact Blk.new wr 51 _
      have fa : Fr No wr wa := by rw [← hwa]; exact (Fr.refl _ wr).alloc _
      have ha := HAT.out.keep (HI.out.1.trans fa fun _ _ h => h)
      have kt' : wa.cell? ⟨g1, o1 + d, none⟩ = some (encT (l[j].dim d)) := (cell_of_heap (fa.block g1 hgl1 id)).trans kt
      have ha0 := ha.cells.1
      obtain ⟨gd, cd, ed, cp⟩ := ha.ptr HDK.out
      rw [ed] at ha0
      have x0 : wa.cell? ⟨bx, 0, none⟩ = some (.slice (some ⟨g1, o1, none⟩) l[j].dims.length c1) := hbk.cell 0
      have htl : (l[j].dim d).length ≤ 64 := dim_len (HFit.out _ (List.getElem_mem hjl)) HDK.out
      have HFD : Hid (∀ q, Calls Try.prog 44 #[.pointer (some ⟨Q.ds d, 0, none⟩), encT (l[j].dim d)] (wa.drewN q) (TextP (.int .i64 (onI (num (S.D d) (l[j].dim d)))) (num (S.D d) (l[j].dim d)).isSome (wa.drewN q))) := Lib.hid fun q => find_any (Q.ds d) (Q.rp d) (.of (S.D d)) (wa.drewN q) ((ha.dict d HDK.out).drewN q) (l[j].dim d) (by unfold maxLen; omega)
      have HWA := Lib.hid hwa
      have HBX := Lib.hid hbx
      have HFA := Lib.hid fa
      have HKEY := Lib.hid (key9 (l[j].dim d) (by unfold maxLen; omega))
      have hdn : l[j].dims.length ≤ 9223372036854775807 := by have := rd.len_le; unfold maxLen at this; omega
      have HJ : Hid (∃ h : j < l.length, l[j].dim d = l[j].dim d) := Lib.hid ⟨hjl, rfl⟩
      clear hr hcell rd rm kt hwa hbx fa ha ed hc1 hgl hgl1 hg hg1 hbk htl hde
      obtain ⟨dl, hdl2⟩ : ∃ dl, l[j].dims.length = dl := ⟨_, rfl⟩
      rw [hdl2] at hdl k0 x0 HWA hdn
      obtain ⟨ml, hml⟩ : ∃ ml, l[j].meas.length = ml := ⟨_, rfl⟩
      rw [hml] at k1 HWA
      clear hdl2 hml
      obtain ⟨t, ht⟩ : ∃ t, l[j].dim d = t := ⟨_, rfl⟩
      rw [ht] at kt' HFD HKEY
      have HT := Lib.hid ht
      clear ht HJ
      obtain ⟨dd, hdd⟩ : ∃ dd, Q.ds d = dd := ⟨_, rfl⟩
      rw [hdd] at HFD cp
      clear hdd
      cases hnum : num (S.D d) t with
      | some i =>
        rw [hnum] at HFD
        have hin : Hid (t ∈ S.D d) := Lib.hid (num_mem hnum)
        clear hnum
        simp only [onI, Option.isSome_some] at HFD
        unfold encT at HFD kt'
        generalize (⟨t.toArray⟩ : ByteArray) = sz at *
        go_upto_region 5 with fail
        rw [HWA.out, HBX.out]
        go_quiet ((go_at_call 44; exact Calls.quiet_of_same ((HFD.out _).mono fun _ _ h => ⟨h.1, h.2.symm⟩)))
        obtain ⟨wb, hwb⟩ : ∃ wb, wa.drewN nq = wb := ⟨_, rfl⟩
        have HFB : Hid (Fr No wr wb) := Lib.hid (by rw [← hwb]; exact HFA.out.drewN nq)
        rw [hwb]
        clear hwb
        go_wp2
        go_roundw
        case rel => exact ⟨j + 1, by omega, by go_num, Lib.hid ⟨HI.out.1.trans HFB.out fun _ _ h => h, (HI.out.2.1.fr (HFB.out.block b HI.out.2.2 id)).old hjl (by rw [HT.out]; exact hin.out), Nat.lt_of_lt_of_le HI.out.2.2 HFB.out.size⟩⟩
        case measure => simp [intOf]; omega
      | none =>
        rw [hnum] at HFD
        have hin : Hid (t ∉ S.D d) := Lib.hid (num_none.1 hnum)
        clear hnum
        simp only [onI, Option.isSome_none] at HFD
        unfold encT at HFD kt'
        have HSZ : Hid (∃ sz : ByteArray, sz = ⟨t.toArray⟩) := Lib.hid ⟨_, rfl⟩
        generalize (⟨t.toArray⟩ : ByteArray) = sz at *
        go_upto_region 5 with fail
        rw [HWA.out, HBX.out]
        go_quiet ((go_at_call 44; exact Calls.quiet_of_same ((HFD.out _).mono fun _ _ h => ⟨h.1, h.2.symm⟩)))
        obtain ⟨wb, hwb⟩ : ∃ wb, wa.drewN nq = wb := ⟨_, rfl⟩
        have HFB : Hid (Fr No wr wb) := Lib.hid (by rw [← hwb]; exact HFA.out.drewN nq)
        have x0' : wb.cell? ⟨bx, 0, none⟩ = some (.slice (some ⟨g1, o1, none⟩) dl c1) := by rw [← hwb]; exact x0
        have kt2 : wb.cell? ⟨g1, o1 + d, none⟩ = some (.string sz) := by rw [← hwb]; exact kt'
        rw [hwb]
        clear hwb x0 kt' HFD
        obtain ⟨F, D, m1, m2, m3, m4⟩ := HI.out.2.1.fr (HFB.out.block b HI.out.2.2 id)
        have HO := Lib.hid m1
        have HM2 := Lib.hid m2
        have HM3 := Lib.hid m3
        have HM4 := Lib.hid m4
        clear m1 m2 m3 m4
        go_wp2_with (at_mapUpdate; refine wpList_mapUpdate_in _ rfl _ _ _ 109 rfl 9 88 law9 Try.underlying109 _ b _ _ rfl HO.out (by unfold maxLen; omega) _ _ _ rfl rfl HKEY.out _ _ unitElem_mk ?_; intro w2 hown2 hturn2; have HO2 := Lib.hid hown2; have HT2 := Lib.hid (mapTurned_one hturn2); clear hown2 hturn2)
        go_roundw
        case rel => exact ⟨_, _, _, .int .i64 ((j : Int) + 1), ⟨j + 1, by omega, by go_num, Lib.hid ⟨(HI.out.1.trans HFB.out fun _ _ h => h).trans HT2.out (fun i hi hb' => by have := HB.out; unfold One at hb'; omega), SetM.put HO.out HM2.out HM3.out HM4.out hjl HT.out hin.out HO2.out, Nat.lt_of_lt_of_le HI.out.2.2 (Nat.le_trans HFB.out.size HT2.out.size)⟩⟩, rfl, rfl, rfl, rfl⟩
        case measure => simp [intOf]; omega
    · obtain rfl : j = n := by omega
      obtain ⟨F, D, m1, m2, m3, m4⟩ := HI.out.2.1
      have ha := HAT.out.keep HI.out.1
      have ha0 := ha.cells.1
      obtain ⟨gd, cd, ed, cp⟩ := ha.ptr HDK.out
      rw [ed] at ha0
      have HLN := Lib.hid (len_any _ _ _ _ (ha.dict d HDK.out))
      have hlen : (S.D d).length + F.length = (addAll (S.D d) d l).length := by
        rw [← List.length_append, m4, ← HN.out, List.take_length]
      have HO := Lib.hid m1
      have hD := HD.out.2.1
      have hF : F.length ≤ 64 := by
        have h1 : Maps.size D ≤ j := (owns_le m1).1
        omega
      have HBV2 : Hid (bv = decide (((S.D d).length : Int) + (F.length : Int) ≤ 4096)) := Lib.hid (by rw [← HBV.out, ← hlen]; congr 1; apply propext; omega)
      have HLN' : Hid (Calls Try.prog 43 #[.pointer (some ⟨Q.ds d, 0, none⟩)] wr fun e w' => e = .returned (.int .i64 ((S.D d).length : Nat)) ∧ wr = w') := HLN
      have HS3 := Lib.hid m3
      clear m1 m2 m3 m4 ha ed hlen HLN
      generalize (S.D d).length = dl at *
      generalize Q.ds d = dd at *
      obtain ⟨fl, hfl⟩ : ∃ fl, F.length = fl := ⟨_, rfl⟩
      rw [hfl] at hF HBV2 HS3
      clear hfl
      go_wp2_with (first
        | (go_at_call 43; refine HLN'.out.mono ?_; rintro e w' ⟨rfl, rfl⟩)
        | (at_len; refine wpList_len_own _ rfl _ 109 rfl 9 88 Try.underlying109 _ b _ _ rfl HO.out ?_; rw [HS3.out]))
      go_ret
      exact ⟨ret_bool (by rw [HBV2.out]), HI.out.1⟩
end
end Go.Proofs.Ytmaeejojmbibnaa
