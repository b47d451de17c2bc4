/- Opening a log: load, walked. -/
import Derived.Test.YtpeafckomahjgaaGreatDoorW10
namespace Go.Proofs.YtpeafckomahjgaaGreatDoor
open Go.RowKit Go.Maps
set_option linter.unusedVariables false

/-- A load under way, in a round. -/
structure Ldr (S : AS) (d g N n : Nat) (ns : List Int) (w1 : World) (Y : Nat → Prop) (R : Except Int LdP) (wr : World) (j : Nat) (rs : List RcP) (L : LS) (tn : Bool) (A : Option Addr) (c : Nat) (X1 : Nat → Prop) : Prop where
  le : j ≤ n
  res : loadW S (decide (j = 0)) (rs, L, tn) (ns.drop j) = R
  lg : Lg wr X1 d g N S L
  sub : ∀ k, Y k → X1 k
  own : ∀ k, (Value.slice A rs.length c).ownBlock = some k → X1 k ∧ w1.heap.size ≤ k
  recs : Grow w1.heap.size 52 2 recG wr (.slice A rs.length c) rs
  cnt : rs.length ≤ j * 2097152
  fls : L.files.length ≤ j
  fr : Fr (fun k => ¬ Y k) w1 wr
theorem lread_nil {S : AS} {b : Bool} {x : LdP} {R : Except Int LdP} (h : loadW S b x [] = R) : R = .ok x := by rw [← h]; cases b <;> rfl
theorem cell_lt {w : World} {a : Addr} {v : Value} (h : w.cell? a = some v) : a.block < w.heap.size := by
  refine Decidable.byContradiction fun hn => ?_
  unfold World.cell? at h
  rw [Array.getElem?_eq_none (by omega)] at h
  simp at h
theorem cell_eq {w w' : World} {g : Nat} (h : w'.heap[g]? = w.heap[g]?) (i : Nat) : w'.cell? ⟨g, i, none⟩ = w.cell? ⟨g, i, none⟩ := by
  unfold World.cell?
  rw [h]
theorem Dk.keys {w : World} {X : Nat → Prop} {d N : Nat} {S : AS} (h : Dk w X d N S) (hon : S.on = true) : (sortedKeys S.names).length ≤ 64 ∧ ∀ s ∈ sortedKeys S.names, s.length ≤ 32 := by
  obtain ⟨R, hA, hf⟩ := h.mem
  obtain ⟨nb, fb, e1, e2⟩ := hA.onn hon
  have hnm := hA.names
  rw [e1] at hnm
  constructor
  · refine Nat.le_trans (Nat.le_of_eq ?_) h.inv.names.small
    unfold sortedKeys
    rw [List.length_mergeSort]
    obtain ⟨es, he⟩ := World.ownsMap.isMap hnm
    rw [he]; simp [strKeys, Maps.size]
  · intro s hs
    obtain ⟨n, hn, _⟩ := keys_look hnm hs
    exact (nameOk_len (h.inv.names.ok s n hn)).2
theorem RowE.within {K : Nat → Prop} {w : World} {v : Value} {l : List Int} (h : RowE K w 1 intE v l) : RowE (fun k => K k ∧ k < w.heap.size) w 1 intE v l := by
  obtain ⟨A, c, e, hm, h⟩ := h
  refine ⟨A, c, e, hm, fun hl => ?_⟩
  obtain ⟨g, off, e1, hg, h⟩ := h hl
  refine ⟨g, off, e1, ⟨hg, ?_⟩, h⟩
  obtain ⟨cs, h1, h2, h3, _⟩ := h 0 hl
  have := h2 0 (by omega)
  rw [h3] at this
  exact cell_lt this
theorem loadW_cons {S : AS} {b : Bool} {x : LdP} {m : Int} {ms : List Int} : loadW S b x (m :: ms) = match loadStep S b x m with | .error e => .error e | .ok y => loadW S false y ms := by cases b <;> rfl
theorem lastSeq_at (rs : List RcP) (h : rs.length - 1 < rs.length) : lastSeq rs = rs[rs.length - 1].seq := by
  unfold lastSeq
  rw [List.getLast?_eq_getElem?, List.getElem?_eq_getElem h]
set_option maxRecDepth 100000 in
set_option maxHeartbeats 8000000 in
theorem lload_any {w : World} {X : Nat → Prop} {d g N : Nat} {S : AS} {L : LS} (h : Lg w X d g N S L) (hon : S.on = true) (hfl : L.files = []) :
    Calls Tryz.prog 52 #[gpt g] w (LoadP X d g N S w (loadW S true ([], L, false) (segsW (sortedKeys S.names)))) := by
  obtain ⟨R, hR⟩ : ∃ R, loadW S true ([], L, false) (segsW (sortedKeys S.names)) = R := ⟨_, rfl⟩
  rw [hR]
  obtain ⟨ns, hns⟩ : ∃ ns, segsW (sortedKeys S.names) = ns := ⟨_, rfl⟩
  rw [hns] at hR
  have hbd := segsW_bd (sortedKeys S.names)
  rw [hns] at hbd
  have hsm := h.dk.inv.names.small
  have hnl : ns.length ≤ 64 := by
    rw [← hns]
    exact Nat.le_trans (segsW_len _) (h.dk.keys hon).1
  have HLI := Lib.hid (lg_list h hon)
  have HSG : Hid (∀ A c wx, NamesAt wx A c (sortedKeys S.names) → Vr wx → Calls Tryz.prog 101 #[.slice A (sortedKeys S.names).length c] wx fun e w' => ∃ V, e = .returned V ∧ RowE (fun k => wx.heap.size ≤ k) w' 1 intE V ns ∧ Fr No wx w') := Lib.hid fun A c wx hx hv => by
    rw [← hns]
    exact segments_any A c _ wx hv hx (fun s hs => by have := (h.dk.keys hon).2 s hs; omega) (by have := (h.dk.keys hon).1; omega)
  obtain ⟨fv, c0, c1, c2, c3, c4, c5, c6, c7, c8⟩ := h.cells
  have HL := Lib.hid h
  have HR := Lib.hid hR
  have HBD := Lib.hid hbd
  have HFL := Lib.hid hfl
  have hm := me_list
  unfold gpt
  clear h hR hbd c1 c2 c3 c4 c5 c6 c7 c8 hns hfl hsm hon
  go_enter Tryz.func52, Tryz.ntmps52
  go_wp2_with fail
  refine HLI.out.mono ?_
  rintro e wx ⟨A0, c0', rfl, hrow, fx⟩
  have hnames : NamesAt wx A0 c0' (sortedKeys S.names) := own_base hrow (Nat.zero_le _)
  have HSX := Lib.hid (HSG.out A0 c0' wx hnames (HL.out.vr.keep fx))
  have FX := Lib.hid fx
  clear hrow fx hnames HLI HSG
  go_wp2_with fail
  refine HSX.out.mono ?_
  rintro e w1 ⟨V, rfl, hrow, f1⟩
  have fw1 : Fr No w w1 := FX.out.trans f1 fun _ _ h => h
  obtain ⟨Y, hY⟩ : ∃ Y : Nat → Prop, Y = fun k => X k ∨ (w.heap.size ≤ k ∧ k < w1.heap.size) := ⟨_, rfl⟩
  have hrowY : RowE Y w1 1 intE V ns := (RowE.within hrow).mono fun k hk => by rw [hY]; exact .inr ⟨Nat.le_trans FX.out.size hk.1, hk.2⟩
  have hYl : ∀ k, Y k → k < w1.heap.size ∧ (X k ∨ w.heap.size ≤ k) := fun k hk => by
    rw [hY] at hk
    rcases hk with hk | hk
    · exact ⟨Nat.lt_of_lt_of_le (HL.out.base k hk) fw1.size, .inl hk⟩
    · exact ⟨hk.2, .inr hk.1⟩
  have hXY : ∀ k, X k → Y k := fun k hk => by rw [hY]; exact .inl hk
  have hlg1 : Lg w1 Y d g N S L := HL.out.grow fw1 (fun k hk => hk.elim) hXY hYl
  obtain ⟨w2, hw2⟩ : ∃ w2, w1.alloc (.cells #[] 52) = w2 := ⟨_, rfl⟩
  obtain ⟨b1, hb1⟩ : ∃ b1, w1.heap.size = b1 := ⟨_, rfl⟩
  have f2 : Fr No w1 w2 := by rw [← hw2]; exact (Fr.refl _ w1).alloc _
  have hlg2 : Lg w2 (fun k => Y k ∨ k = b1) d g N S L := hlg1.grow f2 (fun k hk => hk.elim) (fun k hk => .inl hk) fun k hk => by
    rcases hk with hk | hk
    · exact ⟨Nat.lt_of_lt_of_le (hYl k hk).1 f2.size, .inl hk⟩
    · rw [hk, ← hb1, ← hw2]; simp
  have hg2 : Grow b1 52 2 recG w2 (.slice (some ⟨b1, 0, none⟩) 0 0) [] := by rw [← hw2, ← hb1]; exact Grow.nil w1.heap.size 52 2 recG w1 (Nat.le_refl _)
  obtain ⟨A, c, hVe, hmax, hat⟩ := hrowY
  subst hVe
  have HAT := Lib.hid hat
  have HYL := Lib.hid hYl
  have HXY := Lib.hid hXY
  have HLG2 := Lib.hid hlg2
  have H4 : Hid (4 ≤ w1.heap.size) := Lib.hid hlg1.vr.lt
  have HG2 := Lib.hid hg2
  have HB1 : Hid (b1 = w1.heap.size) := Lib.hid hb1.symm
  have F2 := Lib.hid f2
  have FW1 := Lib.hid fw1
  have HW2 := Lib.hid hw2
  obtain ⟨n, hn⟩ : ∃ n, ns.length = n := ⟨_, rfl⟩
  have HN := Lib.hid hn
  rw [hn] at hnl
  rw [hn]
  clear hrow f1 fw1 hY hYl hXY hlg1 hlg2 hg2 f2 hw2 hat hn HSX c0
  go_wp2_with fail
  rw [HW2.out]
  have hstart : Ldr S d g N n ns w1 Y R w2 0 [] L false (some ⟨b1, 0, none⟩) 0 (fun k => Y k ∨ k = b1) := ⟨Nat.zero_le _, HR.out, HLG2.out, fun k hk => .inl hk, fun k hk => by
    have e : b1 = k := by simpa [Value.ownBlock] using hk
    exact ⟨.inr e.symm, by rw [← e, HB1.out]; exact Nat.le_refl _⟩, by rw [← HB1.out]; exact HG2.out, Nat.zero_le _, by rw [HFL.out]; exact Nat.zero_le _, F2.out.any⟩
  have HST := Lib.hid hstart
  clear hstart
  go_loopw [5, 6, 22] (fun v t i wr => ∃ (j : Nat) (rs1 : List RcP) (L1 : LS) (tn : Bool) (A1 : Option Addr) (c1 : Nat) (X1 : Nat → Prop), v = .slice A1 rs1.length c1 ∧ t = .bool tn ∧ i = .int .i64 j ∧ Ldr S d g N n ns w1 Y R wr j rs1 L1 tn A1 c1 X1) (fun _ _ i _ => n - (intOf i).toNat)
  case atStart => exact ⟨0, [], L, false, _, _, _, rfl, rfl, rfl, HST.out⟩
  case round =>
    obtain ⟨j, rs1, L1, tn, A1, c1, X1, rfl, rfl, rfl, hl⟩ := hrel
    have H := Lib.hid hl
    by_cases hlt : j < n
    · have hjl : j < ns.length := by rw [HN.out]; exact hlt
      obtain ⟨gn, off, rfl, hgY, hcell⟩ := HAT.out (by omega)
      obtain ⟨cs, hc1, hcs, rfl, hc3⟩ := hcell j hjl
      have x0 := (cell_eq (hl.fr.block gn (HYL.out gn hgY).1 fun hn => hn hgY) (off + j * 1 + 0)).trans (hcs 0 (by omega))
      have hres := hl.res
      rw [List.drop_eq_getElem_cons hjl, loadW_cons] at hres
      have hmb := HBD.out _ (List.getElem_mem hjl)
      obtain ⟨m, hm0⟩ : ∃ m, ns[j] = m := ⟨_, rfl⟩
      rw [hm0] at x0 hres hmb
      simp only [Nat.mul_one, Nat.add_zero, List.getElem?_cons_zero] at x0
      obtain ⟨fv1, d0, d1, d2, d3, d4, d5, d6, d7, d8⟩ := hl.lg.cells
      have hnum := hl.lg.ok.number
      have hbig := hl.lg.big
      have HRES := Lib.hid hres
      clear d1 d2 d3 d4 d6 d7 d8 hl hcell hcs hgY hc1 hc3 hjl hm0 hres
      have hwn : IntKind.i64.wrap (L1.number + 1) = L1.number + 1 := IntWalk.i64_in _ (by omega)
      by_cases hf1 : decide (j = 0) = false ∧ m ≠ L1.number + 1
      · have t0 : ((j : Int) == 0) = false := by have := hf1.1; simp at this; rw [beq_eq_false_iff_ne]; omega
        have t1 : (m == L1.number + 1) = false := by rw [beq_eq_false_iff_ne]; exact hf1.2
        have HE : Hid (R = .error 24) := Lib.hid (by have := HRES.out; unfold loadStep at this; rw [if_pos hf1] at this; exact this.symm)
        clear hf1
        go_wp2_with fail
        refine (check_no _).mono ?_
        rintro e w' ⟨rfl, rfl⟩
        go_wp2_with fail
        refine ⟨rfl, fun x hx => ?_, fun q hq => ?_, H.out.lg.dk.less fun k hk => H.out.sub k (HXY.out k hk), H.out.lg.vr, FW1.out.any.trans H.out.fr fun k _ hk hx => hk (HXY.out k hx)⟩
        · rw [HE.out] at hx; exact nomatch hx
        · rw [HE.out] at hq; cases hq; rfl
      · have hres1 := HRES.out
        unfold loadStep at hres1
        rw [if_neg hf1] at hres1
        have ht : ((j : Int) == 0) = true ∨ ((j : Int) == 0) = false ∧ (m == L1.number + 1) = true := by
          by_cases hj0 : j = 0
          · exact .inl (by rw [hj0]; rfl)
          · refine .inr ⟨by rw [beq_eq_false_iff_ne]; omega, ?_⟩
            rw [beq_iff_eq]
            refine Decidable.byContradiction fun hn => hf1 ⟨by simpa using hj0, hn⟩
        have HR0 := Lib.hid hres1
        clear hf1 hres1
        go_upto_region 7 with fail
        go_cut [27] (fun _ wx => wr = wx)
        case first =>
          clear HR0 HRES H
          rcases ht with t0 | ⟨t0, t1⟩
          all_goals go_wp2_with (refine (check_ok _).mono ?_; rintro e w' ⟨rfl, rfl⟩)
          all_goals go_meet
          all_goals rfl
        case rest =>
        subst hcut
        have hres1 := HR0.out
        by_cases htn : tn = true
        · subst htn
          rw [if_pos rfl] at hres1
          have HE : Hid (R = .error 24) := Lib.hid hres1.symm
          clear hres1
          go_wp2_with fail
          refine (check_no _).mono ?_
          rintro e w' ⟨rfl, rfl⟩
          go_wp2_with fail
          refine ⟨rfl, fun x hx => ?_, fun q hq => ?_, H.out.lg.dk.less fun k hk => H.out.sub k (HXY.out k hk), H.out.lg.vr, FW1.out.any.trans H.out.fr fun k _ hk hx => hk (HXY.out k hx)⟩
          · rw [HE.out] at hx; exact nomatch hx
          · rw [HE.out] at hq; cases hq; rfl
        · obtain rfl : tn = false := by simpa using htn
          rw [if_neg htn] at hres1
          have HR1 := Lib.hid hres1
          have HD := Lib.hid (H.out.lg.keep ((Fr.refl No wr).drew))
          have HNm := Lib.hid (name_any m wr.drew (H.out.lg.keep ((Fr.refl No wr).drew)).vr (by omega) (by omega))
          have hm := me_read
          clear hres1 htn
          go_upto_region 9 with (refine (check_ok _).mono ?_; rintro e w' ⟨rfl, rfl⟩)
          go_cut [9, 10] (fun dv ev wx => dv = sv (S.read (nameW m)).1 ∧ ev = .int .i64 (S.read (nameW m)).2 ∧ Fr No wr wx)
          case first =>
            go_region_held3 (fun w' => w'.cell? ⟨g, 0, none⟩ = some (.iface 25 (.pointer (some ⟨d, 0, none⟩))) ∧ w'.cell? ⟨g, 5, none⟩ = some (.int .i64 L1.number))
              (first | exact HL2.out.two rfl | exact HL1.out.two rfl | exact HD.out.two rfl | go_keep)
              (first
                | (go_at_call 28; refine HNm.out.mono ?_; rintro e w1' ⟨rfl, f1⟩; have HL1 := Lib.hid (HD.out.keep f1); have HF1 := Lib.hid f1; clear f1)
                | (go_at_call 47; refine (lg_read HL1.out (nameW m) (nameW_max _)).mono ?_; rintro e w2' ⟨rfl, f2⟩; have HL2 := Lib.hid (HL1.out.keep f2); have HF2 := Lib.hid f2; clear f2))
            all_goals (go_simp; go_wp2_with fail)
            all_goals go_meet
            all_goals exact ⟨rfl, rfl, (((Fr.refl No wr).drew.trans HF1.out fun _ _ hk => hk.elim).trans HF2.out fun _ _ h => h)⟩
          case rest =>
          obtain ⟨rfl, rfl, hF⟩ := hcut
          have hlgc := H.out.lg.keep hF
          have hrc := H.out.recs.keep recG_elem hF (fun k hk => hk.elim)
          have hfc : Fr (fun k => ¬ Y k) w1 wc := H.out.fr.trans hF fun _ _ hk => hk.elim
          have hdl := read_len hlgc.dk.inv (nameW m)
          have HLC := Lib.hid hlgc
          have HRC := Lib.hid hrc
          have HFC := Lib.hid hfc
          obtain ⟨D, hD⟩ : ∃ D, (S.read (nameW m)).1 = D := ⟨_, rfl⟩
          obtain ⟨E, hE⟩ : ∃ E, (S.read (nameW m)).2 = E := ⟨_, rfl⟩
          rw [hD] at HR1 hdl
          rw [hE] at HR1
          rw [hD, hE]
          clear hlgc hrc hfc hF HD HNm hm hD hE x0 d0 d5
          by_cases he : E = 0
          · subst he
            have hr2 := HR1.out
            rw [if_neg (by simp)] at hr2
            obtain ⟨wd, hwd⟩ : ∃ wd, wc.alloc (.cells #[.int .i64 m, .int .i64 0] 102) = wd := ⟨_, rfl⟩
            obtain ⟨gs, hgs⟩ : ∃ gs, wc.heap.size = gs := ⟨_, rfl⟩
            have fd : Fr No wc wd := by rw [← hwd]; exact (Fr.refl _ wc).alloc _
            have bd : Blk wd gs 102 #[.int .i64 m, .int .i64 0] := by rw [← hwd, ← hgs]; exact Blk.new wc 102 _
            have hlgd : Lg wd (fun k => X1 k ∨ k = gs) d g N S L1 := HLC.out.grow fd (fun k hk => hk.elim) (fun k hk => .inl hk) fun k hk => by
              rcases hk with hk | hk
              · exact ⟨Nat.lt_of_lt_of_le (HLC.out.base k hk) fd.size, .inl hk⟩
              · rw [hk]; exact ⟨bd.lt, .inr (by omega)⟩
            have hrd := HRC.out.keep recG_elem fd (fun k hk => hk.elim)
            have hfd : Fr (fun k => ¬ Y k) w1 wd := HFC.out.trans fd fun _ _ hk => hk.elim
            have hsc := scan_any D hrd hfd.size (by have := H.out.cnt; have := H.out.le; omega) (by omega)
            have hvg : ∀ k, (Value.slice A1 rs1.length c1).ownBlock = some k → X1 k ∧ w1.heap.size ≤ k ∧ k < gs := fun k hk => ⟨(H.out.own k hk).1, (H.out.own k hk).2, by rw [← hgs]; exact (HRC.out.lt k hk).2⟩
            have hgs4 : 4 ≤ gs := by have := HFC.out.size; have := H4.out; omega
            have hF3 : ∀ k, (Value.slice A1 rs1.length c1).ownBlock = some k → (X1 k ∨ k = gs) ∧ 4 ≤ k := fun k hk => ⟨.inl (hvg k hk).1, by have := (hvg k hk).2.1; have := H4.out; omega⟩
            have HGS4 := Lib.hid hgs4
            have HGSW : Hid (w1.heap.size ≤ gs) := Lib.hid (by rw [← hgs]; exact HFC.out.size)
            have HSC := Lib.hid hsc
            have HWD := Lib.hid hwd
            have HGS := Lib.hid hgs
            have HBD' := Lib.hid bd
            have HLGD := Lib.hid hlgd
            have HFD := Lib.hid hfd
            have HVG := Lib.hid hvg
            have HF3 := Lib.hid hF3
            have HR2 := Lib.hid hr2
            clear hr2 hwd hgs fd bd hlgd hrd hfd hsc hvg hF3
            go_upto_region 13 with (refine (must_ok _).mono ?_; rintro e w' ⟨rfl, rfl⟩)
            rw [HGS.out] at *
            rw [HWD.out]
            cases hsw : scanW (D.length + 1) rs1 D 0 with
            | none =>
              have HE : Hid (R = .error 24) := Lib.hid (by have := HR2.out; rw [hsw] at this; exact this.symm)
              rw [hsw] at HSC
              clear hsw
              go_wp2_with fail
              refine HSC.out.mono ?_
              rintro e w3 ⟨hs1, hs2, hs3⟩
              obtain rfl := hs2 rfl
              have hlg3 : Lg w3 (fun k => X1 k ∨ k = gs) d g N S L1 := HLGD.out.grow hs3 HF3.out (fun k hk => hk) fun k hk => ⟨Nat.lt_of_lt_of_le (HLGD.out.base k hk) hs3.size, .inl hk⟩
              have HLG3 := Lib.hid hlg3
              have HS3 := Lib.hid hs3
              clear hs1 hs2 hs3 hlg3
              go_wp2_with fail
              refine ⟨rfl, fun x hx => ?_, fun q hq => ?_, HLG3.out.dk.less fun k hk => .inl (H.out.sub k (HXY.out k hk)), HLG3.out.vr, (FW1.out.any.trans HFD.out fun k _ hk hx => hk (HXY.out k hx)).trans HS3.out fun k hk ho hx => by have := (HVG.out k ho).2.1; have := FW1.out.size; omega⟩
              · rw [HE.out] at hx; exact nomatch hx
              · rw [HE.out] at hq; cases hq; rfl
            | some p =>
              obtain ⟨rs', at'⟩ := p
              have hlen := scanW_len _ _ _ _ _ _ (Nat.zero_le _) hsw
              have HR3 : Hid (loadW S false (rs', { L1 with size := at', number := m, files := L1.files ++ [⟨m, if rs1.length < rs'.length then lastSeq rs' else 0⟩] }, decide (at' < D.length)) (ns.drop (j + 1)) = R) := Lib.hid (by have := HR2.out; rw [hsw] at this; exact this)
              rw [hsw] at HSC
              clear hsw
              go_wp2_with fail
              refine HSC.out.mono ?_
              rintro e w3 ⟨hs1, hs2, hs3⟩
              obtain ⟨A3, c3, rfl, hg3, ho3⟩ := hs1 rs' at' rfl
              have hlg3 : Lg w3 (fun k => (X1 k ∨ k = gs) ∨ (Value.slice A3 rs'.length c3).ownBlock = some k) d g N S L1 := HLGD.out.grow hs3 HF3.out (fun k hk => .inl hk) fun k hk => by
                rcases hk with hk | hk
                · exact ⟨Nat.lt_of_lt_of_le (HLGD.out.base k hk) hs3.size, .inl hk⟩
                · refine ⟨(hg3.lt k hk).2, ?_⟩
                  rcases ho3 k hk with h | h
                  · exact .inl (.inl (HVG.out k h).1)
                  · exact .inr h
              have b3 : Blk w3 gs 102 #[.int .i64 m, .int .i64 0] := HBD'.out.of (hs3.block gs HBD'.out.lt fun e => by have := (HVG.out gs e).2.2; omega)
              have hgo : ∀ k, (Value.slice A3 rs'.length c3).ownBlock = some k → w1.heap.size ≤ k := fun k hk => by
                rcases ho3 k hk with h | h
                · exact (HVG.out k h).2.1
                · exact Nat.le_trans HFD.out.size h
              have hf3 : Fr (fun k => ¬ Y k) w1 w3 := HFD.out.trans hs3 fun k hk ho => by have := (HVG.out k ho).2.1; omega
              have hok3 := hlg3.ok
              have hS4 := hlg3.set 6 (.int .i64 (at' : Nat)) { L1 with size := at' } (fun _ => rfl) rfl ⟨hok3.last, hok3.firm, hok3.number, by simp only; omega, hok3.files⟩
              obtain ⟨w4, hw4⟩ : ∃ w4, w3.setCell ⟨g, 6, none⟩ (.int .i64 (at' : Nat)) = w4 := ⟨_, rfl⟩
              rw [hw4] at hS4
              have hg4 : Grow w1.heap.size 52 2 recG w4 (.slice A3 rs'.length c3) rs' := hg3.keepG hS4.2 fun k hk hn => hn (.inr hk)
              have b4 : Blk w4 gs 102 #[.int .i64 m, .int .i64 0] := b3.of (hS4.2.block gs b3.lt fun hn => hn (.inl (.inr rfl)))
              have hf4 : Fr (fun k => ¬ Y k) w1 w4 := hf3.trans hS4.2 fun k _ hk hy => hk (.inl (.inl (H.out.sub k hy)))
              have hgl : ∀ r, hg4.lt = r → True := fun _ _ => trivial
              have hngs : (Value.slice A3 rs'.length c3).ownBlock ≠ some gs := fun e => by
                obtain ⟨K, xs, ho, _⟩ := hg4
                exact own_blk_ne ho e b4 (by decide) rfl
              have y6 := hlg3.frozen 6
              obtain ⟨fv3, z0, z1, z2, z3, z4, z5, z6, z7, z8⟩ := hlg3.cells
              have HLG4 := Lib.hid hS4.1
              have HG4 := Lib.hid hg4
              have HB4 := Lib.hid b4
              have HF4 := Lib.hid hf4
              have HGO := Lib.hid hgo
              have HLEN := Lib.hid hlen
              have HW4 := Lib.hid hw4
              clear hS4 hg4 b4 hf4 hgo hlen hw4 hs1 hs2 hs3 hg3 hlg3 b3 hf3 hok3 ho3 HSC HLGD HBD' HFD HVG HF3 hgl z0 z1 z2 z3 z4 z5 z7 z8 HWD
              go_upto_region 14 with fail
              rw [HW4.out]
              clear z6 y6 HW4
              obtain ⟨X2, hX2⟩ : ∃ X2 : Nat → Prop, (fun k => (X1 k ∨ k = gs) ∨ (Value.slice A3 rs'.length c3).ownBlock = some k) = X2 := ⟨_, rfl⟩
              have HX2 : Hid (∀ k, X2 k ↔ ((X1 k ∨ k = gs) ∨ (Value.slice A3 rs'.length c3).ownBlock = some k)) := Lib.hid fun k => by rw [← hX2]
              rw [hX2] at HLG4
              clear hX2
              obtain ⟨lst, hlst⟩ : ∃ lst, (if rs1.length < rs'.length then lastSeq rs' else 0) = lst := ⟨_, rfl⟩
              rw [hlst] at HR3
              have hcl := HLEN.out
              by_cases hmr : rs1.length < rs'.length
              · rw [if_pos hmr] at hlst
                have t2 : decide (rs1.length < rs'.length) = true := by simp; omega
                have hcnt := H.out.cnt
                have hjle := H.out.le
                obtain ⟨g3, rfl, -, hg3l, hcell⟩ := HG4.out.recAt (rs'.length - 1) (by omega)
                have x7 := (hcell w4 rfl).1
                rw [← lastSeq_at rs' (by omega), hlst] at x7
                obtain ⟨jj, hjj⟩ : ∃ jj, rs'.length - 1 = jj := ⟨_, rfl⟩
                rw [hjj] at x7
                have hwk : IntKind.i64.wrap ((rs'.length : Int) - 1) = (jj : Int) := by rw [show (rs'.length : Int) - 1 = (jj : Int) by omega]; exact IntWalk.i64_in _ (by omega)
                have k1 : (0 : Int) ≤ (jj : Int) := by omega
                have k2 : (jj : Int) < (rs'.length : Int) := by omega
                have k3 : (rs'.length : Int) ≤ 1000000000 := by omega
                have s1 : w4.cell? ⟨gs, 1, none⟩ = some (.int .i64 0) := HB4.out.cell 1
                have sf := HB4.out.frozen 1
                obtain ⟨w5, hw5⟩ : ∃ w5, w4.setCell ⟨gs, 1, none⟩ (.int .i64 lst) = w5 := ⟨_, rfl⟩
                have f5 : Fr (fun k => k = gs) w4 w5 := by rw [← hw5]; exact (Fr.refl (fun k => k = gs) w4).setCell (p := ⟨gs, 1, none⟩) (fun _ => rfl) _
                have hx2g : X2 gs := (HX2.out gs).2 (.inl (.inr rfl))
                have HLG5 := Lib.hid (HLG4.out.grow f5 (fun k hk => by rw [hk]; exact ⟨hx2g, by have := HGS4.out; omega⟩) (fun k hk => hk) fun k hk => ⟨Nat.lt_of_lt_of_le (HLG4.out.base k hk) f5.size, .inl hk⟩)
                have HB5 : Hid (Blk w5 gs 102 #[.int .i64 m, .int .i64 lst]) := Lib.hid (by rw [← hw5]; exact HB4.out.set_ 1 _)
                have HG5 := Lib.hid (HG4.out.keepG f5 fun k hk e => hngs (by rw [hk, e]))
                have HF5 : Hid (Fr (fun k => ¬ Y k) w1 w5) := Lib.hid (HF4.out.trans f5 fun k hk e => by have := HGSW.out; omega)
                have HW5 := Lib.hid hw5
                clear hw5 f5 hx2g hg3l hcell hjj hlst hmr HLG4 HB4 HG4 HF4
                go_upto_region 16 with fail
                rw [HW5.out]
                clear x7 s1 sf hwk k1 k2 k3 t2 HW5
                have dlt : decide ((at' : Int) < (D.length : Int)) = decide (at' < D.length) := by simp
                obtain ⟨fv5, z0, z1, z2, z3, z4, z5, z6, z7, z8⟩ := HLG5.out.cells
                have q6 : w5.cell? ⟨g, 6, none⟩ = some (.int .i64 (at' : Nat)) := z6
                have q5 : w5.cell? ⟨g, 5, none⟩ = some (.int .i64 L1.number) := z5
                have y5 := HLG5.out.frozen 5
                have hok5 := HLG5.out.ok
                have hS6 := HLG5.out.set 5 (.int .i64 m) { L1 with size := at', number := m } (fun _ => rfl) rfl ⟨hok5.last, hok5.firm, by simp only; omega, hok5.size, hok5.files⟩
                obtain ⟨w6, hw6⟩ : ∃ w6, w5.setCell ⟨g, 5, none⟩ (.int .i64 m) = w6 := ⟨_, rfl⟩
                rw [hw6] at hS6
                have hX2own : ∀ k, (Value.slice (some ⟨g3, 0, none⟩) rs'.length c3).ownBlock = some k → X2 k := fun k hk => (HX2.out k).2 (.inr hk)
                have hg6 : Grow w1.heap.size 52 2 recG w6 (.slice (some ⟨g3, 0, none⟩) rs'.length c3) rs' := HG5.out.keepG hS6.2 fun k hk hn => hn (hX2own k hk)
                have b6 : Blk w6 gs 102 #[.int .i64 m, .int .i64 lst] := HB5.out.of (hS6.2.block gs HB5.out.lt fun hn => hn ((HX2.out gs).2 (.inl (.inr rfl))))
                have hf6 : Fr (fun k => ¬ Y k) w1 w6 := HF5.out.trans hS6.2 fun k _ hk hy => hk ((HX2.out k).2 (.inl (.inl (H.out.sub k hy))))
                have HLG6 := Lib.hid hS6.1
                have HG6 := Lib.hid hg6
                have HF6 := Lib.hid hf6
                have HW6 := Lib.hid hw6
                have e0 : w6.cell? ⟨gs, 0, none⟩ = some (.int .i64 m) := b6.cell 0
                have e1 : w6.cell? ⟨gs, 1, none⟩ = some (.int .i64 lst) := b6.cell 1
                clear z0 z1 z2 z3 z4 z5 z6 z7 z8 hok5 hS6 hX2own hg6 hf6 b6 hw6
                go_upto_region 18 with fail
                rw [HW6.out]
                clear q6 q5 y5
                obtain ⟨i0, hi0, hz0, hz1, hz2⟩ := info_parts info102
                obtain ⟨Af, cf, q4, hrow, hgl, hadd⟩ := HLG6.out.addSeg (by have := H.out.fls; show L1.files.length < _; omega)
                have HROW := Lib.hid hrow
                have HADD := Lib.hid (hadd ⟨m, lst⟩)
                have hnl : L1.files.length < 64 := by have := H.out.fls; omega
                obtain ⟨nn, hnn⟩ : ∃ nn, L1.files.length = nn := ⟨_, rfl⟩
                have HNN := Lib.hid hnn
                change w6.cell? ⟨g, 4, none⟩ = some (.slice Af L1.files.length cf) at q4
                change Hid (w6.ownsRow 0 102 2 (.slice Af L1.files.length cf) L1.files.length (L1.files.flatMap SegP.cells)) at HROW
                simp only at HADD
                rw [hnn] at q4 HROW HADD hnl
                clear hrow hadd hnn HLG5 HG5 HB5 HF5
                go_region_law (first | (refine step_append_lies _ (by rfl) _ _ _ (by rfl) 0 102 i0 _ 2 16 Tryz.underlying69 hi0 hz0 hz1 hz2 rfl (by omega) (.slice Af nn cf) _ _ (by rfl) ((HROW.out.alloc _).drew) ⟨w6.heap.size, 0, none⟩ 1 1 [.int .i64 m, .int .i64 lst] (by rfl) (by rfl) (World.news_of_block (cs := #[.int .i64 m, .int .i64 lst]) (t := 102) (fr := (0, 0)) (heap_alloc_new w6 _)) (by simp [Value.oneCell']) (by omega) (by unfold maxLen; omega) (by omega) (by simp) (w6.heap.size + 1) (by simp) ?_; intro gg cap w7 hown3 hgrow hat hlt7; have q7 := (HADD.out _ _ _ _ hgrow hown3 hat).1; have qf := (HADD.out _ _ _ _ hgrow hown3 hat).2.1; have HE := Lib.hid (HADD.out _ _ _ _ hgrow hown3 hat).2.2; clear hgrow hown3 hat))
                all_goals
                  obtain ⟨w8, hw8⟩ : ∃ w8, w7.setCell ⟨g, 4, none⟩ (.slice (some ⟨gg, 0, none⟩) (nn + 1) cap) = w8 := ⟨_, rfl⟩
                  rw [hw8] at HE
                  have HW8 := Lib.hid hw8
                  clear hw8 q7 qf q4 e0 e1
                  go_wp2_with fail
                  rw [HW8.out]
                  refine ⟨⟨j + 1, rs', { L1 with size := at', number := m, files := L1.files ++ [⟨m, lst⟩] }, decide (at' < D.length), _, c3, X2, rfl, rfl, by go_num, ⟨by omega, ?_, HE.out.1, fun k hk => (HX2.out k).2 (.inl (.inl (H.out.sub k hk))), fun k hk => ⟨(HX2.out k).2 (.inr hk), HGO.out k hk⟩, HG6.out.keepG HE.out.2 (fun k hk hn => hn ((HX2.out k).2 (.inr hk))), ?_, ?_, HF6.out.trans HE.out.2 fun k _ hk hy => hk ((HX2.out k).2 (.inl (.inl (H.out.sub k hy))))⟩⟩, ?_⟩
                  · rw [show decide (j + 1 = 0) = false by simp]; exact HR3.out
                  · have := HLEN.out; have := H.out.cnt; omega
                  · have := H.out.fls; simp only [List.length_append, List.length_singleton]; omega
                  · simp [intOf]; omega
              · rw [if_neg hmr] at hlst
                have t2 : decide (rs1.length < rs'.length) = false := by simp; omega
                subst hlst
                have HLG5 := HLG4
                have HB5 := HB4
                have HG5 := HG4
                have HF5 := HF4
                clear hmr HLG4 HB4 HG4 HF4
                obtain ⟨lst, hlst⟩ : ∃ lst : Int, (0 : Int) = lst := ⟨_, rfl⟩
                rw [hlst] at HB5 HR3
                clear hlst
                go_upto_region 16 with fail
                clear t2
                have dlt : decide ((at' : Int) < (D.length : Int)) = decide (at' < D.length) := by simp
                obtain ⟨fv5, z0, z1, z2, z3, z4, z5, z6, z7, z8⟩ := HLG5.out.cells
                have q6 : w4.cell? ⟨g, 6, none⟩ = some (.int .i64 (at' : Nat)) := z6
                have q5 : w4.cell? ⟨g, 5, none⟩ = some (.int .i64 L1.number) := z5
                have y5 := HLG5.out.frozen 5
                have hok5 := HLG5.out.ok
                have hS6 := HLG5.out.set 5 (.int .i64 m) { L1 with size := at', number := m } (fun _ => rfl) rfl ⟨hok5.last, hok5.firm, by simp only; omega, hok5.size, hok5.files⟩
                obtain ⟨w6, hw6⟩ : ∃ w6, w4.setCell ⟨g, 5, none⟩ (.int .i64 m) = w6 := ⟨_, rfl⟩
                rw [hw6] at hS6
                have hX2own : ∀ k, (Value.slice A3 rs'.length c3).ownBlock = some k → X2 k := fun k hk => (HX2.out k).2 (.inr hk)
                have hg6 : Grow w1.heap.size 52 2 recG w6 (.slice A3 rs'.length c3) rs' := HG5.out.keepG hS6.2 fun k hk hn => hn (hX2own k hk)
                have b6 : Blk w6 gs 102 #[.int .i64 m, .int .i64 lst] := HB5.out.of (hS6.2.block gs HB5.out.lt fun hn => hn ((HX2.out gs).2 (.inl (.inr rfl))))
                have hf6 : Fr (fun k => ¬ Y k) w1 w6 := HF5.out.trans hS6.2 fun k _ hk hy => hk ((HX2.out k).2 (.inl (.inl (H.out.sub k hy))))
                have HLG6 := Lib.hid hS6.1
                have HG6 := Lib.hid hg6
                have HF6 := Lib.hid hf6
                have HW6 := Lib.hid hw6
                have e0 : w6.cell? ⟨gs, 0, none⟩ = some (.int .i64 m) := b6.cell 0
                have e1 : w6.cell? ⟨gs, 1, none⟩ = some (.int .i64 lst) := b6.cell 1
                clear z0 z1 z2 z3 z4 z5 z6 z7 z8 hok5 hS6 hX2own hg6 hf6 b6 hw6
                go_upto_region 18 with fail
                rw [HW6.out]
                clear q6 q5 y5
                obtain ⟨i0, hi0, hz0, hz1, hz2⟩ := info_parts info102
                obtain ⟨Af, cf, q4, hrow, hgl, hadd⟩ := HLG6.out.addSeg (by have := H.out.fls; show L1.files.length < _; omega)
                have HROW := Lib.hid hrow
                have HADD := Lib.hid (hadd ⟨m, lst⟩)
                have hnl : L1.files.length < 64 := by have := H.out.fls; omega
                obtain ⟨nn, hnn⟩ : ∃ nn, L1.files.length = nn := ⟨_, rfl⟩
                have HNN := Lib.hid hnn
                change w6.cell? ⟨g, 4, none⟩ = some (.slice Af L1.files.length cf) at q4
                change Hid (w6.ownsRow 0 102 2 (.slice Af L1.files.length cf) L1.files.length (L1.files.flatMap SegP.cells)) at HROW
                simp only at HADD
                rw [hnn] at q4 HROW HADD hnl
                clear hrow hadd hnn HLG5 HG5 HB5 HF5
                go_region_law (first | (refine step_append_lies _ (by rfl) _ _ _ (by rfl) 0 102 i0 _ 2 16 Tryz.underlying69 hi0 hz0 hz1 hz2 rfl (by omega) (.slice Af nn cf) _ _ (by rfl) ((HROW.out.alloc _).drew) ⟨w6.heap.size, 0, none⟩ 1 1 [.int .i64 m, .int .i64 lst] (by rfl) (by rfl) (World.news_of_block (cs := #[.int .i64 m, .int .i64 lst]) (t := 102) (fr := (0, 0)) (heap_alloc_new w6 _)) (by simp [Value.oneCell']) (by omega) (by unfold maxLen; omega) (by omega) (by simp) (w6.heap.size + 1) (by simp) ?_; intro gg cap w7 hown3 hgrow hat hlt7; have q7 := (HADD.out _ _ _ _ hgrow hown3 hat).1; have qf := (HADD.out _ _ _ _ hgrow hown3 hat).2.1; have HE := Lib.hid (HADD.out _ _ _ _ hgrow hown3 hat).2.2; clear hgrow hown3 hat))
                all_goals
                  obtain ⟨w8, hw8⟩ : ∃ w8, w7.setCell ⟨g, 4, none⟩ (.slice (some ⟨gg, 0, none⟩) (nn + 1) cap) = w8 := ⟨_, rfl⟩
                  rw [hw8] at HE
                  have HW8 := Lib.hid hw8
                  clear hw8 q7 qf q4 e0 e1
                  go_wp2_with fail
                  rw [HW8.out]
                  refine ⟨⟨j + 1, rs', { L1 with size := at', number := m, files := L1.files ++ [⟨m, lst⟩] }, decide (at' < D.length), _, c3, X2, rfl, rfl, by go_num, ⟨by omega, ?_, HE.out.1, fun k hk => (HX2.out k).2 (.inl (.inl (H.out.sub k hk))), fun k hk => ⟨(HX2.out k).2 (.inr hk), HGO.out k hk⟩, HG6.out.keepG HE.out.2 (fun k hk hn => hn ((HX2.out k).2 (.inr hk))), ?_, ?_, HF6.out.trans HE.out.2 fun k _ hk hy => hk ((HX2.out k).2 (.inl (.inl (H.out.sub k hy))))⟩⟩, ?_⟩
                  · rw [show decide (j + 1 = 0) = false by simp]; exact HR3.out
                  · have := HLEN.out; have := H.out.cnt; omega
                  · have := H.out.fls; simp only [List.length_append, List.length_singleton]; omega
                  · simp [intOf]; omega
          · have HE : Hid (R = .error E) := Lib.hid (by have := HR1.out; rw [if_pos he] at this; exact this.symm)
            have HMN := Lib.hid (must_no E he wc)
            go_wp2_with fail
            refine HMN.out.mono ?_
            rintro e w' ⟨rfl, rfl⟩
            go_wp2_with fail
            refine ⟨rfl, fun x hx => ?_, fun q hq => ?_, HLC.out.dk.less fun k hk => H.out.sub k (HXY.out k hk), HLC.out.vr, FW1.out.any.trans HFC.out fun k _ hk hx => hk (HXY.out k hx)⟩
            · rw [HE.out] at hx; exact nomatch hx
            · rw [HE.out] at hq; cases hq; rfl
    · have hjn : j = n := by have := hl.le; omega
      subst hjn
      have hres := hl.res
      rw [List.drop_of_length_le (by rw [HN.out]; exact Nat.le_refl _)] at hres
      have HE := Lib.hid (lread_nil hres)
      clear hl hres
      go_wp2
      refine bodyPost_ret (v := .tuple #[.slice A1 rs1.length c1, .bool tn]) (by simp [results, Tryz.results52, go_sem]) rfl ?_
      refine ⟨fun x hx => ?_, fun m hm => ?_, ?_, H.out.lg.vr, ?_⟩
      · rw [HE.out] at hx
        cases hx
        exact ⟨A1, c1, X1, w1.heap.size, rfl, fun k hk => H.out.sub k (HXY.out k hk), H.out.lg, H.out.recs, FW1.out.size, fun k hk => ⟨(H.out.own k hk).1, Nat.le_trans FW1.out.size (H.out.own k hk).2⟩⟩
      · rw [HE.out] at hm; exact nomatch hm
      · exact H.out.lg.dk.less fun k hk => H.out.sub k (HXY.out k hk)
      · exact FW1.out.any.trans H.out.fr fun k _ hk hx => hk (HXY.out k hx)
end Go.Proofs.YtpeafckomahjgaaGreatDoor
