/- Opening a log: a segment's bytes are read. -/
import Derived.Test.YtpeafckomahjgaaGreatDoorW7
namespace Go.Proofs.YtpeafckomahjgaaGreatDoor
open Go.RowKit Go.Maps
set_option linter.unusedVariables false

theorem unfR_err (l : List UInt8) : (unfR l).2.2 = 0 ∨ (unfR l).2.2 = 20 ∨ (unfR l).2.2 = 21 ∨ (unfR l).2.2 = 23 := by
  unfold unfR
  split
  · simp
  · split
    · simp
    · split
      · simp
      · split <;> simp
theorem scanW_step {D : List UInt8} {rs : List RcP} {at_ k : Nat} (h : at_ < D.length) : scanW (k + 1) rs D at_ =
    (if (unfR (D.drop at_)).2.2 = 20 then some (rs, at_)
      else if (unfR (D.drop at_)).2.2 ≠ 0 then none
      else if (unRec (unfR (D.drop at_)).1).2 ≠ 0 then none
      else if followsW rs (unRec (unfR (D.drop at_)).1).1 then scanW k (rs ++ [(unRec (unfR (D.drop at_)).1).1]) D (at_ + (unfR (D.drop at_)).2.1)
      else none) := by rw [scanW, if_pos h]
theorem scanW_end {D : List UInt8} {rs : List RcP} {at_ k : Nat} (h : ¬ at_ < D.length) : scanW (k + 1) rs D at_ = some (rs, at_) := by rw [scanW, if_neg h]
set_option maxRecDepth 100000 in
set_option maxHeartbeats 4000000 in
theorem scan_any {b : Nat} {w : World} {A : Option Addr} {n c : Nat} {rs : List RcP} (D : List UInt8) (h : Grow b 52 2 recG w (.slice A n c) rs) (hb : b ≤ w.heap.size) (hrs : rs.length ≤ 800000000) (hD : D.length ≤ 1073741824) :
    Calls Tryz.prog 103 #[.slice A n c, sv D] w (ScanP b w (.slice A n c) (scanW (D.length + 1) rs D 0)) := by
  obtain ⟨R, hR⟩ : ∃ R, scanW (D.length + 1) rs D 0 = R := ⟨_, rfl⟩
  have hn : n = rs.length := by
    obtain ⟨A', c', e⟩ := h.len
    injection e
  subst hn
  obtain ⟨V, hV⟩ : ∃ V, Value.slice A rs.length c = V := ⟨_, rfl⟩
  have hg0 := h
  have ho0 : ∀ k, (Value.slice A rs.length c).ownBlock = some k → V.ownBlock = some k ∨ w.heap.size ≤ k := fun k hk => .inl (hV ▸ hk)
  have HG0 := Lib.hid hg0
  have HO0 := Lib.hid ho0
  have HR := Lib.hid hR
  have HB := Lib.hid hb
  have HVL : Hid (∀ k, V.ownBlock = some k → k < w.heap.size) := Lib.hid fun k hk => (h.lt k (hV.symm ▸ hk)).2
  have HVL' : Hid (Value.slice A rs.length c = V) := Lib.hid hV
  obtain ⟨n0, hn0⟩ : ∃ n0, rs.length = n0 := ⟨_, rfl⟩
  rw [hn0] at hrs
  have HN0 := Lib.hid hn0
  rw [hR, hn0]
  rw [hn0] at HG0 HO0 HVL'
  clear h hg0 ho0 hR hb hV hn0
  go_enter Tryz.func103, Tryz.ntmps103
  go_wp2_with fail
  go_loopw [0, 6] (fun v i wr => ∃ k : Nat, ∃ rs1 : List RcP, ∃ at1 : Nat, ∃ A1 c1, D.length < k + at1 ∧ at1 ≤ D.length ∧ scanW k rs1 D at1 = R ∧ rs1.length * 8 ≤ n0 * 8 + at1 ∧ v = .slice A1 rs1.length c1 ∧ i = .int .i64 (at1 : Nat) ∧ Grow b 52 2 recG wr (.slice A1 rs1.length c1) rs1 ∧ (∀ k, (Value.slice A1 rs1.length c1).ownBlock = some k → V.ownBlock = some k ∨ w.heap.size ≤ k) ∧ Fr (fun k => V.ownBlock = some k) w wr) (fun _ i _ => D.length - (intOf i).toNat)
  case atStart => exact ⟨D.length + 1, rs, 0, A, c, by omega, by omega, HR.out, by rw [HN0.out]; omega, by rw [HN0.out], rfl, by rw [HN0.out]; exact HG0.out, by rw [HN0.out]; exact HO0.out, Fr.refl _ w⟩
  case round =>
    obtain ⟨k, rs1, at1, A1, c1, hk, hat, hres, hcnt, rfl, rfl, hg, ho, hf⟩ := hrel
    obtain ⟨k, rfl⟩ : ∃ k', k = k' + 1 := ⟨k - 1, by omega⟩
    have HG := Lib.hid hg
    have HO := Lib.hid ho
    have HF := Lib.hid hf
    clear hg ho hf
    by_cases hlt : at1 < D.length
    · have HX : Hid (Value.string ((ByteArray.mk D.toArray).extract at1 D.length) = sv (D.drop at1)) := Lib.hid (by rw [ext_list, List.take_length])
      rw [scanW_step hlt] at hres
      have hdl : (D.drop at1).length = D.length - at1 := List.length_drop
      have HC := Lib.hid (unf_any (D.drop at1) wr (by rw [hdl]; unfold maxLen; omega))
      unfold Unf at HC
      have hsz := unfR_size (D.drop at1)
      rw [hdl] at hsz
      obtain ⟨bd, hbd⟩ : ∃ x, (unfR (D.drop at1)).1 = x := ⟨_, rfl⟩
      obtain ⟨sz1, hsz1⟩ : ∃ x, (unfR (D.drop at1)).2.1 = x := ⟨_, rfl⟩
      obtain ⟨er, her⟩ : ∃ x, (unfR (D.drop at1)).2.2 = x := ⟨_, rfl⟩
      rw [hbd, hsz1, her] at hres HC hsz
      have HRES := Lib.hid hres
      have HSZ := Lib.hid hsz
      clear hdl hres hsz hbd hsz1 her
      go_wp2_with fail
      rw [HX.out]
      refine HC.out.mono ?_
      rintro e w1 ⟨rfl, f1⟩
      have F1 := Lib.hid (HF.out.trans (Fr.of_below f1) fun _ _ h => h.elim)
      have HG1 := Lib.hid (HG.out.keep recG_elem (Fr.of_below f1) (fun k hk => hk.elim))
      clear f1 HC
      by_cases h20 : er = 20
      · subst h20
        have hr1 := HRES.out
        rw [if_pos rfl] at hr1
        have HR1 := Lib.hid hr1
        clear hr1
        go_wp2_with fail
        refine bodyPost_ret (v := .tuple #[.slice A1 rs1.length c1, .int .i64 (at1 : Nat)]) (by simp [results, Tryz.results103, go_sem]) rfl ?_
        refine ⟨fun rs' at' e => ?_, fun e => ?_, by rw [HVL'.out]; exact F1.out⟩
        · rw [← HR1.out] at e
          obtain ⟨rfl, rfl⟩ := Prod.mk.inj (Option.some.inj e)
          exact ⟨A1, c1, rfl, HG1.out, fun k hk => by rw [HVL'.out]; exact HO.out k hk⟩
        · rw [← HR1.out] at e; exact nomatch e
      · have hd20 : (er == 20) = false := by simpa using h20
        have hr1 := HRES.out
        rw [if_neg h20] at hr1
        have HR1 := Lib.hid hr1
        clear hr1
        by_cases h0 : er = 0
        · subst h0
          have hr2 := HR1.out
          rw [if_neg (by simp)] at hr2
          obtain ⟨hs1, hs2, hs3⟩ := HSZ.out rfl
          have hbl : bd.length ≤ 1073741824 := by omega
          have HC2 := Lib.hid (unRec_any bd w1 hbl)
          have hok := unRec_ok bd hbl
          obtain ⟨⟨q, dt⟩, hr⟩ : ∃ x, (unRec bd).1 = x := ⟨_, rfl⟩
          obtain ⟨ur, hur⟩ : ∃ x, (unRec bd).2 = x := ⟨_, rfl⟩
          rw [hr, hur] at hr2 HC2
          rw [hr] at hok
          have HR2 := Lib.hid hr2
          unfold RcP.val at HC2
          simp only at HC2
          have HOK := Lib.hid hok
          clear hr hur hr2 hok
          go_wp2_with fail
          refine (check_ok w1).mono ?_
          rintro e w' ⟨rfl, rfl⟩
          go_wp2_with fail
          refine HC2.out.mono ?_
          rintro e w2 ⟨rfl, f2⟩
          have F2 := Lib.hid (F1.out.trans f2 fun _ _ h => h.elim)
          have HG2 := Lib.hid (HG1.out.keep recG_elem f2 (fun k hk => hk.elim))
          clear f2 HC2
          by_cases hu : ur = 0
          · subst hu
            have hr3 := HR2.out
            rw [if_neg (by simp)] at hr3
            have HC3 := Lib.hid (fun (w3 : World) (hg : Grow b 52 2 recG w3 (.slice A1 rs1.length c1) rs1) => follows_any ⟨q, dt⟩ hg HOK.out (by omega))
            obtain ⟨fb, hfb⟩ : ∃ x, followsW rs1 ⟨q, dt⟩ = x := ⟨_, rfl⟩
            rw [hfb] at hr3 HC3
            have HR3 := Lib.hid hr3
            clear hr3 hfb
            go_wp2_with fail
            obtain ⟨w2a, hw2a⟩ : ∃ w2a, w2.alloc (.cells #[.int .i64 q, .string ⟨dt.toArray⟩] 52) = w2a := ⟨_, rfl⟩
            have fa : Fr No w2 w2a := by rw [← hw2a]; exact (Fr.refl _ w2).alloc _
            have ba : Blk w2a w2.heap.size 52 #[.int .i64 q, sv dt] := by rw [← hw2a]; exact Blk.new w2 52 _
            rw [hw2a]
            obtain ⟨gr, hgr⟩ : ∃ gr, w2.heap.size = gr := ⟨_, rfl⟩
            rw [hgr] at ba ⊢
            refine (HC3.out w2a (HG2.out.keep recG_elem fa fun k hk => hk.elim)).mono ?_
            rintro e w3 ⟨rfl, f3⟩
            have f23 : Fr No w2 w3 := fa.trans f3 fun _ _ h => h
            have F3 := Lib.hid (F2.out.trans f23 fun _ _ h => h.elim)
            have HG3 := Lib.hid (HG2.out.keep recG_elem f23 fun k hk => hk.elim)
            have b3 := ba.of (f3.block gr ba.lt id)
            have z0 : w3.cell? ⟨gr, 0, none⟩ = some (.int .i64 q) := b3.cell 0
            have z1 : w3.cell? ⟨gr, 1, none⟩ = some (sv dt) := b3.cell 1
            clear fa ba f3 f23 hw2a hgr b3 HC3 HG2 F2
            by_cases hf : fb = true
            · subst hf
              have hr4 := HR3.out
              rw [if_pos rfl] at hr4
              obtain ⟨A2, c2, w4, hap, hg4, f4, hlt4, ho4⟩ := HG3.out.more2 recG_elem (w0 := w3) (Nat.le_trans HB.out F3.out.size) (Nat.le_refl _) (fun x hx => (HG3.out.lt x hx).2) 43 Tryz.underlying43 (.agg #[.int .i64 0, .string ⟨#[]⟩]) info52 rfl (by omega) ⟨q, dt⟩ [.int .i64 q, sv dt] rfl (by simp [Value.oneCell']) ⟨rfl, HOK.out⟩ (by omega) (by unfold maxLen; omega)
              have HR4 := Lib.hid hr4
              have HAP := Lib.hid hap
              have HG4 := Lib.hid hg4
              have HO4 : Hid (∀ x, (Value.slice A2 (rs1.length + 1) c2).ownBlock = some x → V.ownBlock = some x ∨ w.heap.size ≤ x) := Lib.hid fun x hx => by
                rcases ho4 x hx with h | h
                · exact HO.out x h
                · exact .inr (Nat.le_trans F3.out.size h)
              have HF4 : Hid (Fr (fun k => V.ownBlock = some k) w w4) := Lib.hid (F3.out.trans f4 fun x hlx hx => by
                rcases HO.out x hx with h | h
                · exact h
                · omega)
              have hw1 : IntKind.i64.wrap ((at1 : Int) + (sz1 : Int)) = ((at1 + sz1 : Nat) : Int) := by rw [IntWalk.i64_in _ (by omega)]; omega
              clear hap hg4 f4 hlt4 ho4 hr4
              go_wp2_with (first | (at_builtin; refine wpList_add rfl _ _ _ _ rfl _ _ _ _ rfl rfl (HAP.out _) ?_) | (refine (check_ok w3).mono ?_; rintro e w' ⟨rfl, rfl⟩))
              refine ⟨⟨k, rs1 ++ [⟨q, dt⟩], at1 + sz1, A2, c2, by omega, by omega, HR4.out, by rw [List.length_append, List.length_singleton]; omega, by rw [List.length_append, List.length_singleton], by go_num, ?_, ?_, HF4.out⟩, ?_⟩
              · rw [List.length_append, List.length_singleton]; exact HG4.out
              · rw [List.length_append, List.length_singleton]; exact HO4.out
              · simp [intOf]; omega
            · have hfb : fb = false := by simpa using hf
              subst hfb
              have hr4 := HR3.out
              rw [if_neg (by simp)] at hr4
              have HR4 := Lib.hid hr4
              clear hr4
              go_wp2_with fail
              refine (check_no w3).mono ?_
              rintro e w' ⟨rfl, rfl⟩
              go_wp2_with fail
              refine ⟨rfl, fun rs' at' e => ?_, fun _ => rfl, by rw [HVL'.out]; exact F3.out⟩
              rw [← HR4.out] at e; exact nomatch e
          · have hdu : (ur == 0) = false := by simpa using hu
            have hr3 := HR2.out
            rw [if_pos hu] at hr3
            have HR3 := Lib.hid hr3
            clear hr3
            go_wp2_with fail
            refine (check_no _).mono ?_
            rintro e w' ⟨rfl, rfl⟩
            go_wp2_with fail
            refine ⟨rfl, fun rs' at' e => ?_, fun _ => rfl, by rw [HVL'.out]; exact F2.out.alloc _⟩
            rw [← HR3.out] at e; exact nomatch e
        · have hd0 : (er == 0) = false := by simpa using h0
          have hr2 := HR1.out
          rw [if_pos h0] at hr2
          have HR2 := Lib.hid hr2
          clear hr2
          go_wp2_with fail
          refine (check_no w1).mono ?_
          rintro e w' ⟨rfl, rfl⟩
          go_wp2_with fail
          refine ⟨rfl, fun rs' at' e => ?_, fun _ => rfl, by rw [HVL'.out]; exact F1.out⟩
          rw [← HR2.out] at e; exact nomatch e
    · have hr1 : scanW (k + 1) rs1 D at1 = some (rs1, at1) := scanW_end hlt
      rw [hr1] at hres
      have HRES := Lib.hid hres
      clear hres hr1
      go_wp2
      refine bodyPost_ret (v := .tuple #[.slice A1 rs1.length c1, .int .i64 (at1 : Nat)]) (by simp [results, Tryz.results103, go_sem]) rfl ?_
      refine ⟨fun rs' at' e => ?_, fun e => ?_, by rw [HVL'.out]; exact HF.out⟩
      · rw [← HRES.out] at e
        obtain ⟨rfl, rfl⟩ := Prod.mk.inj (Option.some.inj e)
        exact ⟨A1, c1, rfl, HG.out, fun k hk => by rw [HVL'.out]; exact HO.out k hk⟩
      · rw [← HRES.out] at e; exact nomatch e
end Go.Proofs.YtpeafckomahjgaaGreatDoor
