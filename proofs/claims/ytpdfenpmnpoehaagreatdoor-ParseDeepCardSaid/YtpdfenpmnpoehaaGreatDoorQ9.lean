/- Reading a query: a list of values. -/
import Derived.Test.YtpdfenpmnpoehaaGreatDoorQ8
import Derived.Deep.LoopGhost
namespace Go.Proofs.YtpdfenpmnpoehaaGreatDoor
open Go.RowKit Go.Maps
set_option linter.unusedVariables false

set_option maxRecDepth 100000 in
set_option maxHeartbeats 4000000 in
theorem lvals_any {C : Cx} {w : World} {r : List Wd} {b : Bool} (h : Rd C w r b) (he : Ended r) : Calls Tryz.prog 176 #[rp C, .int .i64 64, .func (.func 177) #[rp C] #[]] w (RdP C w (rowR 3 vlG) (listW 64 valW r b)) := by
  have hdl := h.lt
  obtain ⟨B, hB⟩ : ∃ B, w.heap.size = B := ⟨_, rfl⟩
  rw [hB] at hdl
  have HB := Lib.hid hB
  have HD := Lib.hid hdl
  have HRL : Hid (r.length ≤ 100000) := Lib.hid (by obtain ⟨a, e⟩ := h.suf; have := h.len.2.2; rw [e, List.length_append] at this; omega)
  have HK : Hid (Keeps valW) := Lib.hid keeps_val
  have HS0 := Lib.hid (St.start h he)
  have HONE : Hid (∀ wi J r b, St C w J wi r b → Calls Tryz.prog 177 #[rp C] wi (SP C w J wi vlR (valW r b))) := Lib.hid fun wi J r b hs => hs.call (val_any hs.rd hs.en) keeps_val
  have C0 := Lib.hid (HONE.out w Tr r b HS0.out)
  unfold rp at *
  clear h he hdl hB
  go_enter Tryz.func176, Tryz.ntmps176
  go_wp2_with fail
  refine C0.out.mono ?_
  clear C0
  rintro e w1 hp
  cases hR : valW r b with
  | bad c p =>
    rw [hR] at hp
    obtain ⟨rfl, f⟩ := hp
    have HF := Lib.hid f
    have HV : Hid (listW 64 valW r b = .bad c p) := Lib.hid (by simp only [listW, hR, PR.then])
    clear hR f
    go_wp2_with fail
    exact ⟨rfl, St.bad HV.out HF.out⟩
  | ok x r1 b1 =>
    rw [hR] at hp
    obtain ⟨⟨v, rfl, hv⟩, hs, f1⟩ := hp
    have hkl := (HK.out _ _ _ _ _ HS0.out.en hR).2
    have HV : Hid (listW 64 valW r b = (moreW valW (r1.length + 1) [x] r1 b1).then fun l r2 b2 => .ok l r2 (b2 || decide (64 < l.length))) := Lib.hid (by simp only [listW, hR, PR.then])
    obtain ⟨v1, v2, v3, rfl, hE⟩ := form_vl hv
    -- the row of one
    obtain ⟨w2, hw2⟩ : ∃ w2, w1.alloc (.cells #[.bool v1, sv v2, .int .i64 v3] 47) = w2 := ⟨_, rfl⟩
    have f2 : Fr No w1 w2 := by rw [← hw2]; exact (Fr.refl No w1).alloc _
    have hg2 : Grow B 47 3 vlG w2 (.slice (some ⟨w1.heap.size, 0, none⟩) 1 1) [x] := by
      rw [← hw2]
      exact Grow.single vlG_elem (w0 := w) (Nat.le_of_eq HB.out.symm) f1.size x [.bool v1, sv v2, .int .i64 v3] rfl hE (by decide)
    have HS2 := Lib.hid (hs.no f2)
    have HG2 := Lib.hid hg2
    have HW2 := Lib.hid hw2
    have HR1 : Hid (r1.length ≤ 100000) := Lib.hid (by have := HRL.out; omega)
    obtain ⟨y1, hy1⟩ : ∃ y1, w1.heap.size = y1 := ⟨_, rfl⟩
    rw [hy1] at HG2
    have HY1 := Lib.hid hy1
    clear hR hs f1 hv hE hw2 f2 hg2 hkl hy1
    go_wp2_with fail
    rw [HW2.out, HY1.out]
    go_loopg [7] r1.length (fun k r7 wr => Hid (∃ acc r2 b2, Grow B 47 3 vlG wr r7 acc ∧ St C w Tr wr r2 b2 ∧ r2.length ≤ k ∧ acc.length + r2.length ≤ 100001 ∧ moreW valW (r1.length + 1) [x] r1 b1 = moreW valW (k + 1) acc r2 b2))
    case atStart => exact Lib.hid ⟨[x], r1, b1, HG2.out, HS2.out, Nat.le_refl _, by have := HR1.out; simp; omega, rfl⟩
    case round =>
      obtain ⟨acc, r2, b2, hg, hs, hle, hlen, hm⟩ := hrel.out
      obtain ⟨A, c, rfl⟩ := hg.len
      have HM := Lib.hid hm
      have HG := Lib.hid hg
      have HSR := Lib.hid hs
      obtain ⟨n, hn⟩ : ∃ n, acc.length = n := ⟨_, rfl⟩
      rw [hn] at HG hlen
      have HN := Lib.hid hn
      simp only [hn]
      clear hg hs hm hrel hn
      go_wp2_with fail
      refine (says_any [44] wr).mono ?_
      rintro e w3 ⟨⟨mv, rfl, hmt⟩, f3⟩
      have HC := Lib.hid (takes_s (HSR.out.no f3) hmt (inner_says _))
      unfold rp at HC
      have HG3 := Lib.hid (HG.out.keep vlG_elem f3 (fun _ h => h.elim))
      clear hmt f3
      go_wp2_with fail
      refine HC.out.mono ?_
      clear HC
      rintro e w4 ⟨rfl, ht, hf, f4⟩
      have HG4 := Lib.hid (HG3.out.keep vlG_elem f4 (fun k h => by have := HD.out; have h : k = C.d := h; omega))
      clear f4 HG3 HG
      cases hc : seesW (saysW [44]) r2 with
      | true =>
        have HS4 := Lib.hid (ht hc)
        have htl := (HSR.out.en.sees (inner_says _) hc).2
        have HM2 : Hid (moreW valW (r1.length + 1) [x] r1 b1 = (valW r2.tail b2).then fun a => moreW valW gk (acc ++ [a])) := Lib.hid (by
          rw [HM.out]
          show (if seesW (saysW [44]) r2 = true then _ else _) = _
          rw [if_pos hc])
        have C1 := Lib.hid (HONE.out w4 Tr r2.tail b2 HS4.out)
        clear ht hf hc HM HSR
        go_wp2_with fail
        refine C1.out.mono ?_
        clear C1
        rintro e w5 hp
        cases hR : valW r2.tail b2 with
        | bad c p =>
          rw [hR] at hp
          obtain ⟨rfl, f⟩ := hp
          have HF := Lib.hid f
          have HV2 : Hid (listW 64 valW r b = .bad c p) := Lib.hid (by rw [HV.out, HM2.out, hR]; rfl)
          clear hR f
          go_wp2_with fail
          exact ⟨rfl, St.bad HV2.out HF.out⟩
        | ok x' r3 b3 =>
          rw [hR] at hp
          obtain ⟨⟨v, rfl, hv⟩, hs5, f5⟩ := hp
          have hkl := (HK.out _ _ _ _ _ HS4.out.en hR).2
          have HM3 : Hid (moreW valW (r1.length + 1) [x] r1 b1 = moreW valW gk (acc ++ [x']) r3 b3) := Lib.hid (by rw [HM2.out, hR]; rfl)
          obtain ⟨v1, v2, v3, rfl, hE⟩ := form_vl hv
          have hg5 := HG4.out.keep vlG_elem f5 (fun k h => by have := HD.out; have h : k = C.d := h; omega)
          rw [← HN.out] at hg5
          obtain ⟨A', c', w6, hrun, hg6, hfr6, hlt6⟩ := Grow.more (bytes := 32) vlG_elem (w0 := w4) hg5 (by have := HS4.out.fr.size; rw [← HB.out]; exact this) f5.size (fun k hk => (HG4.out.lt k (by rw [← HN.out]; exact hk)).2) 48 Tryz.underlying48 (.agg #[.bool false, .string ⟨#[]⟩, .int .i64 0]) (by kernel_rfl) rfl (by decide) x' [.bool v1, sv v2, .int .i64 v3] rfl (by simp [Value.oneCell']) hE (by rw [HN.out]; omega) (by rw [HN.out]; unfold maxLen; omega)
          have hrdy : Rd C w6 r3 b3 := hs5.rd.own (v := .slice A acc.length c) hfr6 (fun k hk => (HG4.out.lt k (by rw [← HN.out]; exact hk)).1) (by have := HD.out; omega) (by have h1 := HS0.out.rd.glt; rw [HB.out] at h1; exact h1)
          have hfr : Fr (Only C.d) w w6 := hs5.fr.own hfr6 (fun k hk => by rw [HB.out]; exact (HG4.out.lt k (by rw [← HN.out]; exact hk)).1)
          have HS6 : Hid (St C w Tr w6 r3 b3) := Lib.hid ⟨hrdy, hfr, hs5.en, trivial, stable_tr C⟩
          have HG6 := Lib.hid hg6
          have HRUN := Lib.hid hrun
          rw [HN.out] at HG6 HRUN
          clear hR hs5 f5 hv hE hg5 hg6 hfr6 hlt6 hrdy hfr
          go_wp2_with (at_builtin; refine wpList_add rfl _ _ _ _ rfl _ _ _ _ rfl rfl (HRUN.out _) ?_)
          obtain ⟨g1, rfl⟩ : ∃ g1, gk = g1 + 1 := ⟨gk - 1, by omega⟩
          go_roundg g1
          case rel => exact Lib.hid ⟨acc ++ [x'], r3, b3, HG6.out, HS6.out, by omega, by simp [HN.out]; omega, HM3.out⟩
          all_goals omega
      | false =>
        have HS4 := Lib.hid (hf hc)
        have HM2 : Hid (moreW valW (r1.length + 1) [x] r1 b1 = .ok acc r2 b2) := Lib.hid (by
          rw [HM.out]
          show (if seesW (saysW [44]) r2 = true then _ else _) = _
          rw [if_neg (by rw [hc]; decide)])
        have hrow := HG4.out
        rw [← HN.out] at hrow
        have hrow2 := hrow.row vlG_elem
        rw [HN.out] at hrow2
        have HROW : Hid (RowE (fun k => w.heap.size ≤ k) w4 3 (vlG (fun k => w.heap.size ≤ k) w4) (.slice A n c) acc) := Lib.hid (by rw [HB.out]; exact hrow2)
        have HV2 : Hid (listW 64 valW r b = .ok acc r2 (b2 || decide (64 < n))) := Lib.hid (by rw [HV.out, HM2.out, ← HN.out]; rfl)
        have hrd := HS4.out.rd
        have c2 : w4.cell? ⟨C.d, 2, none⟩ = some (.bool b2) := hrd.blk.cell 2
        have x2 := hrd.blk.frozen 2
        have HEND : Hid (∀ bb, bb = (b2 || decide (64 < n)) → RdP C w (rowR 3 vlG) (listW 64 valW r b) (.returned (.slice A n c)) (w4.setCell ⟨C.d, 2, none⟩ (.bool bb))) := Lib.hid fun bb hbb => by
          have f5 : Fr (Only C.d) w4 (w4.setCell ⟨C.d, 2, none⟩ (.bool bb)) := (Fr.refl (Only C.d) w4).setCell (p := ⟨C.d, 2, none⟩) (fun _ => rfl) _
          rw [HV2.out, ← hbb]
          refine ⟨HS4.out.fr.trans f5 fun _ _ h => h, ⟨_, rfl, ?_⟩, hrd.turn f5 (hrd.blk.set_ 2 _) hrd.suf⟩
          exact HROW.out.mono (fun k hk hkl => ⟨hk, f5.block k hkl (fun e => by have h1 := HD.out; have h2 := HB.out; have e : k = C.d := e; omega)⟩) fun y ys h => vlG_elem.mono _ _ _ _ _ _ h (fun k hk hkl => ⟨hk, f5.block k hkl (fun e => by have h1 := HD.out; have h2 := HB.out; have e : k = C.d := e; omega)⟩)
        clear ht hf hc HM HSR hrow hrow2 hrd hlen
        cases b2 with
        | true =>
          have HX := Lib.hid (HEND.out true (by rw [Bool.true_or]))
          go_wp2
          go_ret
          exact HX.out
        | false =>
          have HX := Lib.hid (HEND.out (decide ((64 : Int) < (n : Int))) (by rw [Bool.false_or]; exact decide_eq_decide.2 (by omega)))
          go_wp2
          all_goals
            go_ret
            exact HX.out
end Go.Proofs.YtpdfenpmnpoehaaGreatDoor
