/- Reading a query: a list of names. -/
import Derived.Test.YtkcnbmgaeompjaaGreatDoorGD
import Derived.Deep.LoopGhost
import Derived.Deep.RegionHeld
namespace Go.Proofs.YtkcnbmgaeompjaaGreatDoor
open Go.RowKit Go.Maps
set_option linter.unusedVariables false

def rowR {α : Type} (size : Nat) (E : EG α) : VR (List α) := fun K w v l => RowE K w size (E K w) v l
def itR : VR It := fun _ _ v i => v = .agg #[.int .i64 i.kind, sv i.col] ∧ i.col.length ≤ 8192 ∧ i64 i.kind
def lsR : VR (List Tx) := fun K w v l => RowE K w 1 (strG K w) v l
def gpR : VR Gp := fun K w v e => ∃ a b, v = .agg #[.int .i64 e.kind, a, b] ∧ i64 e.kind ∧ RowE K w 1 (strG K w) a e.cols ∧ RowE K w 1 (lsG K w) b e.sets
theorem form_str {K : Nat → Prop} {w : World} {v : Value} {x : Tx} (h : strR K w v x) : ∃ t1, v = sv t1 ∧ strG K w x [sv t1] := ⟨x, h.1, rfl, by have := h.2; unfold maxLen; omega⟩
theorem form_vl {K : Nat → Prop} {w : World} {v : Value} {x : Vl} (h : vlR K w v x) : ∃ v1 v2 v3, v = .agg #[.bool v1, sv v2, .int .i64 v3] ∧ vlG K w x [.bool v1, sv v2, .int .i64 v3] := ⟨_, _, _, h.1, rfl, by have := h.2.1; unfold maxLen; omega, h.2.2⟩
theorem form_it {K : Nat → Prop} {w : World} {v : Value} {x : It} (h : itR K w v x) : ∃ v1 v2, v = .agg #[.int .i64 v1, sv v2] ∧ itG K w x [.int .i64 v1, sv v2] := ⟨_, _, h.1, rfl, by have := h.2.1; unfold maxLen; omega, h.2.2⟩
theorem form_ls {K : Nat → Prop} {w : World} {v : Value} {x : List Tx} (h : lsR K w v x) : ∃ A n c, v = .slice A n c ∧ lsG K w x [.slice A n c] := by
  have h' := h
  obtain ⟨A, c, rfl, _⟩ := h'
  exact ⟨_, _, _, rfl, _, rfl, rfl, h⟩
theorem form_gp {K : Nat → Prop} {w : World} {v : Value} {x : Gp} (h : gpR K w v x) : ∃ v1 A1 n1 c1 A2 n2 c2, v = .agg #[.int .i64 v1, .slice A1 n1 c1, .slice A2 n2 c2] ∧ gpG K w x [.int .i64 v1, .slice A1 n1 c1, .slice A2 n2 c2] := by
  obtain ⟨a, b, rfl, h1, h2, h3⟩ := h
  have h2' := h2
  have h3' := h3
  obtain ⟨A, c, rfl, _⟩ := h2'
  obtain ⟨A', c', rfl, _⟩ := h3'
  exact ⟨_, _, _, _, _, _, _, rfl, _, _, rfl, h1, h2, h3⟩
set_option maxRecDepth 100000 in
set_option maxHeartbeats 4000000 in
theorem lnames_any {C : Cx} {w : World} {r : List Wd} {b : Bool} (h : Rd C w r b) (he : Ended r) : Calls Tryz.prog 163 #[rp C, .int .i64 16, .func (.func 61) #[rp C] #[]] w (RdP C w (rowR 1 strG) (listW 16 nameW r b)) := by
  have hdl := h.lt
  obtain ⟨B, hB⟩ : ∃ B, w.heap.size = B := ⟨_, rfl⟩
  rw [hB] at hdl
  have HB := Lib.hid hB
  have HD := Lib.hid hdl
  have HRL : Hid (r.length ≤ 100000) := Lib.hid (by obtain ⟨a, e⟩ := h.suf; have := h.len.2.2; rw [e, List.length_append] at this; omega)
  have HK : Hid (Keeps nameW) := Lib.hid keeps_name
  have HS0 := Lib.hid (St.start h he)
  have HONE : Hid (∀ wi J r b, St C w J wi r b → Calls Tryz.prog 61 #[rp C] wi (SP C w J wi strR (nameW r b))) := Lib.hid fun wi J r b hs => hs.call (name_any hs.rd hs.en) keeps_name
  have C0 := Lib.hid (HONE.out w Tr r b HS0.out)
  unfold rp at *
  clear h he hdl hB
  go_enter Tryz.func163, Tryz.ntmps163
  go_wp2_with fail
  refine C0.out.mono ?_
  clear C0
  rintro e w1 hp
  cases hR : nameW r b with
  | bad c p =>
    rw [hR] at hp
    obtain ⟨rfl, f⟩ := hp
    have HF := Lib.hid f
    have HV : Hid (listW 16 nameW r b = .bad c p) := Lib.hid (by simp only [listW, hR, PR.then])
    clear hR f
    go_wp2_with fail
    exact ⟨rfl, St.bad HV.out HF.out⟩
  | ok x r1 b1 =>
    rw [hR] at hp
    obtain ⟨⟨v, rfl, hv⟩, hs, f1⟩ := hp
    have hkl := (HK.out _ _ _ _ _ HS0.out.en hR).2
    have HV : Hid (listW 16 nameW r b = (moreW nameW (r1.length + 1) [x] r1 b1).then fun l r2 b2 => .ok l r2 (b2 || decide (16 < l.length))) := Lib.hid (by simp only [listW, hR, PR.then])
    obtain ⟨t1, rfl, hE⟩ := form_str hv
    -- the row of one
    obtain ⟨w2, hw2⟩ : ∃ w2, w1.alloc (.cells #[sv t1] 9) = w2 := ⟨_, rfl⟩
    have f2 : Fr No w1 w2 := by rw [← hw2]; exact (Fr.refl No w1).alloc _
    have hg2 : Grow B 9 1 strG w2 (.slice (some ⟨w1.heap.size, 0, none⟩) 1 1) [x] := by
      rw [← hw2]
      exact Grow.single strG_elem (w0 := w) (Nat.le_of_eq HB.out.symm) f1.size x [sv t1] rfl hE (by decide)
    have HS2 := Lib.hid (hs.no f2)
    have HG2 := Lib.hid hg2
    have HW2 := Lib.hid hw2
    have HR1 : Hid (r1.length ≤ 100000) := Lib.hid (by have := HRL.out; omega)
    obtain ⟨y1, hy1⟩ : ∃ y1, w1.heap.size = y1 := ⟨_, rfl⟩
    rw [hy1] at HG2
    have HY1 := Lib.hid hy1
    clear hR hs f1 hv hE hw2 f2 hg2 hkl hy1
    go_wp2_with fail
    rw [HW2.out, HY1.out]
    go_loopg [7] r1.length (fun k r7 wr => Hid (∃ acc r2 b2, Grow B 9 1 strG wr r7 acc ∧ St C w Tr wr r2 b2 ∧ r2.length ≤ k ∧ acc.length + r2.length ≤ 100001 ∧ moreW nameW (r1.length + 1) [x] r1 b1 = moreW nameW (k + 1) acc r2 b2))
    case atStart => exact Lib.hid ⟨[x], r1, b1, HG2.out, HS2.out, Nat.le_refl _, by have := HR1.out; simp; omega, rfl⟩
    case round =>
      obtain ⟨acc, r2, b2, hg, hs, hle, hlen, hm⟩ := hrel.out
      obtain ⟨A, c, rfl⟩ := hg.len
      have HM := Lib.hid hm
      have HG := Lib.hid hg
      have HSR := Lib.hid hs
      obtain ⟨n, hn⟩ : ∃ n, acc.length = n := ⟨_, rfl⟩
      rw [hn] at HG hlen
      have HN := Lib.hid hn
      simp only [hn]
      clear hg hs hm hrel hn
      go_wp2_with fail
      refine (says_any [44] wr).mono ?_
      rintro e w3 ⟨⟨mv, rfl, hmt⟩, f3⟩
      have HC := Lib.hid (takes_s (HSR.out.no f3) hmt (inner_says _))
      unfold rp at HC
      have HG3 := Lib.hid (HG.out.keep strG_elem f3 (fun _ h => h.elim))
      clear hmt f3
      go_wp2_with fail
      refine HC.out.mono ?_
      clear HC
      rintro e w4 ⟨rfl, ht, hf, f4⟩
      have HG4 := Lib.hid (HG3.out.keep strG_elem f4 (fun k h => by have := HD.out; have h : k = C.d := h; omega))
      clear f4 HG3 HG
      cases hc : seesW (saysW [44]) r2 with
      | true =>
        have HS4 := Lib.hid (ht hc)
        have htl := (HSR.out.en.sees (inner_says _) hc).2
        have HM2 : Hid (moreW nameW (r1.length + 1) [x] r1 b1 = (nameW r2.tail b2).then fun a => moreW nameW gk (acc ++ [a])) := Lib.hid (by
          rw [HM.out]
          show (if seesW (saysW [44]) r2 = true then _ else _) = _
          rw [if_pos hc])
        have C1 := Lib.hid (HONE.out w4 Tr r2.tail b2 HS4.out)
        clear ht hf hc HM HSR
        go_wp2_with fail
        refine C1.out.mono ?_
        clear C1
        rintro e w5 hp
        cases hR : nameW r2.tail b2 with
        | bad c p =>
          rw [hR] at hp
          obtain ⟨rfl, f⟩ := hp
          have HF := Lib.hid f
          have HV2 : Hid (listW 16 nameW r b = .bad c p) := Lib.hid (by rw [HV.out, HM2.out, hR]; rfl)
          clear hR f
          go_wp2_with fail
          exact ⟨rfl, St.bad HV2.out HF.out⟩
        | ok x' r3 b3 =>
          rw [hR] at hp
          obtain ⟨⟨v, rfl, hv⟩, hs5, f5⟩ := hp
          have hkl := (HK.out _ _ _ _ _ HS4.out.en hR).2
          have HM3 : Hid (moreW nameW (r1.length + 1) [x] r1 b1 = moreW nameW gk (acc ++ [x']) r3 b3) := Lib.hid (by rw [HM2.out, hR]; rfl)
          obtain ⟨t1, rfl, hE⟩ := form_str hv
          have hg5 := HG4.out.keep strG_elem f5 (fun k h => by have := HD.out; have h : k = C.d := h; omega)
          rw [← HN.out] at hg5
          obtain ⟨A', c', w6, hrun, hg6, hfr6, hlt6⟩ := Grow.more (bytes := 16) strG_elem (w0 := w4) hg5 (by have := HS4.out.fr.size; rw [← HB.out]; exact this) f5.size (fun k hk => (HG4.out.lt k (by rw [← HN.out]; exact hk)).2) 52 Tryz.underlying52 (.string ⟨#[]⟩) (by kernel_rfl) rfl (by decide) x' [sv t1] rfl (by simp [Value.oneCell']) hE (by rw [HN.out]; omega) (by rw [HN.out]; unfold maxLen; omega)
          have hrdy : Rd C w6 r3 b3 := hs5.rd.own (v := .slice A acc.length c) hfr6 (fun k hk => (HG4.out.lt k (by rw [← HN.out]; exact hk)).1) (by have := HD.out; omega) (by have h1 := HS0.out.rd.glt; rw [HB.out] at h1; exact h1)
          have hfr : Fr (Only C.d) w w6 := hs5.fr.own hfr6 (fun k hk => by rw [HB.out]; exact (HG4.out.lt k (by rw [← HN.out]; exact hk)).1)
          have HS6 : Hid (St C w Tr w6 r3 b3) := Lib.hid ⟨hrdy, hfr, hs5.en, trivial, stable_tr C⟩
          have HG6 := Lib.hid hg6
          have HRUN := Lib.hid hrun
          rw [HN.out] at HG6 HRUN
          clear hR hs5 f5 hv hE hg5 hg6 hfr6 hlt6 hrdy hfr
          go_wp2_with (at_builtin; refine wpList_add rfl _ _ _ _ rfl _ _ _ _ rfl rfl (HRUN.out _) ?_)
          obtain ⟨g1, rfl⟩ : ∃ g1, gk = g1 + 1 := ⟨gk - 1, by omega⟩
          go_roundg g1
          case rel => exact Lib.hid ⟨acc ++ [x'], r3, b3, HG6.out, HS6.out, by omega, by simp [HN.out]; omega, HM3.out⟩
          all_goals omega
      | false =>
        have HS4 := Lib.hid (hf hc)
        have HM2 : Hid (moreW nameW (r1.length + 1) [x] r1 b1 = .ok acc r2 b2) := Lib.hid (by
          rw [HM.out]
          show (if seesW (saysW [44]) r2 = true then _ else _) = _
          rw [if_neg (by rw [hc]; decide)])
        have hrow := HG4.out
        rw [← HN.out] at hrow
        have hrow2 := hrow.row strG_elem
        rw [HN.out] at hrow2
        have HROW : Hid (RowE (fun k => w.heap.size ≤ k) w4 1 (strG (fun k => w.heap.size ≤ k) w4) (.slice A n c) acc) := Lib.hid (by rw [HB.out]; exact hrow2)
        have HV2 : Hid (listW 16 nameW r b = .ok acc r2 (b2 || decide (16 < n))) := Lib.hid (by rw [HV.out, HM2.out, ← HN.out]; rfl)
        have hrd := HS4.out.rd
        have c2 : w4.cell? ⟨C.d, 2, none⟩ = some (.bool b2) := hrd.blk.cell 2
        have x2 := hrd.blk.frozen 2
        have HEND : Hid (∀ bb, bb = (b2 || decide (16 < n)) → RdP C w (rowR 1 strG) (listW 16 nameW r b) (.returned (.slice A n c)) (w4.setCell ⟨C.d, 2, none⟩ (.bool bb))) := Lib.hid fun bb hbb => by
          have f5 : Fr (Only C.d) w4 (w4.setCell ⟨C.d, 2, none⟩ (.bool bb)) := (Fr.refl (Only C.d) w4).setCell (p := ⟨C.d, 2, none⟩) (fun _ => rfl) _
          rw [HV2.out, ← hbb]
          refine ⟨HS4.out.fr.trans f5 fun _ _ h => h, ⟨_, rfl, ?_⟩, hrd.turn f5 (hrd.blk.set_ 2 _) hrd.suf⟩
          exact HROW.out.mono (fun k hk hkl => ⟨hk, f5.block k hkl (fun e => by have h1 := HD.out; have h2 := HB.out; have e : k = C.d := e; omega)⟩) fun y ys h => strG_elem.mono _ _ _ _ _ _ h (fun k hk hkl => ⟨hk, f5.block k hkl (fun e => by have h1 := HD.out; have h2 := HB.out; have e : k = C.d := e; omega)⟩)
        clear ht hf hc HM HSR hrow hrow2 hrd hlen
        cases b2 with
        | true =>
          have HX := Lib.hid (HEND.out true (by rw [Bool.true_or]))
          go_wp2
          go_ret
          exact HX.out
        | false =>
          have HX := Lib.hid (HEND.out (decide ((16 : Int) < (n : Int))) (by rw [Bool.false_or]; exact decide_eq_decide.2 (by omega)))
          go_wp2
          all_goals
            go_ret
            exact HX.out
end Go.Proofs.YtkcnbmgaeompjaaGreatDoor
/- Reading a query: a list of values. -/
namespace Go.Proofs.YtkcnbmgaeompjaaGreatDoor
open Go.RowKit Go.Maps
set_option linter.unusedVariables false

set_option maxRecDepth 100000 in
set_option maxHeartbeats 4000000 in
theorem lvals_any {C : Cx} {w : World} {r : List Wd} {b : Bool} (h : Rd C w r b) (he : Ended r) : Calls Tryz.prog 176 #[rp C, .int .i64 64, .func (.func 177) #[rp C] #[]] w (RdP C w (rowR 3 vlG) (listW 64 valW r b)) := by
  have hdl := h.lt
  obtain ⟨B, hB⟩ : ∃ B, w.heap.size = B := ⟨_, rfl⟩
  rw [hB] at hdl
  have HB := Lib.hid hB
  have HD := Lib.hid hdl
  have HRL : Hid (r.length ≤ 100000) := Lib.hid (by obtain ⟨a, e⟩ := h.suf; have := h.len.2.2; rw [e, List.length_append] at this; omega)
  have HK : Hid (Keeps valW) := Lib.hid keeps_val
  have HS0 := Lib.hid (St.start h he)
  have HONE : Hid (∀ wi J r b, St C w J wi r b → Calls Tryz.prog 177 #[rp C] wi (SP C w J wi vlR (valW r b))) := Lib.hid fun wi J r b hs => hs.call (val_any hs.rd hs.en) keeps_val
  have C0 := Lib.hid (HONE.out w Tr r b HS0.out)
  unfold rp at *
  clear h he hdl hB
  go_enter Tryz.func176, Tryz.ntmps176
  go_wp2_with fail
  refine C0.out.mono ?_
  clear C0
  rintro e w1 hp
  cases hR : valW r b with
  | bad c p =>
    rw [hR] at hp
    obtain ⟨rfl, f⟩ := hp
    have HF := Lib.hid f
    have HV : Hid (listW 64 valW r b = .bad c p) := Lib.hid (by simp only [listW, hR, PR.then])
    clear hR f
    go_wp2_with fail
    exact ⟨rfl, St.bad HV.out HF.out⟩
  | ok x r1 b1 =>
    rw [hR] at hp
    obtain ⟨⟨v, rfl, hv⟩, hs, f1⟩ := hp
    have hkl := (HK.out _ _ _ _ _ HS0.out.en hR).2
    have HV : Hid (listW 64 valW r b = (moreW valW (r1.length + 1) [x] r1 b1).then fun l r2 b2 => .ok l r2 (b2 || decide (64 < l.length))) := Lib.hid (by simp only [listW, hR, PR.then])
    obtain ⟨v1, v2, v3, rfl, hE⟩ := form_vl hv
    -- the row of one
    obtain ⟨w2, hw2⟩ : ∃ w2, w1.alloc (.cells #[.bool v1, sv v2, .int .i64 v3] 47) = w2 := ⟨_, rfl⟩
    have f2 : Fr No w1 w2 := by rw [← hw2]; exact (Fr.refl No w1).alloc _
    have hg2 : Grow B 47 3 vlG w2 (.slice (some ⟨w1.heap.size, 0, none⟩) 1 1) [x] := by
      rw [← hw2]
      exact Grow.single vlG_elem (w0 := w) (Nat.le_of_eq HB.out.symm) f1.size x [.bool v1, sv v2, .int .i64 v3] rfl hE (by decide)
    have HS2 := Lib.hid (hs.no f2)
    have HG2 := Lib.hid hg2
    have HW2 := Lib.hid hw2
    have HR1 : Hid (r1.length ≤ 100000) := Lib.hid (by have := HRL.out; omega)
    obtain ⟨y1, hy1⟩ : ∃ y1, w1.heap.size = y1 := ⟨_, rfl⟩
    rw [hy1] at HG2
    have HY1 := Lib.hid hy1
    clear hR hs f1 hv hE hw2 f2 hg2 hkl hy1
    go_wp2_with fail
    rw [HW2.out, HY1.out]
    go_loopg [7] r1.length (fun k r7 wr => Hid (∃ acc r2 b2, Grow B 47 3 vlG wr r7 acc ∧ St C w Tr wr r2 b2 ∧ r2.length ≤ k ∧ acc.length + r2.length ≤ 100001 ∧ moreW valW (r1.length + 1) [x] r1 b1 = moreW valW (k + 1) acc r2 b2))
    case atStart => exact Lib.hid ⟨[x], r1, b1, HG2.out, HS2.out, Nat.le_refl _, by have := HR1.out; simp; omega, rfl⟩
    case round =>
      obtain ⟨acc, r2, b2, hg, hs, hle, hlen, hm⟩ := hrel.out
      obtain ⟨A, c, rfl⟩ := hg.len
      have HM := Lib.hid hm
      have HG := Lib.hid hg
      have HSR := Lib.hid hs
      obtain ⟨n, hn⟩ : ∃ n, acc.length = n := ⟨_, rfl⟩
      rw [hn] at HG hlen
      have HN := Lib.hid hn
      simp only [hn]
      clear hg hs hm hrel hn
      go_wp2_with fail
      refine (says_any [44] wr).mono ?_
      rintro e w3 ⟨⟨mv, rfl, hmt⟩, f3⟩
      have HC := Lib.hid (takes_s (HSR.out.no f3) hmt (inner_says _))
      unfold rp at HC
      have HG3 := Lib.hid (HG.out.keep vlG_elem f3 (fun _ h => h.elim))
      clear hmt f3
      go_wp2_with fail
      refine HC.out.mono ?_
      clear HC
      rintro e w4 ⟨rfl, ht, hf, f4⟩
      have HG4 := Lib.hid (HG3.out.keep vlG_elem f4 (fun k h => by have := HD.out; have h : k = C.d := h; omega))
      clear f4 HG3 HG
      cases hc : seesW (saysW [44]) r2 with
      | true =>
        have HS4 := Lib.hid (ht hc)
        have htl := (HSR.out.en.sees (inner_says _) hc).2
        have HM2 : Hid (moreW valW (r1.length + 1) [x] r1 b1 = (valW r2.tail b2).then fun a => moreW valW gk (acc ++ [a])) := Lib.hid (by
          rw [HM.out]
          show (if seesW (saysW [44]) r2 = true then _ else _) = _
          rw [if_pos hc])
        have C1 := Lib.hid (HONE.out w4 Tr r2.tail b2 HS4.out)
        clear ht hf hc HM HSR
        go_wp2_with fail
        refine C1.out.mono ?_
        clear C1
        rintro e w5 hp
        cases hR : valW r2.tail b2 with
        | bad c p =>
          rw [hR] at hp
          obtain ⟨rfl, f⟩ := hp
          have HF := Lib.hid f
          have HV2 : Hid (listW 64 valW r b = .bad c p) := Lib.hid (by rw [HV.out, HM2.out, hR]; rfl)
          clear hR f
          go_wp2_with fail
          exact ⟨rfl, St.bad HV2.out HF.out⟩
        | ok x' r3 b3 =>
          rw [hR] at hp
          obtain ⟨⟨v, rfl, hv⟩, hs5, f5⟩ := hp
          have hkl := (HK.out _ _ _ _ _ HS4.out.en hR).2
          have HM3 : Hid (moreW valW (r1.length + 1) [x] r1 b1 = moreW valW gk (acc ++ [x']) r3 b3) := Lib.hid (by rw [HM2.out, hR]; rfl)
          obtain ⟨v1, v2, v3, rfl, hE⟩ := form_vl hv
          have hg5 := HG4.out.keep vlG_elem f5 (fun k h => by have := HD.out; have h : k = C.d := h; omega)
          rw [← HN.out] at hg5
          obtain ⟨A', c', w6, hrun, hg6, hfr6, hlt6⟩ := Grow.more (bytes := 32) vlG_elem (w0 := w4) hg5 (by have := HS4.out.fr.size; rw [← HB.out]; exact this) f5.size (fun k hk => (HG4.out.lt k (by rw [← HN.out]; exact hk)).2) 48 Tryz.underlying48 (.agg #[.bool false, .string ⟨#[]⟩, .int .i64 0]) (by kernel_rfl) rfl (by decide) x' [.bool v1, sv v2, .int .i64 v3] rfl (by simp [Value.oneCell']) hE (by rw [HN.out]; omega) (by rw [HN.out]; unfold maxLen; omega)
          have hrdy : Rd C w6 r3 b3 := hs5.rd.own (v := .slice A acc.length c) hfr6 (fun k hk => (HG4.out.lt k (by rw [← HN.out]; exact hk)).1) (by have := HD.out; omega) (by have h1 := HS0.out.rd.glt; rw [HB.out] at h1; exact h1)
          have hfr : Fr (Only C.d) w w6 := hs5.fr.own hfr6 (fun k hk => by rw [HB.out]; exact (HG4.out.lt k (by rw [← HN.out]; exact hk)).1)
          have HS6 : Hid (St C w Tr w6 r3 b3) := Lib.hid ⟨hrdy, hfr, hs5.en, trivial, stable_tr C⟩
          have HG6 := Lib.hid hg6
          have HRUN := Lib.hid hrun
          rw [HN.out] at HG6 HRUN
          clear hR hs5 f5 hv hE hg5 hg6 hfr6 hlt6 hrdy hfr
          go_wp2_with (at_builtin; refine wpList_add rfl _ _ _ _ rfl _ _ _ _ rfl rfl (HRUN.out _) ?_)
          obtain ⟨g1, rfl⟩ : ∃ g1, gk = g1 + 1 := ⟨gk - 1, by omega⟩
          go_roundg g1
          case rel => exact Lib.hid ⟨acc ++ [x'], r3, b3, HG6.out, HS6.out, by omega, by simp [HN.out]; omega, HM3.out⟩
          all_goals omega
      | false =>
        have HS4 := Lib.hid (hf hc)
        have HM2 : Hid (moreW valW (r1.length + 1) [x] r1 b1 = .ok acc r2 b2) := Lib.hid (by
          rw [HM.out]
          show (if seesW (saysW [44]) r2 = true then _ else _) = _
          rw [if_neg (by rw [hc]; decide)])
        have hrow := HG4.out
        rw [← HN.out] at hrow
        have hrow2 := hrow.row vlG_elem
        rw [HN.out] at hrow2
        have HROW : Hid (RowE (fun k => w.heap.size ≤ k) w4 3 (vlG (fun k => w.heap.size ≤ k) w4) (.slice A n c) acc) := Lib.hid (by rw [HB.out]; exact hrow2)
        have HV2 : Hid (listW 64 valW r b = .ok acc r2 (b2 || decide (64 < n))) := Lib.hid (by rw [HV.out, HM2.out, ← HN.out]; rfl)
        have hrd := HS4.out.rd
        have c2 : w4.cell? ⟨C.d, 2, none⟩ = some (.bool b2) := hrd.blk.cell 2
        have x2 := hrd.blk.frozen 2
        have HEND : Hid (∀ bb, bb = (b2 || decide (64 < n)) → RdP C w (rowR 3 vlG) (listW 64 valW r b) (.returned (.slice A n c)) (w4.setCell ⟨C.d, 2, none⟩ (.bool bb))) := Lib.hid fun bb hbb => by
          have f5 : Fr (Only C.d) w4 (w4.setCell ⟨C.d, 2, none⟩ (.bool bb)) := (Fr.refl (Only C.d) w4).setCell (p := ⟨C.d, 2, none⟩) (fun _ => rfl) _
          rw [HV2.out, ← hbb]
          refine ⟨HS4.out.fr.trans f5 fun _ _ h => h, ⟨_, rfl, ?_⟩, hrd.turn f5 (hrd.blk.set_ 2 _) hrd.suf⟩
          exact HROW.out.mono (fun k hk hkl => ⟨hk, f5.block k hkl (fun e => by have h1 := HD.out; have h2 := HB.out; have e : k = C.d := e; omega)⟩) fun y ys h => vlG_elem.mono _ _ _ _ _ _ h (fun k hk hkl => ⟨hk, f5.block k hkl (fun e => by have h1 := HD.out; have h2 := HB.out; have e : k = C.d := e; omega)⟩)
        clear ht hf hc HM HSR hrow hrow2 hrd hlen
        cases b2 with
        | true =>
          have HX := Lib.hid (HEND.out true (by rw [Bool.true_or]))
          go_wp2
          go_ret
          exact HX.out
        | false =>
          have HX := Lib.hid (HEND.out (decide ((64 : Int) < (n : Int))) (by rw [Bool.false_or]; exact decide_eq_decide.2 (by omega)))
          go_wp2
          all_goals
            go_ret
            exact HX.out
end Go.Proofs.YtkcnbmgaeompjaaGreatDoor
/- Reading a query: a test. -/
namespace Go.Proofs.YtkcnbmgaeompjaaGreatDoor
open Go.RowKit Go.Maps
set_option linter.unusedVariables false
attribute [local go_sem ↓] to7 to7'

def cdR : VR Cd := fun K w v c => CdAt K w c v
/-- Stores into a block made since the beginning. -/
theorem St.put {C : Cx} {w wi wj : World} {J J' : World → Prop} {r : List Wd} {b : Bool} {y : Nat} (h : St C w J wi r b) (f : Fr (fun k => k = y) wi wj) (hy : w.heap.size ≤ y) (hd : C.d < w.heap.size) (hg : C.g < w.heap.size) (hj : J' wj) (hs : Stable C J') : St C w J' wj r b :=
  ⟨h.rd.past f (by omega) (by omega), ⟨f.os.trans h.fr.os, f.tape.trans h.fr.tape, f.output.trans h.fr.output, Nat.le_trans h.fr.size f.size, fun k hk hn => (f.block k (Nat.lt_of_lt_of_le hk h.fr.size) (fun e => by have e : k = y := e; omega)).trans (h.fr.block k hk hn)⟩, h.en, hj, hs⟩
theorem stable_and {C : Cx} {J J' : World → Prop} (h : Stable C J) (h' : Stable C J') : Stable C (fun w => J w ∧ J' w) := fun w w' f ⟨a, c⟩ => ⟨h w w' f a, h' w w' f c⟩
/-- A row in blocks not below B. -/
theorem stable_row {α : Type} {C : Cx} {B size : Nat} {E : EG α} (hE : Elem E) {v : Value} {l : List α} (hB : C.d < B) : Stable C (fun w => RowE (fun k => B ≤ k) w size (E (fun k => B ≤ k) w) v l) := fun w w' f h =>
  h.mono (fun k hk hkl => ⟨hk, f.block k hkl (fun e => by have e : k = C.d := e; omega)⟩) fun x cs hx => hE.mono _ _ _ _ _ _ hx fun k hk hkl => ⟨hk, f.block k hkl (fun e => by have e : k = C.d := e; omega)⟩
theorem stable_cd {C : Cx} {B : Nat} {c : Cd} {v : Value} (hB : C.d < B) : Stable C (fun w => CdAt (fun k => B ≤ k) w c v) := fun w w' f h =>
  h.mono fun k hk hkl => ⟨hk, f.block k hkl (fun e => by have e : k = C.d := e; omega)⟩
/-- A node, out of its block. -/
theorem cd_of_blk {K : Nat → Prop} {w : World} {y : Nat} {k op : Int} {L R V : Value} {col : Tx} {l r : Cd} {vals : List Vl} (hb : Blk w y 50 #[.int .i64 k, L, R, sv col, .int .i64 op, V]) (hK : K y) (hl : CdAt K w l L) (hr : CdAt K w r R) (hv : RowE K w 3 (vlG K w) V vals) (hc : col.length ≤ maxLen) (hk : i64 k) (ho : i64 op) :
    CdAt K w (.node k l r col op vals) (.pointer (some ⟨y, 0, none⟩)) :=
  ⟨y, 0, L, R, V, rfl, hK, hb.lt, hb.cell 0, hb.cell 1, hb.cell 2, hb.cell 3, hb.cell 4, hb.cell 5, hl, hr, hv, hc, hk, ho⟩
def nd (k : Int) (t : Tx) (op : Int) (V : Value) : Array Value := #[.int .i64 k, .pointer none, .pointer none, sv t, .int .i64 op, V]
theorem i64_0 : i64 0 := by unfold i64; omega
theorem i64_of (n : Nat) (h : n ≤ 100) : i64 (n : Int) := by unfold i64; omega
set_option maxRecDepth 100000 in
set_option maxHeartbeats 8000000 in
theorem test_any {C : Cx} {w : World} {r : List Wd} {b : Bool} (h : Rd C w r b) (he : Ended r) : Calls Tryz.prog 162 #[rp C] w (RdP C w cdR (testW r b)) := by
  have hd := h.lt
  have hg := h.glt
  have HS0 := Lib.hid (St.start h he)
  have HD := Lib.hid hd
  have HG := Lib.hid hg
  have C0 := Lib.hid (name_s HS0.out)
  unfold rp at *
  clear h he hd hg
  go_enter Tryz.func162, Tryz.ntmps162
  go_wp2_with fail
  refine C0.out.mono ?_
  clear C0
  rintro e w1 hp
  cases hR : nameW r b with
  | bad c p =>
    rw [hR] at hp
    obtain ⟨rfl, f⟩ := hp
    have HF := Lib.hid f
    have HV : Hid (testW r b = .bad c p) := Lib.hid (by simp only [testW, hR, PR.then])
    clear hR f
    go_wp2_with fail
    exact ⟨rfl, St.bad HV.out HF.out⟩
  | ok t r1 b1 =>
    rw [hR] at hp
    obtain ⟨⟨v, rfl, rfl, ht8⟩, hs1, f1⟩ := hp
    have E0 := Lib.hid hR
    have HT8 := Lib.hid ht8
    -- the node
    obtain ⟨y, hy⟩ : ∃ y, w1.heap.size = y := ⟨_, rfl⟩
    have hwy : w.heap.size ≤ y := by rw [← hy]; exact hs1.fr.size
    have hyd : y ≠ C.d := by have := HD.out; omega
    obtain ⟨w2, hw2⟩ : ∃ w2, w1.alloc (.cells #[.int .i64 0, .pointer none, .pointer none, sv t, .int .i64 0, .slice none 0 0] 50) = w2 := ⟨_, rfl⟩
    have f2 : Fr No w1 w2 := by rw [← hw2]; exact (Fr.refl No w1).alloc _
    have hb2 : Blk w2 y 50 (nd 0 t 0 (.slice none 0 0)) := by rw [← hw2, ← hy]; exact Blk.new w1 50 _
    have HS2 := Lib.hid ((hs1.no f2).more hb2 (stable_blk hyd))
    have HW2 := Lib.hid hw2
    have HY := Lib.hid hy
    have HWY := Lib.hid hwy
    have HYD := Lib.hid hyd
    clear hR hs1 f1 hw2 f2 hb2 hy hwy hyd ht8
    go_upto_region 2 with fail
    rw [HW2.out, HY.out]
    go_wp2_with fail
    refine (says_any [73, 78] w2).mono ?_
    rintro e w3 ⟨⟨mv, rfl, hm⟩, f3⟩
    have HC := Lib.hid (takes_s (HS2.out.no f3) hm (inner_says _))
    unfold rp at HC
    clear hm f3
    go_wp2_with fail
    refine HC.out.mono ?_
    clear HC
    rintro e w4 ⟨rfl, ht, hf, -⟩
    cases hn : seesW (saysW [73, 78]) r1 with
    | true =>
      have HS4 := Lib.hid (ht hn)
      have E1 := Lib.hid hn
      obtain ⟨-, hb⟩ := HS4.out.j
      have z0 : w4.cell? ⟨y, 0, none⟩ = some (.int .i64 0) := hb.cell 0
      have x0 := hb.frozen 0
      obtain ⟨w5, hw5⟩ : ∃ w5, w4.setCell ⟨y, 0, none⟩ (.int .i64 5) = w5 := ⟨_, rfl⟩
      have f5 : Fr (fun k => k = y) w4 w5 := by rw [← hw5]; exact fr_set (Fr.refl _ w4)
      have hb5 : Blk w5 y 50 (nd 5 t 0 (.slice none 0 0)) := by rw [← hw5]; exact hb.set_ 0 _
      have HS5 := Lib.hid (HS4.out.put (J' := fun x => Blk x y 50 (nd 5 t 0 (.slice none 0 0))) f5 HWY.out HD.out HG.out hb5 (stable_blk HYD.out))
      have HW5 := Lib.hid hw5
      have CA := Lib.hid (all_s HS5.out [[40]] 1 rfl (by decide) #[sv [40]] rfl)
      unfold rp at CA
      clear ht hf hn hb hb5 f5 hw5
      go_upto_region 4 with fail
      rw [HW5.out]
      clear z0 x0
      go_wp2_with fail
      refine CA.out.mono ?_
      clear CA
      rintro e w6 hp
      cases hR : allW [[40]] r1.tail b1 with
      | bad c p =>
        rw [hR] at hp
        obtain ⟨rfl, f⟩ := hp
        have HF := Lib.hid f
        have HV : Hid (testW r b = .bad c p) := Lib.hid (by have q0 := E0.out; have q1 := E1.out; simp only [testW, q0, q1, hR, PR.then, if_true])
        clear hR f
        go_wp2_with fail
        exact ⟨rfl, St.bad HV.out HF.out⟩
      | ok u r2 b2 =>
        rw [hR] at hp
        obtain ⟨⟨v, rfl, rfl⟩, hs6, f6⟩ := hp
        have HS6 := Lib.hid hs6
        have E2 := Lib.hid hR
        have CL := Lib.hid (HS6.out.call (lvals_any HS6.out.rd HS6.out.en) (keeps_list keeps_val))
        unfold rp at CL
        clear hR hs6 f6
        go_wp2_with fail
        refine CL.out.mono ?_
        clear CL
        rintro e w7 hp
        cases hR : listW 64 valW r2 b2 with
        | bad c p =>
          rw [hR] at hp
          obtain ⟨rfl, f⟩ := hp
          have HF := Lib.hid f
          have HV : Hid (testW r b = .bad c p) := Lib.hid (by have q0 := E0.out; have q1 := E1.out; have q2 := E2.out; simp only [testW, q0, q1, q2, hR, PR.then, if_true])
          clear hR f
          go_wp2_with fail
          exact ⟨rfl, St.bad HV.out HF.out⟩
        | ok vs r3 b3 =>
          rw [hR] at hp
          obtain ⟨⟨v, rfl, hv⟩, hs7, f7⟩ := hp
          have hv' := hv
          obtain ⟨A, c, rfl, -⟩ := hv'
          have hb := hs7.j
          have z5 : w7.cell? ⟨y, 5, none⟩ = some (.slice none 0 0) := hb.cell 5
          have x5 := hb.frozen 5
          obtain ⟨w8, hw8⟩ : ∃ w8, w7.setCell ⟨y, 5, none⟩ (.slice A vs.length c) = w8 := ⟨_, rfl⟩
          have f8 : Fr (fun k => k = y) w7 w8 := by rw [← hw8]; exact fr_set (Fr.refl _ w7)
          have hb8 : Blk w8 y 50 (nd 5 t 0 (.slice A vs.length c)) := by rw [← hw8]; exact hb.set_ 5 _
          have hrow8 : RowE (fun k => w.heap.size ≤ k) w8 3 (vlG (fun k => w.heap.size ≤ k) w8) (.slice A vs.length c) vs := by
            have hle := HS6.out.fr.size
            have hyl : y < w6.heap.size := HS6.out.j.lt
            exact RowE.mono hv (fun k hk hkl => ⟨by omega, f8.block k hkl (fun e => by have e : k = y := e; omega)⟩) fun x cs h => vlG_elem.mono _ _ _ _ _ _ h fun k hk hkl => ⟨by omega, f8.block k hkl (fun e => by have e : k = y := e; omega)⟩
          have HS8 := Lib.hid (hs7.put (J' := fun x => Blk x y 50 (nd 5 t 0 (.slice A vs.length c)) ∧ RowE (fun k => w.heap.size ≤ k) x 3 (vlG (fun k => w.heap.size ≤ k) x) (.slice A vs.length c) vs) f8 HWY.out HD.out HG.out ⟨hb8, hrow8⟩ (stable_and (stable_blk HYD.out) (stable_row vlG_elem HD.out)))
          have E3 := Lib.hid hR
          have HW8 := Lib.hid hw8
          have CA := Lib.hid (all_s HS8.out [[41]] 1 rfl (by decide) #[sv [41]] rfl)
          unfold rp at CA
          clear hR hs7 f7 hb hv hb8 hrow8 f8 hw8
          go_upto_region 6 with fail
          rw [HW8.out]
          clear z5 x5
          go_wp2_with fail
          refine CA.out.mono ?_
          clear CA
          rintro e w9 hp
          cases hR : allW [[41]] r3 b3 with
          | bad cc p =>
            rw [hR] at hp
            obtain ⟨rfl, f⟩ := hp
            have HF := Lib.hid f
            have HV : Hid (testW r b = .bad cc p) := Lib.hid (by have q0 := E0.out; have q1 := E1.out; have q2 := E2.out; have q3 := E3.out; simp only [testW, q0, q1, q2, q3, hR, PR.then, PR.map, if_true])
            clear hR f
            go_wp2_with fail
            exact ⟨rfl, St.bad HV.out HF.out⟩
          | ok u r4 b4 =>
            rw [hR] at hp
            obtain ⟨⟨v, rfl, rfl⟩, hs9, -⟩ := hp
            have HV : Hid (testW r b = .ok (.node 5 .none .none t 0 vs) r4 b4) := Lib.hid (by have q0 := E0.out; have q1 := E1.out; have q2 := E2.out; have q3 := E3.out; simp only [testW, q0, q1, q2, q3, hR, PR.then, PR.map, if_true])
            have HS9 := Lib.hid hs9
            clear hR hs9
            go_wp2
            go_ret
            exact HS9.out.ok HV.out (cd_of_blk HS9.out.j.1 HWY.out rfl rfl HS9.out.j.2 (by have := HT8.out; unfold maxLen; omega) (i64_of 5 (by decide)) i64_0)
    | false =>
      have HS4 := Lib.hid (hf hn)
      have E1 := Lib.hid hn
      obtain ⟨-, hb⟩ := HS4.out.j
      have z0 : w4.cell? ⟨y, 0, none⟩ = some (.int .i64 0) := hb.cell 0
      have x0 := hb.frozen 0
      obtain ⟨w5, hw5⟩ : ∃ w5, w4.setCell ⟨y, 0, none⟩ (.int .i64 4) = w5 := ⟨_, rfl⟩
      have f5 : Fr (fun k => k = y) w4 w5 := by rw [← hw5]; exact fr_set (Fr.refl _ w4)
      have hb5 : Blk w5 y 50 (nd 4 t 0 (.slice none 0 0)) := by rw [← hw5]; exact hb.set_ 0 _
      have HS5 := Lib.hid (HS4.out.put (J' := fun x => Blk x y 50 (nd 4 t 0 (.slice none 0 0))) f5 HWY.out HD.out HG.out hb5 (stable_blk HYD.out))
      have HW5 := Lib.hid hw5
      clear ht hf hn hb hb5 f5 hw5
      go_upto_region 9 with fail
      rw [HW5.out]
      clear z0 x0
      -- what the sign's word comes to
      have HS5d := Lib.hid (HS5.out.no ((Fr.refl No w5).drew))
      have HNEED : Hid (∀ wi mv, St C w (fun x => Blk x y 50 (nd 4 t 0 (.slice none 0 0))) wi r1 b1 → Mt wi mv (amongW signsT) → Calls Tryz.prog 67 #[.pointer (some ⟨C.d, 0, none⟩), mv] wi (SP C w (fun x => Blk x y 50 (nd 4 t 0 (.slice none 0 0))) wi wdR (needW (amongW signsT) r1 b1))) := Lib.hid fun wi mv hs hm => need_s hs hm (inner_among _)
      have HLP : Hid (∀ wi, Pv wi → (cells7 ⟨3, 0, none⟩).run Tryz.prog wi = .ok signs7.cs wi) := Lib.hid fun wi hv => load7 wi signs7 3 fun k hk => hv.signs k hk
      have HAM : Hid (∀ wi, Calls Tryz.prog 115 #[.agg signs7.cs] wi fun e w' => (∃ mv, e = .returned mv ∧ Mt w' mv (amongW signsT)) ∧ Fr No wi w') := Lib.hid fun wi => among_any signs7 wi
      have HPL : Hid (∀ x wi, Calls Tryz.prog 114 #[.agg signs7.cs, sv x] wi fun e w' => e = .returned (.int .i64 (placeW signsT x : Nat)) ∧ Fr No wi w') := Lib.hid fun x wi => place_any signs7 x wi
      have HSZ : Hid (signs7.cs.size = 7) := Lib.hid rfl
      generalize signs7.cs = K7 at *
      cases hR : needW (amongW signsT) r1 b1 with
      | bad cc p =>
        have HV : Hid (testW r b = .bad cc p) := Lib.hid (by have q0 := E0.out; have q1 := E1.out; simp only [testW, q0, q1, hR, PR.then, Bool.false_eq_true, if_false])
        rw [hR] at HNEED
        clear hR
        refine wp_region_held_drew (S := fun w' => (cells7 ⟨3, 0, none⟩).run Tryz.prog w' = .ok K7 w') (by kernel_rfl) (HLP.out _ HS5d.out.rd.pv) (fun hHeld => ?_)
        refine wpAnyH_take (i := 0) (oi := ({ dst := some 31, op := Go.Op.move (Go.Operand.tmp 3), type := 24, pos := "grammar.go:77", after := #[], guard := none } : Go.Oper)) (v := ?_) rfl (by kernel_rfl) (by kernel_rfl) (by kernel_rfl) (fun _ _ _ h => h) (Or.inl ⟨by rfl, ?_⟩) (by assumption) ?_
        rotate_left 1
        · intro w hSw; (try dsimp only at hSw); first | (go_simp; done) | (go_simp; with_reducible rfl)
        try simp only [Act.put, List.setIfInBounds_toArray, List.set_cons_zero, List.set_cons_succ]
        refine wpAnyH_take (i := 1) (oi := ({ dst := some 32, op := Go.Op.load 138 (Go.Operand.global 3), type := 138, pos := "grammar.go:77", after := #[], guard := none } : Go.Oper)) (v := ?_) rfl (by kernel_rfl) (by kernel_rfl) (by kernel_rfl) (fun _ _ _ h => h) (Or.inl ⟨by rfl, ?_⟩) (by assumption) ?_
        rotate_left 1
        · intro w hSw; (try dsimp only at hSw); first | (go_simp; done) | (go_simp; with_reducible rfl)
        try simp only [Act.put, List.setIfInBounds_toArray, List.set_cons_zero, List.set_cons_succ]
        refine wpAnyH_take (i := 2) (oi := ({ dst := some 33, op := Go.Op.move (Go.Operand.tmp 0), type := 92, pos := "grammar.go:77", after := #[], guard := none } : Go.Oper)) (v := ?_) rfl (by kernel_rfl) (by kernel_rfl) (by kernel_rfl) (fun _ _ _ h => h) (Or.inl ⟨by rfl, ?_⟩) (by assumption) ?_
        rotate_left 1
        · intro w hSw; (try dsimp only at hSw); first | (go_simp; done) | (go_simp; with_reducible rfl)
        try simp only [Act.put, List.setIfInBounds_toArray, List.set_cons_zero, List.set_cons_succ]
        refine wpAnyH_take (i := 3) (oi := ({ dst := some 34, op := Go.Op.load 138 (Go.Operand.global 3), type := 138, pos := "grammar.go:77", after := #[], guard := none } : Go.Oper)) (v := ?_) rfl (by kernel_rfl) (by kernel_rfl) (by kernel_rfl) (fun _ _ _ h => h) (Or.inl ⟨by rfl, ?_⟩) (by assumption) ?_
        rotate_left 1
        · intro w hSw; (try dsimp only at hSw); first | (go_simp; done) | (go_simp; with_reducible rfl)
        try simp only [Act.put, List.setIfInBounds_toArray, List.set_cons_zero, List.set_cons_succ]
        refine wpAnyH_ready (rs := [4]) (by kernel_rfl) (by simp) ?_
        refine AllReadyH.cons (o := ({ dst := some 35, op := Go.Op.call { callee := Go.Callee.value (Go.Operand.func 115), args := #[Go.Operand.tmp 34], argTypes := #[138] }, type := 98, pos := "grammar.go:77", after := #[{ on := 3, ground := Go.Ground.data }], guard := none } : Go.Oper)) rfl (fun K hK => ?_) AllReadyH.nil
        go_simp
        (go_at_call 115; (with_reducible refine (HAM.out _).mono ?_); rintro e wa ⟨⟨mv2, rfl, hm⟩, fa⟩; have HSa := Lib.hid (HS5d.out.no fa); have HNN := Lib.hid (HNEED.out wa mv2 HSa.out hm); clear fa hm)
        try (go_wp2_with fail)
        refine hK.out _ _ (HLP.out _ HSa.out.rd.pv) (fun hHeld1 => ?_)
        clear hK K
        try simp only [Act.put, List.setIfInBounds_toArray, List.set_cons_zero, List.set_cons_succ]
        refine wpAnyH_ready (rs := [5]) (by kernel_rfl) (by simp) ?_
        refine AllReadyH.cons (o := ({ dst := some 36, op := Go.Op.call { callee := Go.Callee.value (Go.Operand.func 67), args := #[Go.Operand.tmp 33, Go.Operand.tmp 35], argTypes := #[92, 98] }, type := 42, pos := "grammar.go:77", after := #[{ on := 2, ground := Go.Ground.data }, { on := 4, ground := Go.Ground.data }, { on := 4, ground := Go.Ground.chain }], guard := none } : Go.Oper)) rfl (fun K hK => ?_) AllReadyH.nil
        go_simp
        (go_at_call 67; (with_reducible refine HNN.out.mono ?_); rintro e wb hp; obtain ⟨rfl, fb⟩ := hp)
        try (go_wp2_with fail)
        exact ⟨rfl, St.bad HV.out fb⟩
      | ok x r2 b2 =>
        rw [hR] at HNEED
        have E2 := Lib.hid hR
        obtain ⟨xk, xt, xp⟩ := x
        have hfd := fun w => field42 (.int .i64 (xk : Nat)) (sv xt) (.int .i64 (xp : Nat)) w
        clear hR
        refine wp_region_held_drew (S := fun w' => (cells7 ⟨3, 0, none⟩).run Tryz.prog w' = .ok K7 w') (by kernel_rfl) (HLP.out _ HS5d.out.rd.pv) (fun hHeld => ?_)
        refine wpAnyH_take (i := 0) (oi := ({ dst := some 31, op := Go.Op.move (Go.Operand.tmp 3), type := 24, pos := "grammar.go:77", after := #[], guard := none } : Go.Oper)) (v := ?_) rfl (by kernel_rfl) (by kernel_rfl) (by kernel_rfl) (fun _ _ _ h => h) (Or.inl ⟨by rfl, ?_⟩) (by assumption) ?_
        rotate_left 1
        · intro w hSw; (try dsimp only at hSw); first | (go_simp; done) | (go_simp; with_reducible rfl)
        try simp only [Act.put, List.setIfInBounds_toArray, List.set_cons_zero, List.set_cons_succ]
        refine wpAnyH_take (i := 1) (oi := ({ dst := some 32, op := Go.Op.load 138 (Go.Operand.global 3), type := 138, pos := "grammar.go:77", after := #[], guard := none } : Go.Oper)) (v := ?_) rfl (by kernel_rfl) (by kernel_rfl) (by kernel_rfl) (fun _ _ _ h => h) (Or.inl ⟨by rfl, ?_⟩) (by assumption) ?_
        rotate_left 1
        · intro w hSw; (try dsimp only at hSw); first | (go_simp; done) | (go_simp; with_reducible rfl)
        try simp only [Act.put, List.setIfInBounds_toArray, List.set_cons_zero, List.set_cons_succ]
        refine wpAnyH_take (i := 2) (oi := ({ dst := some 33, op := Go.Op.move (Go.Operand.tmp 0), type := 92, pos := "grammar.go:77", after := #[], guard := none } : Go.Oper)) (v := ?_) rfl (by kernel_rfl) (by kernel_rfl) (by kernel_rfl) (fun _ _ _ h => h) (Or.inl ⟨by rfl, ?_⟩) (by assumption) ?_
        rotate_left 1
        · intro w hSw; (try dsimp only at hSw); first | (go_simp; done) | (go_simp; with_reducible rfl)
        try simp only [Act.put, List.setIfInBounds_toArray, List.set_cons_zero, List.set_cons_succ]
        refine wpAnyH_take (i := 3) (oi := ({ dst := some 34, op := Go.Op.load 138 (Go.Operand.global 3), type := 138, pos := "grammar.go:77", after := #[], guard := none } : Go.Oper)) (v := ?_) rfl (by kernel_rfl) (by kernel_rfl) (by kernel_rfl) (fun _ _ _ h => h) (Or.inl ⟨by rfl, ?_⟩) (by assumption) ?_
        rotate_left 1
        · intro w hSw; (try dsimp only at hSw); first | (go_simp; done) | (go_simp; with_reducible rfl)
        try simp only [Act.put, List.setIfInBounds_toArray, List.set_cons_zero, List.set_cons_succ]
        refine wpAnyH_ready (rs := [4]) (by kernel_rfl) (by simp) ?_
        refine AllReadyH.cons (o := ({ dst := some 35, op := Go.Op.call { callee := Go.Callee.value (Go.Operand.func 115), args := #[Go.Operand.tmp 34], argTypes := #[138] }, type := 98, pos := "grammar.go:77", after := #[{ on := 3, ground := Go.Ground.data }], guard := none } : Go.Oper)) rfl (fun K hK => ?_) AllReadyH.nil
        go_simp
        (go_at_call 115; (with_reducible refine (HAM.out _).mono ?_); rintro e wa ⟨⟨mv2, rfl, hm⟩, fa⟩; have HSa := Lib.hid (HS5d.out.no fa); have HNN := Lib.hid (HNEED.out wa mv2 HSa.out hm); clear fa hm)
        try (go_wp2_with fail)
        refine hK.out _ _ (HLP.out _ HSa.out.rd.pv) (fun hHeld1 => ?_)
        clear hK K
        try simp only [Act.put, List.setIfInBounds_toArray, List.set_cons_zero, List.set_cons_succ]
        refine wpAnyH_ready (rs := [5]) (by kernel_rfl) (by simp) ?_
        refine AllReadyH.cons (o := ({ dst := some 36, op := Go.Op.call { callee := Go.Callee.value (Go.Operand.func 67), args := #[Go.Operand.tmp 33, Go.Operand.tmp 35], argTypes := #[92, 98] }, type := 42, pos := "grammar.go:77", after := #[{ on := 2, ground := Go.Ground.data }, { on := 4, ground := Go.Ground.data }, { on := 4, ground := Go.Ground.chain }], guard := none } : Go.Oper)) rfl (fun K hK => ?_) AllReadyH.nil
        go_simp
        (go_at_call 67; (with_reducible refine HNN.out.mono ?_); rintro e wb hp; obtain ⟨⟨v, rfl, rfl, x1, x2, x3⟩, hsb, -⟩ := hp; have HSb := Lib.hid hsb; clear hsb)
        try (go_wp2_with fail)
        refine hK.out _ _ (HLP.out _ HSb.out.rd.pv) (fun hHeld2 => ?_)
        clear hK K
        try simp only [Act.put, List.setIfInBounds_toArray, List.set_cons_zero, List.set_cons_succ]
        refine wpAnyH_take (i := 6) (oi := ({ dst := some 37, op := Go.Op.field 42 (Go.Operand.tmp 36) 1, type := 9, pos := "grammar.go:77", after := #[{ on := 5, ground := Go.Ground.data }], guard := none } : Go.Oper)) (v := ?_) rfl (by kernel_rfl) (by kernel_rfl) (by kernel_rfl) (fun _ _ _ h => h) (Or.inl ⟨by rfl, ?_⟩) (by assumption) ?_
        rotate_left 1
        · intro w hSw; (try dsimp only at hSw); first | (go_simp; done) | (go_simp; with_reducible rfl)
        try simp only [Act.put, List.setIfInBounds_toArray, List.set_cons_zero, List.set_cons_succ]
        refine wpAnyH_ready (rs := [7]) (by kernel_rfl) (by simp) ?_
        refine AllReadyH.cons (o := ({ dst := some 38, op := Go.Op.call { callee := Go.Callee.value (Go.Operand.func 114), args := #[Go.Operand.tmp 32, Go.Operand.tmp 37], argTypes := #[138, 9] }, type := 3, pos := "grammar.go:77", after := #[{ on := 1, ground := Go.Ground.data }, { on := 6, ground := Go.Ground.data }, { on := 5, ground := Go.Ground.chain }], guard := none } : Go.Oper)) rfl (fun K hK => ?_) AllReadyH.nil
        go_simp
        (go_at_call 114; (with_reducible refine (HPL.out xt _).mono ?_); rintro e wc ⟨rfl, fc⟩; have HSc := Lib.hid (HSb.out.no fc); clear fc)
        have z4 : wc.cell? ⟨y, 4, none⟩ = some (.int .i64 0) := HSc.out.j.cell 4
        have x4 := HSc.out.j.frozen 4
        obtain ⟨N, hN⟩ : ∃ N, placeW signsT xt = N := ⟨_, rfl⟩
        have HNN7 := Lib.hid hN
        rw [hN]
        obtain ⟨wd, hwd⟩ : ∃ wd, wc.setCell ⟨y, 4, none⟩ (.int .i64 (N : Nat)) = wd := ⟨_, rfl⟩
        have fd : Fr (fun k => k = y) wc wd := by rw [← hwd]; exact fr_set (Fr.refl _ wc)
        have HSd := Lib.hid (HSc.out.put (J' := fun x => Blk x y 50 (nd 4 t (N : Nat) (.slice none 0 0))) fd HWY.out HD.out HG.out (by rw [← hwd]; exact HSc.out.j.set_ 4 _) (stable_blk HYD.out))
        have HWD := Lib.hid hwd
        clear hN hwd fd
        try (go_wp2_with fail)
        refine hK.out _ _ (HLP.out _ HSc.out.rd.pv) (fun hHeld3 => ?_)
        clear hK K
        try simp only [Act.put, List.setIfInBounds_toArray, List.set_cons_zero, List.set_cons_succ]
        refine wpAnyH_take (i := 8) (oi := ({ dst := some 39, op := Go.Op.nilCheck (Go.Operand.tmp 31), type := 0, pos := "grammar.go:77", after := #[{ on := 0, ground := Go.Ground.data }, { on := 0, ground := Go.Ground.phase }, { on := 1, ground := Go.Ground.phase }, { on := 2, ground := Go.Ground.phase }, { on := 3, ground := Go.Ground.phase }, { on := 4, ground := Go.Ground.phase }, { on := 5, ground := Go.Ground.phase }, { on := 6, ground := Go.Ground.phase }, { on := 7, ground := Go.Ground.phase }], guard := none } : Go.Oper)) (v := ?_) rfl (by kernel_rfl) (by kernel_rfl) (by kernel_rfl) (fun _ _ _ h => h) (Or.inl ⟨by rfl, ?_⟩) (by assumption) ?_
        rotate_left 1
        · intro w hSw; (try dsimp only at hSw); first | (go_simp; done) | (go_simp; with_reducible rfl)
        try simp only [Act.put, List.setIfInBounds_toArray, List.set_cons_zero, List.set_cons_succ]
        refine wpAnyH_take (i := 9) (oi := ({ dst := some 40, op := Go.Op.fieldAddr 50 (Go.Operand.tmp 39) 4, type := 0, pos := "grammar.go:77", after := #[{ on := 8, ground := Go.Ground.data }, { on := 0, ground := Go.Ground.phase }, { on := 1, ground := Go.Ground.phase }, { on := 2, ground := Go.Ground.phase }, { on := 3, ground := Go.Ground.phase }, { on := 4, ground := Go.Ground.phase }, { on := 5, ground := Go.Ground.phase }, { on := 6, ground := Go.Ground.phase }, { on := 7, ground := Go.Ground.phase }], guard := none } : Go.Oper)) (v := ?_) rfl (by kernel_rfl) (by kernel_rfl) (by kernel_rfl) (fun _ _ _ h => h) (Or.inl ⟨by rfl, ?_⟩) (by assumption) ?_
        rotate_left 1
        · intro w hSw; (try dsimp only at hSw); first | (go_simp; done) | (go_simp; with_reducible rfl)
        try simp only [Act.put, List.setIfInBounds_toArray, List.set_cons_zero, List.set_cons_succ]
        refine wpAnyH_ready (rs := [10]) (by kernel_rfl) (by simp) ?_
        refine AllReadyH.cons (o := ({ dst := none, op := Go.Op.store 3 (Go.Operand.tmp 40) (Go.Operand.tmp 38), type := 0, pos := "grammar.go:77", after := #[{ on := 9, ground := Go.Ground.data }, { on := 7, ground := Go.Ground.data }, { on := 7, ground := Go.Ground.chain }, { on := 0, ground := Go.Ground.phase }, { on := 1, ground := Go.Ground.phase }, { on := 2, ground := Go.Ground.phase }, { on := 3, ground := Go.Ground.phase }, { on := 4, ground := Go.Ground.phase }, { on := 5, ground := Go.Ground.phase }, { on := 6, ground := Go.Ground.phase }, { on := 7, ground := Go.Ground.phase }], guard := none } : Go.Oper)) rfl (fun K hK => ?_) AllReadyH.nil
        go_simp
        rw [HWD.out]
        refine hK.out _ _ (HLP.out _ HSd.out.rd.pv) (fun hHeld4 => ?_)
        clear hK K
        try simp only [Act.put, List.setIfInBounds_toArray, List.set_cons_zero, List.set_cons_succ]
        refine wpAnyH_done (by kernel_rfl) ?_ _
        have CV := Lib.hid (HSd.out.call (val_any HSd.out.rd HSd.out.en) keeps_val)
        unfold rp at CV
        clear z4 x4 hfd
        go_wp2_with fail
        refine CV.out.mono ?_
        clear CV
        rintro e we hp
        cases hR : valW r2 b2 with
        | bad cc p =>
          rw [hR] at hp
          obtain ⟨rfl, f⟩ := hp
          have HF := Lib.hid f
          have HV : Hid (testW r b = .bad cc p) := Lib.hid (by have q0 := E0.out; have q1 := E1.out; have q2 := E2.out; simp only [testW, q0, q1, q2, hR, PR.then, PR.map, Bool.false_eq_true, if_false])
          clear hR f
          go_wp2_with fail
          exact ⟨rfl, St.bad HV.out HF.out⟩
        | ok vl r3 b3 =>
          rw [hR] at hp
          obtain ⟨⟨v, rfl, hv⟩, hse, fe⟩ := hp
          have HV : Hid (testW r b = .ok (.node 4 .none .none t (N : Nat) [vl]) r3 b3) := Lib.hid (by have q0 := E0.out; have q1 := E1.out; have q2 := E2.out; have q3 := HNN7.out; simp only [testW, q0, q1, q2, q3, hR, PR.then, PR.map, Bool.false_eq_true, if_false])
          obtain ⟨v1, v2, v3, rfl, hE⟩ := form_vl hv
          obtain ⟨wf, hwf⟩ : ∃ wf, we.alloc (.cells #[.bool v1, sv v2, .int .i64 v3] 47) = wf := ⟨_, rfl⟩
          have ff : Fr No we wf := by rw [← hwf]; exact (Fr.refl No we).alloc _
          have hgf : Grow w.heap.size 47 3 vlG wf (.slice (some ⟨we.heap.size, 0, none⟩) 1 1) [vl] := by
            rw [← hwf]
            exact Grow.single vlG_elem (w0 := wd) HSd.out.fr.size fe.size vl [.bool v1, sv v2, .int .i64 v3] rfl hE (by decide)
          have hsf := hse.no ff
          have z5 : wf.cell? ⟨y, 5, none⟩ = some (.slice none 0 0) := hsf.j.cell 5
          have x5 := hsf.j.frozen 5
          obtain ⟨ze, hze⟩ : ∃ ze, we.heap.size = ze := ⟨_, rfl⟩
          rw [hze] at hgf
          have hyz : y < ze := by rw [← hze]; exact hse.j.lt
          obtain ⟨wg, hwg⟩ : ∃ wg, wf.setCell ⟨y, 5, none⟩ (.slice (some ⟨ze, 0, none⟩) 1 1) = wg := ⟨_, rfl⟩
          have fg : Fr (fun k => k = y) wf wg := by rw [← hwg]; exact fr_set (Fr.refl _ wf)
          have hrow := hgf.row vlG_elem
          have hown : ∀ k, ze ≤ k → k < wf.heap.size → wg.heap[k]? = wf.heap[k]? := fun k hk hkl => fg.block k hkl (fun e => by have e : k = y := e; omega)
          have hrowg : RowE (fun k => w.heap.size ≤ k) wg 3 (vlG (fun k => w.heap.size ≤ k) wg) (.slice (some ⟨ze, 0, none⟩) 1 1) [vl] := by
            obtain ⟨A', c', e', hm1, hm2, hrest⟩ := hrow
            refine ⟨A', c', e', hm1, hm2, fun h0 => ?_⟩
            obtain ⟨g, off, e1, hg1, hgl, hcs⟩ := hrest h0
            have hgz : g = ze := by
              have h9 := e'.trans (by rw [e1])
              injection h9 with h9 _ _
              injection h9 with h9
              injection h9 with h9 _ _
              exact h9.symm
            subst hgz
            refine ⟨_, off, e1, hg1, Nat.lt_of_lt_of_le hgl fg.size, fun j hj => ?_⟩
            obtain ⟨cs, h1, h2, h3⟩ := hcs j hj
            exact ⟨cs, h1, fun i hi => by rw [cell_of_heap (hown _ (Nat.le_refl _) hgl)]; exact h2 i hi, h3⟩
          have HSg := Lib.hid (hsf.put (J' := fun x => Blk x y 50 (nd 4 t (N : Nat) (.slice (some ⟨ze, 0, none⟩) 1 1)) ∧ RowE (fun k => w.heap.size ≤ k) x 3 (vlG (fun k => w.heap.size ≤ k) x) (.slice (some ⟨ze, 0, none⟩) 1 1) [vl]) fg HWY.out HD.out HG.out ⟨by rw [← hwg]; exact hsf.j.set_ 5 _, hrowg⟩ (stable_and (stable_blk HYD.out) (stable_row vlG_elem HD.out)))
          have HWF := Lib.hid hwf
          have HWG := Lib.hid hwg
          have HZE := Lib.hid hze
          have HPN : Hid (i64 (N : Nat)) := Lib.hid (by have := HNN7.out; have h9 := idx_le xt signsT 0; unfold placeW at this; rw [this] at h9; exact i64_of N (by have : signsT.length = 7 := rfl; omega))
          clear hR hse fe hv hE hwf ff hgf hsf hyz hwg fg hrow hown hrowg hze
          have q5 : (we.alloc (.cells #[.bool v1, sv v2, .int .i64 v3] 47)).cell? ⟨y, 5, none⟩ = some (.slice none 0 0) := by rw [HWF.out]; exact z5
          have p5 : (we.alloc (.cells #[.bool v1, sv v2, .int .i64 v3] 47)).frozen? ⟨y, 5, none⟩ = false := by rw [HWF.out]; exact x5
          clear z5 x5
          go_wp2_with fail
          go_ret
          rw [HWF.out, HZE.out, HWG.out]
          exact HSg.out.ok HV.out (cd_of_blk HSg.out.j.1 HWY.out rfl rfl HSg.out.j.2 (by have := HT8.out; unfold maxLen; omega) (i64_of 4 (by decide)) HPN.out)
end Go.Proofs.YtkcnbmgaeompjaaGreatDoor
/- Reading a query: an item. -/
namespace Go.Proofs.YtkcnbmgaeompjaaGreatDoor
open Go.RowKit Go.Maps
set_option linter.unusedVariables false
attribute [local go_sem ↓] to7 to7'

theorem allW_two (a c : Tx) (r : List Wd) (b : Bool) : allW [a, c] r b = (allW [a] r b).then fun _ => allW [c] := by
  show (needW (saysW a) r b).then _ = ((needW (saysW a) r b).then fun _ => allW []).then _
  cases needW (saysW a) r b <;> rfl
theorem itemW_call {r r2 r3 : List Wd} {b b2 b3 : Bool} {x : Wd} (h1 : seesW (ofW 1) r = false) (h2 : needW (amongW callsT) r b = .ok x r2 b2) {u : Unit} (h3 : allW [[40]] r2 b2 = .ok u r3 b3) :
    itemW r b = if placeW callsT x.text = 2 then (allW [[42], [41]] r3 b3).map fun _ => ⟨2, []⟩ else (nameW r3 b3).then fun t r3 b3 => (allW [[41]] r3 b3).map fun _ => ⟨placeW callsT x.text, t⟩ := by
  simp only [itemW, h1, h2, h3, PR.then, Bool.false_eq_true, if_false]
set_option maxRecDepth 100000 in
set_option maxHeartbeats 8000000 in
theorem item_any {C : Cx} {w : World} {r : List Wd} {b : Bool} (h : Rd C w r b) (he : Ended r) : Calls Tryz.prog 60 #[rp C] w (RdP C w itR (itemW r b)) := by
  have hd := h.lt
  have hg := h.glt
  obtain ⟨y, hy⟩ : ∃ y, w.heap.size = y := ⟨_, rfl⟩
  obtain ⟨w0, hw0⟩ : ∃ w0, w.alloc (.cells #[.int .i64 0, .string ⟨#[]⟩] 45) = w0 := ⟨_, rfl⟩
  have f0 : Fr No w w0 := by rw [← hw0]; exact (Fr.refl No w).alloc _
  have hb0 : Blk w0 y 45 #[.int .i64 0, .string ⟨#[]⟩] := by rw [← hw0, ← hy]; exact Blk.new w 45 _
  have hyd : y ≠ C.d := by omega
  have HS0 := Lib.hid (((St.start h he).no f0).more hb0 (stable_blk hyd))
  have HD := Lib.hid hd
  have HG := Lib.hid hg
  have HY := Lib.hid hy
  have HW0 := Lib.hid hw0
  have HYD := Lib.hid hyd
  have HYL : Hid (w.heap.size ≤ y) := Lib.hid (by omega)
  clear h he hd hg hy hw0 f0 hb0 hyd
  unfold rp
  go_enter Tryz.func60, Tryz.ntmps60
  go_upto_region 1 with fail
  rw [HW0.out, HY.out]
  go_wp2_with fail
  refine (of_any 1 w0).mono ?_
  rintro e w1 ⟨⟨mv, rfl, hm⟩, f1⟩
  have HC := Lib.hid (sees_s (HS0.out.no f1) hm)
  unfold rp at HC
  clear hm f1
  go_wp2_with fail
  refine HC.out.mono ?_
  rintro e w2 ⟨rfl, hs, -⟩
  have HS2 := Lib.hid hs
  clear hs HC
  cases h4 : seesW (ofW 1) r with
  | true =>
    have E1 := Lib.hid h4
    have HC := Lib.hid (name_s HS2.out)
    unfold rp at HC
    clear h4
    go_wp2_with fail
    refine HC.out.mono ?_
    clear HC
    rintro e w4 hp
    cases hR : nameW r b with
    | bad c p =>
      rw [hR] at hp
      obtain ⟨rfl, f⟩ := hp
      have HF := Lib.hid f
      have HV : Hid (itemW r b = .bad c p) := Lib.hid (by have := E1.out; simp only [itemW, this, hR, if_true, PR.map, PR.then])
      clear hR f
      go_wp2_with fail
      exact ⟨rfl, St.bad HV.out HF.out⟩
    | ok t r' b' =>
      rw [hR] at hp
      obtain ⟨⟨v, rfl, rfl, ht8⟩, hs, -⟩ := hp
      have HS4 := Lib.hid hs
      have HV : Hid (itemW r b = .ok ⟨1, t⟩ r' b') := Lib.hid (by have := E1.out; simp only [itemW, this, hR, if_true, PR.map, PR.then])
      obtain ⟨-, hb⟩ := hs.j
      have z0 : w4.cell? ⟨y, 0, none⟩ = some (.int .i64 0) := hb.cell 0
      have z1 : w4.cell? ⟨y, 1, none⟩ = some (.string ⟨#[]⟩) := hb.cell 1
      have y0 := hb.frozen 0
      have y1 := hb.frozen 1
      clear hR hs hb
      go_wp2
      refine bodyPost_ret (v := .agg #[.int .i64 1, sv t]) (by simp [results, Tryz.results60, go_sem, z0, z1]) rfl ?_
      exact HS4.out.okc (fr_set (fr_set (Fr.refl _ w4))) HYL.out HD.out HG.out HV.out ⟨rfl, ht8, i64_of 1 (by decide)⟩
  | false =>
    have E1 := Lib.hid h4
    obtain ⟨w3, hw3⟩ : ∃ w3, w2.drew = w3 := ⟨_, rfl⟩
    have HS3 := Lib.hid (HS2.out.no (show Fr No w2 w3 by rw [← hw3]; exact (Fr.refl No w2).drew))
    have HW3 := Lib.hid hw3
    clear h4 hw3
    go_upto_region 3 with fail
    have HNEED : Hid (∀ J wi mv, St C w J wi r b → Mt wi mv (amongW callsT) → Calls Tryz.prog 67 #[.pointer (some ⟨C.d, 0, none⟩), mv] wi (SP C w J wi wdR (needW (amongW callsT) r b))) := Lib.hid fun J wi mv hs hm => need_s hs hm (inner_among _)
    have HLP : Hid (∀ wi, Pv wi → (cells7 ⟨0, 0, none⟩).run Tryz.prog wi = .ok calls7.cs wi) := Lib.hid fun wi hv => load7 wi calls7 0 fun k hk => hv.calls k hk
    have HAM : Hid (∀ wi, Calls Tryz.prog 115 #[.agg calls7.cs] wi fun e w' => (∃ mv, e = .returned mv ∧ Mt w' mv (amongW callsT)) ∧ Fr No wi w') := Lib.hid fun wi => among_any calls7 wi
    have HPL : Hid (∀ x wi, Calls Tryz.prog 114 #[.agg calls7.cs, sv x] wi fun e w' => e = .returned (.int .i64 (placeW callsT x : Nat)) ∧ Fr No wi w') := Lib.hid fun x wi => place_any calls7 x wi
    have HSZ : Hid (calls7.cs.size = 7) := Lib.hid rfl
    generalize calls7.cs = K7 at *
    cases hR : needW (amongW callsT) r b with
    | bad cc p =>
      have HV : Hid (itemW r b = .bad cc p) := Lib.hid (by have q1 := E1.out; simp only [itemW, q1, hR, PR.then, Bool.false_eq_true, if_false])
      rw [hR] at HNEED
      clear hR
      refine wp_region_held_drew (S := fun w' => (cells7 ⟨0, 0, none⟩).run Tryz.prog w' = .ok K7 w') (by kernel_rfl) (by rw [HW3.out]; exact HLP.out _ HS3.out.rd.pv) (fun hHeld => ?_)
      rw [HW3.out] at hHeld ⊢
      refine wpAnyH_take (i := 0) (oi := ({ dst := some 10, op := Go.Op.load 138 (Go.Operand.global 0), type := 138, pos := "grammar.go:31", after := #[], guard := none } : Go.Oper)) (v := ?_) rfl (by kernel_rfl) (by kernel_rfl) (by kernel_rfl) (fun _ _ _ h => h) (Or.inl ⟨by rfl, ?_⟩) (by assumption) ?_
      rotate_left 1
      · intro w hSw; (try dsimp only at hSw); first | (go_simp; done) | (go_simp; with_reducible rfl)
      try simp only [Act.put, List.setIfInBounds_toArray, List.set_cons_zero, List.set_cons_succ]
      refine wpAnyH_take (i := 1) (oi := ({ dst := some 11, op := Go.Op.move (Go.Operand.tmp 0), type := 92, pos := "grammar.go:31", after := #[], guard := none } : Go.Oper)) (v := ?_) rfl (by kernel_rfl) (by kernel_rfl) (by kernel_rfl) (fun _ _ _ h => h) (Or.inl ⟨by rfl, ?_⟩) (by assumption) ?_
      rotate_left 1
      · intro w hSw; (try dsimp only at hSw); first | (go_simp; done) | (go_simp; with_reducible rfl)
      try simp only [Act.put, List.setIfInBounds_toArray, List.set_cons_zero, List.set_cons_succ]
      refine wpAnyH_take (i := 2) (oi := ({ dst := some 12, op := Go.Op.load 138 (Go.Operand.global 0), type := 138, pos := "grammar.go:31", after := #[], guard := none } : Go.Oper)) (v := ?_) rfl (by kernel_rfl) (by kernel_rfl) (by kernel_rfl) (fun _ _ _ h => h) (Or.inl ⟨by rfl, ?_⟩) (by assumption) ?_
      rotate_left 1
      · intro w hSw; (try dsimp only at hSw); first | (go_simp; done) | (go_simp; with_reducible rfl)
      try simp only [Act.put, List.setIfInBounds_toArray, List.set_cons_zero, List.set_cons_succ]
      refine wpAnyH_ready (rs := [3, 8]) (by kernel_rfl) (by simp) ?_
      refine AllReadyH.cons (o := ({ dst := some 13, op := Go.Op.call { callee := Go.Callee.value (Go.Operand.func 115), args := #[Go.Operand.tmp 12], argTypes := #[138] }, type := 98, pos := "grammar.go:31", after := #[{ on := 2, ground := Go.Ground.data }], guard := none } : Go.Oper)) rfl (fun K hK => ?_) ?_
      · go_simp
        (go_at_call 115; (with_reducible refine (HAM.out _).mono ?_); rintro e wa ⟨⟨mv2, rfl, hm⟩, fa⟩; have HSa := Lib.hid (HS3.out.no fa); have HMT := Lib.hid hm; clear fa hm)
        try (go_wp2_with fail)
        refine hK.out _ _ (HLP.out _ HSa.out.rd.pv) (fun hHeld1 => ?_)
        clear hK K
        try simp only [Act.put, List.setIfInBounds_toArray, List.set_cons_zero, List.set_cons_succ]
        refine wpAnyH_ready (rs := [4, 8]) (by kernel_rfl) (by simp) ?_
        refine AllReadyH.cons (o := ({ dst := some 14, op := Go.Op.call { callee := Go.Callee.value (Go.Operand.func 67), args := #[Go.Operand.tmp 11, Go.Operand.tmp 13], argTypes := #[92, 98] }, type := 42, pos := "grammar.go:31", after := #[{ on := 1, ground := Go.Ground.data }, { on := 3, ground := Go.Ground.data }, { on := 3, ground := Go.Ground.chain }], guard := none } : Go.Oper)) rfl (fun K hK => ?_) ?_
        · go_simp
          have HNN := Lib.hid (HNEED.out _ _ _ HSa.out HMT.out)
          (go_at_call 67; (with_reducible refine HNN.out.mono ?_); rintro e wb hp; obtain ⟨rfl, fb⟩ := hp)
          try (go_wp2_with fail)
          exact ⟨rfl, St.bad HV.out fb⟩
        refine AllReadyH.cons (o := ({ dst := some 3, op := Go.Op.alloc 45, type := 0, pos := "grammar.go:31", after := #[], guard := none } : Go.Oper)) rfl (fun K hK => ?_) AllReadyH.nil
        go_simp
        obtain ⟨z, hz⟩ : ∃ z, wa.heap.size = z := ⟨_, rfl⟩
        obtain ⟨wz, hwz⟩ : ∃ wz, wa.alloc (.cells #[.int .i64 0, .string ⟨#[]⟩] 45) = wz := ⟨_, rfl⟩
        have fz : Fr No wa wz := by rw [← hwz]; exact (Fr.refl No _).alloc _
        have hbz : Blk wz z 45 #[.int .i64 0, .string ⟨#[]⟩] := by rw [← hwz, ← hz]; exact Blk.new _ 45 _
        have hzw : w.heap.size ≤ z := by rw [← hz]; exact HSa.out.fr.size
        have hyz : y ≠ z := by have := HSa.out.j.2.lt; omega
        have HSz := Lib.hid ((HSa.out.no fz).more hbz (stable_blk (by have := HD.out; omega)))
        have HFZ := Lib.hid fz
        have HZW := Lib.hid hzw
        have HYZ := Lib.hid hyz
        rw [hz, hwz]
        clear hz hwz fz hbz hzw hyz
        refine hK.out _ _ (HLP.out _ HSz.out.rd.pv) (fun hHeld2 => ?_)
        clear hK K
        try simp only [Act.put, List.setIfInBounds_toArray, List.set_cons_zero, List.set_cons_succ]
        refine wpAnyH_ready (rs := [4]) (by kernel_rfl) (by simp) ?_
        refine AllReadyH.cons (o := ({ dst := some 14, op := Go.Op.call { callee := Go.Callee.value (Go.Operand.func 67), args := #[Go.Operand.tmp 11, Go.Operand.tmp 13], argTypes := #[92, 98] }, type := 42, pos := "grammar.go:31", after := #[{ on := 1, ground := Go.Ground.data }, { on := 3, ground := Go.Ground.data }, { on := 3, ground := Go.Ground.chain }], guard := none } : Go.Oper)) rfl (fun K hK => ?_) AllReadyH.nil
        go_simp
        have HNN := Lib.hid (HNEED.out _ _ _ HSz.out (HMT.out.keep HFZ.out))
        (go_at_call 67; (with_reducible refine HNN.out.mono ?_); rintro e wb hp; obtain ⟨rfl, fb⟩ := hp)
        try (go_wp2_with fail)
        exact ⟨rfl, St.bad HV.out fb⟩
      refine AllReadyH.cons (o := ({ dst := some 3, op := Go.Op.alloc 45, type := 0, pos := "grammar.go:31", after := #[], guard := none } : Go.Oper)) rfl (fun K hK => ?_) AllReadyH.nil
      go_simp
      obtain ⟨z, hz⟩ : ∃ z, w3.heap.size = z := ⟨_, rfl⟩
      obtain ⟨wz, hwz⟩ : ∃ wz, w3.alloc (.cells #[.int .i64 0, .string ⟨#[]⟩] 45) = wz := ⟨_, rfl⟩
      have fz : Fr No w3 wz := by rw [← hwz]; exact (Fr.refl No _).alloc _
      have hbz : Blk wz z 45 #[.int .i64 0, .string ⟨#[]⟩] := by rw [← hwz, ← hz]; exact Blk.new _ 45 _
      have hzw : w.heap.size ≤ z := by rw [← hz]; exact HS3.out.fr.size
      have hyz : y ≠ z := by have := HS3.out.j.2.lt; omega
      have HSz := Lib.hid ((HS3.out.no fz).more hbz (stable_blk (by have := HD.out; omega)))
      have HFZ := Lib.hid fz
      have HZW := Lib.hid hzw
      have HYZ := Lib.hid hyz
      rw [hz, hwz]
      clear hz hwz fz hbz hzw hyz
      refine hK.out _ _ (HLP.out _ HSz.out.rd.pv) (fun hHeld3 => ?_)
      clear hK K
      try simp only [Act.put, List.setIfInBounds_toArray, List.set_cons_zero, List.set_cons_succ]
      refine wpAnyH_ready (rs := [3]) (by kernel_rfl) (by simp) ?_
      refine AllReadyH.cons (o := ({ dst := some 13, op := Go.Op.call { callee := Go.Callee.value (Go.Operand.func 115), args := #[Go.Operand.tmp 12], argTypes := #[138] }, type := 98, pos := "grammar.go:31", after := #[{ on := 2, ground := Go.Ground.data }], guard := none } : Go.Oper)) rfl (fun K hK => ?_) AllReadyH.nil
      go_simp
      (go_at_call 115; (with_reducible refine (HAM.out _).mono ?_); rintro e wa ⟨⟨mv2, rfl, hm⟩, fa⟩; have HSa := Lib.hid (HSz.out.no fa); have HMT := Lib.hid hm; clear fa hm)
      try (go_wp2_with fail)
      refine hK.out _ _ (HLP.out _ HSa.out.rd.pv) (fun hHeld4 => ?_)
      clear hK K
      try simp only [Act.put, List.setIfInBounds_toArray, List.set_cons_zero, List.set_cons_succ]
      refine wpAnyH_ready (rs := [4]) (by kernel_rfl) (by simp) ?_
      refine AllReadyH.cons (o := ({ dst := some 14, op := Go.Op.call { callee := Go.Callee.value (Go.Operand.func 67), args := #[Go.Operand.tmp 11, Go.Operand.tmp 13], argTypes := #[92, 98] }, type := 42, pos := "grammar.go:31", after := #[{ on := 1, ground := Go.Ground.data }, { on := 3, ground := Go.Ground.data }, { on := 3, ground := Go.Ground.chain }], guard := none } : Go.Oper)) rfl (fun K hK => ?_) AllReadyH.nil
      go_simp
      have HNN := Lib.hid (HNEED.out _ _ _ HSa.out HMT.out)
      (go_at_call 67; (with_reducible refine HNN.out.mono ?_); rintro e wb hp; obtain ⟨rfl, fb⟩ := hp)
      try (go_wp2_with fail)
      exact ⟨rfl, St.bad HV.out fb⟩
    | ok x r2 b2 =>
      rw [hR] at HNEED
      have E2 := Lib.hid hR
      obtain ⟨xk, xt, xp⟩ := x
      have hfd := fun w => field42 (.int .i64 (xk : Nat)) (sv xt) (.int .i64 (xp : Nat)) w
      obtain ⟨N, hN⟩ : ∃ N, placeW callsT xt = N := ⟨_, rfl⟩
      have HN := Lib.hid hN
      clear hR hN
      go_cut [3] (fun zv wx => ∃ z, zv = .pointer (some ⟨z, 0, none⟩) ∧ w.heap.size ≤ z ∧ y ≠ z ∧ St C w (fun x => (Tr x ∧ Blk x y 45 #[.int .i64 0, .string ⟨#[]⟩]) ∧ Blk x z 45 #[.int .i64 (N : Nat), .string ⟨#[]⟩]) wx r2 b2)
      case first =>
        refine wp_region_held_drew (S := fun w' => (cells7 ⟨0, 0, none⟩).run Tryz.prog w' = .ok K7 w') (by kernel_rfl) (by rw [HW3.out]; exact HLP.out _ HS3.out.rd.pv) (fun hHeld => ?_)
        rw [HW3.out] at hHeld ⊢
        refine wpAnyH_take (i := 0) (oi := ({ dst := some 10, op := Go.Op.load 138 (Go.Operand.global 0), type := 138, pos := "grammar.go:31", after := #[], guard := none } : Go.Oper)) (v := ?_) rfl (by kernel_rfl) (by kernel_rfl) (by kernel_rfl) (fun _ _ _ h => h) (Or.inl ⟨by rfl, ?_⟩) (by assumption) ?_
        rotate_left 1
        · intro w hSw; (try dsimp only at hSw); first | (go_simp; done) | (go_simp; with_reducible rfl)
        try simp only [Act.put, List.setIfInBounds_toArray, List.set_cons_zero, List.set_cons_succ]
        refine wpAnyH_take (i := 1) (oi := ({ dst := some 11, op := Go.Op.move (Go.Operand.tmp 0), type := 92, pos := "grammar.go:31", after := #[], guard := none } : Go.Oper)) (v := ?_) rfl (by kernel_rfl) (by kernel_rfl) (by kernel_rfl) (fun _ _ _ h => h) (Or.inl ⟨by rfl, ?_⟩) (by assumption) ?_
        rotate_left 1
        · intro w hSw; (try dsimp only at hSw); first | (go_simp; done) | (go_simp; with_reducible rfl)
        try simp only [Act.put, List.setIfInBounds_toArray, List.set_cons_zero, List.set_cons_succ]
        refine wpAnyH_take (i := 2) (oi := ({ dst := some 12, op := Go.Op.load 138 (Go.Operand.global 0), type := 138, pos := "grammar.go:31", after := #[], guard := none } : Go.Oper)) (v := ?_) rfl (by kernel_rfl) (by kernel_rfl) (by kernel_rfl) (fun _ _ _ h => h) (Or.inl ⟨by rfl, ?_⟩) (by assumption) ?_
        rotate_left 1
        · intro w hSw; (try dsimp only at hSw); first | (go_simp; done) | (go_simp; with_reducible rfl)
        try simp only [Act.put, List.setIfInBounds_toArray, List.set_cons_zero, List.set_cons_succ]
        refine wpAnyH_ready (rs := [3, 8]) (by kernel_rfl) (by simp) ?_
        refine AllReadyH.cons (o := ({ dst := some 13, op := Go.Op.call { callee := Go.Callee.value (Go.Operand.func 115), args := #[Go.Operand.tmp 12], argTypes := #[138] }, type := 98, pos := "grammar.go:31", after := #[{ on := 2, ground := Go.Ground.data }], guard := none } : Go.Oper)) rfl (fun K hK => ?_) ?_
        · go_simp
          (go_at_call 115; (with_reducible refine (HAM.out _).mono ?_); rintro e wa ⟨⟨mv2, rfl, hm⟩, fa⟩; have HSa := Lib.hid (HS3.out.no fa); have HMT := Lib.hid hm; clear fa hm)
          try (go_wp2_with fail)
          refine hK.out _ _ (HLP.out _ HSa.out.rd.pv) (fun hHeld1 => ?_)
          clear hK K
          try simp only [Act.put, List.setIfInBounds_toArray, List.set_cons_zero, List.set_cons_succ]
          refine wpAnyH_ready (rs := [4, 8]) (by kernel_rfl) (by simp) ?_
          refine AllReadyH.cons (o := ({ dst := some 14, op := Go.Op.call { callee := Go.Callee.value (Go.Operand.func 67), args := #[Go.Operand.tmp 11, Go.Operand.tmp 13], argTypes := #[92, 98] }, type := 42, pos := "grammar.go:31", after := #[{ on := 1, ground := Go.Ground.data }, { on := 3, ground := Go.Ground.data }, { on := 3, ground := Go.Ground.chain }], guard := none } : Go.Oper)) rfl (fun K hK => ?_) ?_
          · go_simp
            have HNN := Lib.hid (HNEED.out _ _ _ HSa.out HMT.out)
            (go_at_call 67; (with_reducible refine HNN.out.mono ?_); rintro e wb hp; obtain ⟨⟨v, rfl, rfl, x1, x2, x3⟩, hsb, -⟩ := hp; have HSb := Lib.hid hsb; clear hsb)
            try (go_wp2_with fail)
            refine hK.out _ _ (HLP.out _ HSb.out.rd.pv) (fun hHeld2 => ?_)
            clear hK K
            try simp only [Act.put, List.setIfInBounds_toArray, List.set_cons_zero, List.set_cons_succ]
            refine wpAnyH_take (i := 5) (oi := ({ dst := some 15, op := Go.Op.field 42 (Go.Operand.tmp 14) 1, type := 9, pos := "grammar.go:31", after := #[{ on := 4, ground := Go.Ground.data }], guard := none } : Go.Oper)) (v := ?_) rfl (by kernel_rfl) (by kernel_rfl) (by kernel_rfl) (fun _ _ _ h => h) (Or.inl ⟨by rfl, ?_⟩) (by assumption) ?_
            rotate_left 1
            · intro w hSw; (try dsimp only at hSw); first | (go_simp; done) | (go_simp; with_reducible rfl)
            try simp only [Act.put, List.setIfInBounds_toArray, List.set_cons_zero, List.set_cons_succ]
            refine wpAnyH_ready (rs := [6, 8]) (by kernel_rfl) (by simp) ?_
            refine AllReadyH.cons (o := ({ dst := some 16, op := Go.Op.call { callee := Go.Callee.value (Go.Operand.func 114), args := #[Go.Operand.tmp 10, Go.Operand.tmp 15], argTypes := #[138, 9] }, type := 3, pos := "grammar.go:31", after := #[{ on := 0, ground := Go.Ground.data }, { on := 5, ground := Go.Ground.data }, { on := 4, ground := Go.Ground.chain }], guard := none } : Go.Oper)) rfl (fun K hK => ?_) ?_
            · go_simp
              (go_at_call 114; (with_reducible refine (HPL.out xt _).mono ?_); rintro e wc ⟨rfl, fc⟩; have HSc := Lib.hid (HSb.out.no fc); clear fc)
              rw [HN.out]
              try (go_wp2_with fail)
              refine hK.out _ _ (HLP.out _ HSc.out.rd.pv) (fun hHeld3 => ?_)
              clear hK K
              try simp only [Act.put, List.setIfInBounds_toArray, List.set_cons_zero, List.set_cons_succ]
              refine wpAnyH_take (i := 7) (oi := ({ dst := some 17, op := Go.Op.build 45 #[(0, Go.Operand.tmp 16)], type := 45, pos := "grammar.go:31", after := #[{ on := 6, ground := Go.Ground.data }], guard := none } : Go.Oper)) (v := ?_) rfl (by kernel_rfl) (by kernel_rfl) (by kernel_rfl) (fun _ _ _ h => h) (Or.inl ⟨by rfl, ?_⟩) (by assumption) ?_
              rotate_left 1
              · intro w hSw; (try dsimp only at hSw); first | (go_simp; done) | (go_simp; with_reducible rfl)
              try simp only [Act.put, List.setIfInBounds_toArray, List.set_cons_zero, List.set_cons_succ]
              refine wpAnyH_ready (rs := [8]) (by kernel_rfl) (by simp) ?_
              refine AllReadyH.cons (o := ({ dst := some 3, op := Go.Op.alloc 45, type := 0, pos := "grammar.go:31", after := #[], guard := none } : Go.Oper)) rfl (fun K hK => ?_) AllReadyH.nil
              go_simp
              obtain ⟨z, hz⟩ : ∃ z, wc.heap.size = z := ⟨_, rfl⟩
              obtain ⟨wz, hwz⟩ : ∃ wz, wc.alloc (.cells #[.int .i64 0, .string ⟨#[]⟩] 45) = wz := ⟨_, rfl⟩
              have fz : Fr No wc wz := by rw [← hwz]; exact (Fr.refl No _).alloc _
              have hbz : Blk wz z 45 #[.int .i64 0, .string ⟨#[]⟩] := by rw [← hwz, ← hz]; exact Blk.new _ 45 _
              have hzw : w.heap.size ≤ z := by rw [← hz]; exact HSc.out.fr.size
              have hyz : y ≠ z := by have := HSc.out.j.2.lt; omega
              have HSz := Lib.hid ((HSc.out.no fz).more hbz (stable_blk (by have := HD.out; omega)))
              have HFZ := Lib.hid fz
              have HZW := Lib.hid hzw
              have HYZ := Lib.hid hyz
              rw [hz, hwz]
              clear hz hwz fz hbz hzw hyz
              refine hK.out _ _ (HLP.out _ HSz.out.rd.pv) (fun hHeld4 => ?_)
              clear hK K
              try simp only [Act.put, List.setIfInBounds_toArray, List.set_cons_zero, List.set_cons_succ]
              refine wpAnyH_ready (rs := [9]) (by kernel_rfl) (by simp) ?_
              refine AllReadyH.cons (o := ({ dst := none, op := Go.Op.store 45 (Go.Operand.tmp 3) (Go.Operand.tmp 17), type := 0, pos := "grammar.go:31", after := #[{ on := 8, ground := Go.Ground.data }, { on := 7, ground := Go.Ground.data }, { on := 6, ground := Go.Ground.chain }, { on := 0, ground := Go.Ground.phase }, { on := 1, ground := Go.Ground.phase }, { on := 2, ground := Go.Ground.phase }, { on := 3, ground := Go.Ground.phase }, { on := 4, ground := Go.Ground.phase }, { on := 5, ground := Go.Ground.phase }, { on := 6, ground := Go.Ground.phase }, { on := 7, ground := Go.Ground.phase }, { on := 8, ground := Go.Ground.phase }], guard := none } : Go.Oper)) rfl (fun K hK => ?_) AllReadyH.nil
              have z0 : wz.cell? ⟨z, 0, none⟩ = some (.int .i64 0) := HSz.out.j.2.cell 0
              have z1 : wz.cell? ⟨z, 1, none⟩ = some (.string ⟨#[]⟩) := HSz.out.j.2.cell 1
              have x0 := HSz.out.j.2.frozen 0
              have x1 := HSz.out.j.2.frozen 1
              have HSd := Lib.hid (HSz.out.put (wj := (wz.setCell ⟨z, 0, none⟩ (.int .i64 (N : Nat))).setCell ⟨z, 1, none⟩ (.string ⟨#[]⟩)) (J' := fun x => (Tr x ∧ Blk x y 45 #[.int .i64 0, .string ⟨#[]⟩]) ∧ Blk x z 45 #[.int .i64 (N : Nat), .string ⟨#[]⟩]) (fr_set (fr_set (Fr.refl _ _))) HZW.out HD.out HG.out ⟨⟨trivial, HSz.out.j.1.2.of ((fr_set (fr_set (Fr.refl (fun k => k = z) _))).block _ HSz.out.j.1.2.lt HYZ.out)⟩, (HSz.out.j.2.set_ 0 _).set_ 1 _⟩ (stable_and (stable_and (stable_tr C) (stable_blk HYD.out)) (stable_blk (by have h1 := HD.out; have h2 := HZW.out; omega))))
              go_simp
              refine hK.out _ _ (HLP.out _ HSd.out.rd.pv) (fun hHeld5 => ?_)
              clear hK K
              try simp only [Act.put, List.setIfInBounds_toArray, List.set_cons_zero, List.set_cons_succ]
              refine wpAnyH_done (by kernel_rfl) ?_ _
              go_wp2_with fail
              go_meet
              exact ⟨z, rfl, HZW.out, HYZ.out, HSd.out⟩
            refine AllReadyH.cons (o := ({ dst := some 3, op := Go.Op.alloc 45, type := 0, pos := "grammar.go:31", after := #[], guard := none } : Go.Oper)) rfl (fun K hK => ?_) AllReadyH.nil
            go_simp
            obtain ⟨z, hz⟩ : ∃ z, wb.heap.size = z := ⟨_, rfl⟩
            obtain ⟨wz, hwz⟩ : ∃ wz, wb.alloc (.cells #[.int .i64 0, .string ⟨#[]⟩] 45) = wz := ⟨_, rfl⟩
            have fz : Fr No wb wz := by rw [← hwz]; exact (Fr.refl No _).alloc _
            have hbz : Blk wz z 45 #[.int .i64 0, .string ⟨#[]⟩] := by rw [← hwz, ← hz]; exact Blk.new _ 45 _
            have hzw : w.heap.size ≤ z := by rw [← hz]; exact HSb.out.fr.size
            have hyz : y ≠ z := by have := HSb.out.j.2.lt; omega
            have HSz := Lib.hid ((HSb.out.no fz).more hbz (stable_blk (by have := HD.out; omega)))
            have HFZ := Lib.hid fz
            have HZW := Lib.hid hzw
            have HYZ := Lib.hid hyz
            rw [hz, hwz]
            clear hz hwz fz hbz hzw hyz
            refine hK.out _ _ (HLP.out _ HSz.out.rd.pv) (fun hHeld6 => ?_)
            clear hK K
            try simp only [Act.put, List.setIfInBounds_toArray, List.set_cons_zero, List.set_cons_succ]
            refine wpAnyH_ready (rs := [6]) (by kernel_rfl) (by simp) ?_
            refine AllReadyH.cons (o := ({ dst := some 16, op := Go.Op.call { callee := Go.Callee.value (Go.Operand.func 114), args := #[Go.Operand.tmp 10, Go.Operand.tmp 15], argTypes := #[138, 9] }, type := 3, pos := "grammar.go:31", after := #[{ on := 0, ground := Go.Ground.data }, { on := 5, ground := Go.Ground.data }, { on := 4, ground := Go.Ground.chain }], guard := none } : Go.Oper)) rfl (fun K hK => ?_) AllReadyH.nil
            go_simp
            (go_at_call 114; (with_reducible refine (HPL.out xt _).mono ?_); rintro e wc ⟨rfl, fc⟩; have HSc := Lib.hid (HSz.out.no fc); clear fc)
            rw [HN.out]
            try (go_wp2_with fail)
            refine hK.out _ _ (HLP.out _ HSc.out.rd.pv) (fun hHeld7 => ?_)
            clear hK K
            try simp only [Act.put, List.setIfInBounds_toArray, List.set_cons_zero, List.set_cons_succ]
            refine wpAnyH_take (i := 7) (oi := ({ dst := some 17, op := Go.Op.build 45 #[(0, Go.Operand.tmp 16)], type := 45, pos := "grammar.go:31", after := #[{ on := 6, ground := Go.Ground.data }], guard := none } : Go.Oper)) (v := ?_) rfl (by kernel_rfl) (by kernel_rfl) (by kernel_rfl) (fun _ _ _ h => h) (Or.inl ⟨by rfl, ?_⟩) (by assumption) ?_
            rotate_left 1
            · intro w hSw; (try dsimp only at hSw); first | (go_simp; done) | (go_simp; with_reducible rfl)
            try simp only [Act.put, List.setIfInBounds_toArray, List.set_cons_zero, List.set_cons_succ]
            refine wpAnyH_ready (rs := [9]) (by kernel_rfl) (by simp) ?_
            refine AllReadyH.cons (o := ({ dst := none, op := Go.Op.store 45 (Go.Operand.tmp 3) (Go.Operand.tmp 17), type := 0, pos := "grammar.go:31", after := #[{ on := 8, ground := Go.Ground.data }, { on := 7, ground := Go.Ground.data }, { on := 6, ground := Go.Ground.chain }, { on := 0, ground := Go.Ground.phase }, { on := 1, ground := Go.Ground.phase }, { on := 2, ground := Go.Ground.phase }, { on := 3, ground := Go.Ground.phase }, { on := 4, ground := Go.Ground.phase }, { on := 5, ground := Go.Ground.phase }, { on := 6, ground := Go.Ground.phase }, { on := 7, ground := Go.Ground.phase }, { on := 8, ground := Go.Ground.phase }], guard := none } : Go.Oper)) rfl (fun K hK => ?_) AllReadyH.nil
            have z0 : wc.cell? ⟨z, 0, none⟩ = some (.int .i64 0) := HSc.out.j.2.cell 0
            have z1 : wc.cell? ⟨z, 1, none⟩ = some (.string ⟨#[]⟩) := HSc.out.j.2.cell 1
            have x0 := HSc.out.j.2.frozen 0
            have x1 := HSc.out.j.2.frozen 1
            have HSd := Lib.hid (HSc.out.put (wj := (wc.setCell ⟨z, 0, none⟩ (.int .i64 (N : Nat))).setCell ⟨z, 1, none⟩ (.string ⟨#[]⟩)) (J' := fun x => (Tr x ∧ Blk x y 45 #[.int .i64 0, .string ⟨#[]⟩]) ∧ Blk x z 45 #[.int .i64 (N : Nat), .string ⟨#[]⟩]) (fr_set (fr_set (Fr.refl _ _))) HZW.out HD.out HG.out ⟨⟨trivial, HSc.out.j.1.2.of ((fr_set (fr_set (Fr.refl (fun k => k = z) _))).block _ HSc.out.j.1.2.lt HYZ.out)⟩, (HSc.out.j.2.set_ 0 _).set_ 1 _⟩ (stable_and (stable_and (stable_tr C) (stable_blk HYD.out)) (stable_blk (by have h1 := HD.out; have h2 := HZW.out; omega))))
            go_simp
            refine hK.out _ _ (HLP.out _ HSd.out.rd.pv) (fun hHeld8 => ?_)
            clear hK K
            try simp only [Act.put, List.setIfInBounds_toArray, List.set_cons_zero, List.set_cons_succ]
            refine wpAnyH_done (by kernel_rfl) ?_ _
            go_wp2_with fail
            go_meet
            exact ⟨z, rfl, HZW.out, HYZ.out, HSd.out⟩
          refine AllReadyH.cons (o := ({ dst := some 3, op := Go.Op.alloc 45, type := 0, pos := "grammar.go:31", after := #[], guard := none } : Go.Oper)) rfl (fun K hK => ?_) AllReadyH.nil
          go_simp
          obtain ⟨z, hz⟩ : ∃ z, wa.heap.size = z := ⟨_, rfl⟩
          obtain ⟨wz, hwz⟩ : ∃ wz, wa.alloc (.cells #[.int .i64 0, .string ⟨#[]⟩] 45) = wz := ⟨_, rfl⟩
          have fz : Fr No wa wz := by rw [← hwz]; exact (Fr.refl No _).alloc _
          have hbz : Blk wz z 45 #[.int .i64 0, .string ⟨#[]⟩] := by rw [← hwz, ← hz]; exact Blk.new _ 45 _
          have hzw : w.heap.size ≤ z := by rw [← hz]; exact HSa.out.fr.size
          have hyz : y ≠ z := by have := HSa.out.j.2.lt; omega
          have HSz := Lib.hid ((HSa.out.no fz).more hbz (stable_blk (by have := HD.out; omega)))
          have HFZ := Lib.hid fz
          have HZW := Lib.hid hzw
          have HYZ := Lib.hid hyz
          rw [hz, hwz]
          clear hz hwz fz hbz hzw hyz
          refine hK.out _ _ (HLP.out _ HSz.out.rd.pv) (fun hHeld9 => ?_)
          clear hK K
          try simp only [Act.put, List.setIfInBounds_toArray, List.set_cons_zero, List.set_cons_succ]
          refine wpAnyH_ready (rs := [4]) (by kernel_rfl) (by simp) ?_
          refine AllReadyH.cons (o := ({ dst := some 14, op := Go.Op.call { callee := Go.Callee.value (Go.Operand.func 67), args := #[Go.Operand.tmp 11, Go.Operand.tmp 13], argTypes := #[92, 98] }, type := 42, pos := "grammar.go:31", after := #[{ on := 1, ground := Go.Ground.data }, { on := 3, ground := Go.Ground.data }, { on := 3, ground := Go.Ground.chain }], guard := none } : Go.Oper)) rfl (fun K hK => ?_) AllReadyH.nil
          go_simp
          have HNN := Lib.hid (HNEED.out _ _ _ HSz.out (HMT.out.keep HFZ.out))
          (go_at_call 67; (with_reducible refine HNN.out.mono ?_); rintro e wb hp; obtain ⟨⟨v, rfl, rfl, x1, x2, x3⟩, hsb, -⟩ := hp; have HSb := Lib.hid hsb; clear hsb)
          try (go_wp2_with fail)
          refine hK.out _ _ (HLP.out _ HSb.out.rd.pv) (fun hHeld10 => ?_)
          clear hK K
          try simp only [Act.put, List.setIfInBounds_toArray, List.set_cons_zero, List.set_cons_succ]
          refine wpAnyH_take (i := 5) (oi := ({ dst := some 15, op := Go.Op.field 42 (Go.Operand.tmp 14) 1, type := 9, pos := "grammar.go:31", after := #[{ on := 4, ground := Go.Ground.data }], guard := none } : Go.Oper)) (v := ?_) rfl (by kernel_rfl) (by kernel_rfl) (by kernel_rfl) (fun _ _ _ h => h) (Or.inl ⟨by rfl, ?_⟩) (by assumption) ?_
          rotate_left 1
          · intro w hSw; (try dsimp only at hSw); first | (go_simp; done) | (go_simp; with_reducible rfl)
          try simp only [Act.put, List.setIfInBounds_toArray, List.set_cons_zero, List.set_cons_succ]
          refine wpAnyH_ready (rs := [6]) (by kernel_rfl) (by simp) ?_
          refine AllReadyH.cons (o := ({ dst := some 16, op := Go.Op.call { callee := Go.Callee.value (Go.Operand.func 114), args := #[Go.Operand.tmp 10, Go.Operand.tmp 15], argTypes := #[138, 9] }, type := 3, pos := "grammar.go:31", after := #[{ on := 0, ground := Go.Ground.data }, { on := 5, ground := Go.Ground.data }, { on := 4, ground := Go.Ground.chain }], guard := none } : Go.Oper)) rfl (fun K hK => ?_) AllReadyH.nil
          go_simp
          (go_at_call 114; (with_reducible refine (HPL.out xt _).mono ?_); rintro e wc ⟨rfl, fc⟩; have HSc := Lib.hid (HSb.out.no fc); clear fc)
          rw [HN.out]
          try (go_wp2_with fail)
          refine hK.out _ _ (HLP.out _ HSc.out.rd.pv) (fun hHeld11 => ?_)
          clear hK K
          try simp only [Act.put, List.setIfInBounds_toArray, List.set_cons_zero, List.set_cons_succ]
          refine wpAnyH_take (i := 7) (oi := ({ dst := some 17, op := Go.Op.build 45 #[(0, Go.Operand.tmp 16)], type := 45, pos := "grammar.go:31", after := #[{ on := 6, ground := Go.Ground.data }], guard := none } : Go.Oper)) (v := ?_) rfl (by kernel_rfl) (by kernel_rfl) (by kernel_rfl) (fun _ _ _ h => h) (Or.inl ⟨by rfl, ?_⟩) (by assumption) ?_
          rotate_left 1
          · intro w hSw; (try dsimp only at hSw); first | (go_simp; done) | (go_simp; with_reducible rfl)
          try simp only [Act.put, List.setIfInBounds_toArray, List.set_cons_zero, List.set_cons_succ]
          refine wpAnyH_ready (rs := [9]) (by kernel_rfl) (by simp) ?_
          refine AllReadyH.cons (o := ({ dst := none, op := Go.Op.store 45 (Go.Operand.tmp 3) (Go.Operand.tmp 17), type := 0, pos := "grammar.go:31", after := #[{ on := 8, ground := Go.Ground.data }, { on := 7, ground := Go.Ground.data }, { on := 6, ground := Go.Ground.chain }, { on := 0, ground := Go.Ground.phase }, { on := 1, ground := Go.Ground.phase }, { on := 2, ground := Go.Ground.phase }, { on := 3, ground := Go.Ground.phase }, { on := 4, ground := Go.Ground.phase }, { on := 5, ground := Go.Ground.phase }, { on := 6, ground := Go.Ground.phase }, { on := 7, ground := Go.Ground.phase }, { on := 8, ground := Go.Ground.phase }], guard := none } : Go.Oper)) rfl (fun K hK => ?_) AllReadyH.nil
          have z0 : wc.cell? ⟨z, 0, none⟩ = some (.int .i64 0) := HSc.out.j.2.cell 0
          have z1 : wc.cell? ⟨z, 1, none⟩ = some (.string ⟨#[]⟩) := HSc.out.j.2.cell 1
          have x0 := HSc.out.j.2.frozen 0
          have x1 := HSc.out.j.2.frozen 1
          have HSd := Lib.hid (HSc.out.put (wj := (wc.setCell ⟨z, 0, none⟩ (.int .i64 (N : Nat))).setCell ⟨z, 1, none⟩ (.string ⟨#[]⟩)) (J' := fun x => (Tr x ∧ Blk x y 45 #[.int .i64 0, .string ⟨#[]⟩]) ∧ Blk x z 45 #[.int .i64 (N : Nat), .string ⟨#[]⟩]) (fr_set (fr_set (Fr.refl _ _))) HZW.out HD.out HG.out ⟨⟨trivial, HSc.out.j.1.2.of ((fr_set (fr_set (Fr.refl (fun k => k = z) _))).block _ HSc.out.j.1.2.lt HYZ.out)⟩, (HSc.out.j.2.set_ 0 _).set_ 1 _⟩ (stable_and (stable_and (stable_tr C) (stable_blk HYD.out)) (stable_blk (by have h1 := HD.out; have h2 := HZW.out; omega))))
          go_simp
          refine hK.out _ _ (HLP.out _ HSd.out.rd.pv) (fun hHeld12 => ?_)
          clear hK K
          try simp only [Act.put, List.setIfInBounds_toArray, List.set_cons_zero, List.set_cons_succ]
          refine wpAnyH_done (by kernel_rfl) ?_ _
          go_wp2_with fail
          go_meet
          exact ⟨z, rfl, HZW.out, HYZ.out, HSd.out⟩
        refine AllReadyH.cons (o := ({ dst := some 3, op := Go.Op.alloc 45, type := 0, pos := "grammar.go:31", after := #[], guard := none } : Go.Oper)) rfl (fun K hK => ?_) AllReadyH.nil
        go_simp
        obtain ⟨z, hz⟩ : ∃ z, w3.heap.size = z := ⟨_, rfl⟩
        obtain ⟨wz, hwz⟩ : ∃ wz, w3.alloc (.cells #[.int .i64 0, .string ⟨#[]⟩] 45) = wz := ⟨_, rfl⟩
        have fz : Fr No w3 wz := by rw [← hwz]; exact (Fr.refl No _).alloc _
        have hbz : Blk wz z 45 #[.int .i64 0, .string ⟨#[]⟩] := by rw [← hwz, ← hz]; exact Blk.new _ 45 _
        have hzw : w.heap.size ≤ z := by rw [← hz]; exact HS3.out.fr.size
        have hyz : y ≠ z := by have := HS3.out.j.2.lt; omega
        have HSz := Lib.hid ((HS3.out.no fz).more hbz (stable_blk (by have := HD.out; omega)))
        have HFZ := Lib.hid fz
        have HZW := Lib.hid hzw
        have HYZ := Lib.hid hyz
        rw [hz, hwz]
        clear hz hwz fz hbz hzw hyz
        refine hK.out _ _ (HLP.out _ HSz.out.rd.pv) (fun hHeld13 => ?_)
        clear hK K
        try simp only [Act.put, List.setIfInBounds_toArray, List.set_cons_zero, List.set_cons_succ]
        refine wpAnyH_ready (rs := [3]) (by kernel_rfl) (by simp) ?_
        refine AllReadyH.cons (o := ({ dst := some 13, op := Go.Op.call { callee := Go.Callee.value (Go.Operand.func 115), args := #[Go.Operand.tmp 12], argTypes := #[138] }, type := 98, pos := "grammar.go:31", after := #[{ on := 2, ground := Go.Ground.data }], guard := none } : Go.Oper)) rfl (fun K hK => ?_) AllReadyH.nil
        go_simp
        (go_at_call 115; (with_reducible refine (HAM.out _).mono ?_); rintro e wa ⟨⟨mv2, rfl, hm⟩, fa⟩; have HSa := Lib.hid (HSz.out.no fa); have HMT := Lib.hid hm; clear fa hm)
        try (go_wp2_with fail)
        refine hK.out _ _ (HLP.out _ HSa.out.rd.pv) (fun hHeld14 => ?_)
        clear hK K
        try simp only [Act.put, List.setIfInBounds_toArray, List.set_cons_zero, List.set_cons_succ]
        refine wpAnyH_ready (rs := [4]) (by kernel_rfl) (by simp) ?_
        refine AllReadyH.cons (o := ({ dst := some 14, op := Go.Op.call { callee := Go.Callee.value (Go.Operand.func 67), args := #[Go.Operand.tmp 11, Go.Operand.tmp 13], argTypes := #[92, 98] }, type := 42, pos := "grammar.go:31", after := #[{ on := 1, ground := Go.Ground.data }, { on := 3, ground := Go.Ground.data }, { on := 3, ground := Go.Ground.chain }], guard := none } : Go.Oper)) rfl (fun K hK => ?_) AllReadyH.nil
        go_simp
        have HNN := Lib.hid (HNEED.out _ _ _ HSa.out HMT.out)
        (go_at_call 67; (with_reducible refine HNN.out.mono ?_); rintro e wb hp; obtain ⟨⟨v, rfl, rfl, x1, x2, x3⟩, hsb, -⟩ := hp; have HSb := Lib.hid hsb; clear hsb)
        try (go_wp2_with fail)
        refine hK.out _ _ (HLP.out _ HSb.out.rd.pv) (fun hHeld15 => ?_)
        clear hK K
        try simp only [Act.put, List.setIfInBounds_toArray, List.set_cons_zero, List.set_cons_succ]
        refine wpAnyH_take (i := 5) (oi := ({ dst := some 15, op := Go.Op.field 42 (Go.Operand.tmp 14) 1, type := 9, pos := "grammar.go:31", after := #[{ on := 4, ground := Go.Ground.data }], guard := none } : Go.Oper)) (v := ?_) rfl (by kernel_rfl) (by kernel_rfl) (by kernel_rfl) (fun _ _ _ h => h) (Or.inl ⟨by rfl, ?_⟩) (by assumption) ?_
        rotate_left 1
        · intro w hSw; (try dsimp only at hSw); first | (go_simp; done) | (go_simp; with_reducible rfl)
        try simp only [Act.put, List.setIfInBounds_toArray, List.set_cons_zero, List.set_cons_succ]
        refine wpAnyH_ready (rs := [6]) (by kernel_rfl) (by simp) ?_
        refine AllReadyH.cons (o := ({ dst := some 16, op := Go.Op.call { callee := Go.Callee.value (Go.Operand.func 114), args := #[Go.Operand.tmp 10, Go.Operand.tmp 15], argTypes := #[138, 9] }, type := 3, pos := "grammar.go:31", after := #[{ on := 0, ground := Go.Ground.data }, { on := 5, ground := Go.Ground.data }, { on := 4, ground := Go.Ground.chain }], guard := none } : Go.Oper)) rfl (fun K hK => ?_) AllReadyH.nil
        go_simp
        (go_at_call 114; (with_reducible refine (HPL.out xt _).mono ?_); rintro e wc ⟨rfl, fc⟩; have HSc := Lib.hid (HSb.out.no fc); clear fc)
        rw [HN.out]
        try (go_wp2_with fail)
        refine hK.out _ _ (HLP.out _ HSc.out.rd.pv) (fun hHeld16 => ?_)
        clear hK K
        try simp only [Act.put, List.setIfInBounds_toArray, List.set_cons_zero, List.set_cons_succ]
        refine wpAnyH_take (i := 7) (oi := ({ dst := some 17, op := Go.Op.build 45 #[(0, Go.Operand.tmp 16)], type := 45, pos := "grammar.go:31", after := #[{ on := 6, ground := Go.Ground.data }], guard := none } : Go.Oper)) (v := ?_) rfl (by kernel_rfl) (by kernel_rfl) (by kernel_rfl) (fun _ _ _ h => h) (Or.inl ⟨by rfl, ?_⟩) (by assumption) ?_
        rotate_left 1
        · intro w hSw; (try dsimp only at hSw); first | (go_simp; done) | (go_simp; with_reducible rfl)
        try simp only [Act.put, List.setIfInBounds_toArray, List.set_cons_zero, List.set_cons_succ]
        refine wpAnyH_ready (rs := [9]) (by kernel_rfl) (by simp) ?_
        refine AllReadyH.cons (o := ({ dst := none, op := Go.Op.store 45 (Go.Operand.tmp 3) (Go.Operand.tmp 17), type := 0, pos := "grammar.go:31", after := #[{ on := 8, ground := Go.Ground.data }, { on := 7, ground := Go.Ground.data }, { on := 6, ground := Go.Ground.chain }, { on := 0, ground := Go.Ground.phase }, { on := 1, ground := Go.Ground.phase }, { on := 2, ground := Go.Ground.phase }, { on := 3, ground := Go.Ground.phase }, { on := 4, ground := Go.Ground.phase }, { on := 5, ground := Go.Ground.phase }, { on := 6, ground := Go.Ground.phase }, { on := 7, ground := Go.Ground.phase }, { on := 8, ground := Go.Ground.phase }], guard := none } : Go.Oper)) rfl (fun K hK => ?_) AllReadyH.nil
        have z0 : wc.cell? ⟨z, 0, none⟩ = some (.int .i64 0) := HSc.out.j.2.cell 0
        have z1 : wc.cell? ⟨z, 1, none⟩ = some (.string ⟨#[]⟩) := HSc.out.j.2.cell 1
        have x0 := HSc.out.j.2.frozen 0
        have x1 := HSc.out.j.2.frozen 1
        have HSd := Lib.hid (HSc.out.put (wj := (wc.setCell ⟨z, 0, none⟩ (.int .i64 (N : Nat))).setCell ⟨z, 1, none⟩ (.string ⟨#[]⟩)) (J' := fun x => (Tr x ∧ Blk x y 45 #[.int .i64 0, .string ⟨#[]⟩]) ∧ Blk x z 45 #[.int .i64 (N : Nat), .string ⟨#[]⟩]) (fr_set (fr_set (Fr.refl _ _))) HZW.out HD.out HG.out ⟨⟨trivial, HSc.out.j.1.2.of ((fr_set (fr_set (Fr.refl (fun k => k = z) _))).block _ HSc.out.j.1.2.lt HYZ.out)⟩, (HSc.out.j.2.set_ 0 _).set_ 1 _⟩ (stable_and (stable_and (stable_tr C) (stable_blk HYD.out)) (stable_blk (by have h1 := HD.out; have h2 := HZW.out; omega))))
        go_simp
        refine hK.out _ _ (HLP.out _ HSd.out.rd.pv) (fun hHeld17 => ?_)
        clear hK K
        try simp only [Act.put, List.setIfInBounds_toArray, List.set_cons_zero, List.set_cons_succ]
        refine wpAnyH_done (by kernel_rfl) ?_ _
        go_wp2_with fail
        go_meet
        exact ⟨z, rfl, HZW.out, HYZ.out, HSd.out⟩
      case rest =>
        obtain ⟨z, rfl, hzw, hyz, hst⟩ := hcut
        have HZW := Lib.hid hzw
        have HYZ := Lib.hid hyz
        have HS5 := Lib.hid hst
        have HN9 : Hid (N ≤ 7) := Lib.hid (by have := HN.out; have h9 := idx_le xt callsT 0; unfold placeW at this; rw [this] at h9; have : callsT.length = 7 := rfl; omega)
        clear hzw hyz hst hfd HNEED HLP HAM HPL
        have CA := Lib.hid (all_s HS5.out [[40]] 1 rfl (by decide) #[sv [40]] rfl)
        unfold rp at CA
        go_wp2_with fail
        refine CA.out.mono ?_
        clear CA
        rintro e wf hp
        cases hR : allW [[40]] r2 b2 with
        | bad cc p =>
          rw [hR] at hp
          obtain ⟨rfl, f⟩ := hp
          have HF := Lib.hid f
          have HV : Hid (itemW r b = .bad cc p) := Lib.hid (by have q0 := E1.out; have q1 := E2.out; simp only [itemW, q0, q1, hR, PR.then, Bool.false_eq_true, if_false])
          clear hR f
          go_wp2_with fail
          exact ⟨rfl, St.bad HV.out HF.out⟩
        | ok u r3 b3 =>
          rw [hR] at hp
          obtain ⟨⟨v, rfl, rfl⟩, hs9, -⟩ := hp
          have HS6 := Lib.hid hs9
          have E3 := Lib.hid hR
          clear hR hs9
          have z0 : wf.cell? ⟨z, 0, none⟩ = some (.int .i64 (N : Nat)) := HS6.out.j.2.cell 0
          by_cases h2 : N = 2
          · have e2 : ((N : Int) == 2) = true := by rw [h2]; rfl
            have HN2 := Lib.hid h2
            clear h2
            have CA := Lib.hid (all_s HS6.out [[42]] 1 rfl (by decide) #[sv [42]] rfl)
            unfold rp at CA
            go_wp2_with fail
            refine CA.out.mono ?_
            clear CA
            rintro e wg hp
            cases hR : allW [[42]] r3 b3 with
            | bad cc p =>
              rw [hR] at hp
              obtain ⟨rfl, f⟩ := hp
              have HF := Lib.hid f
              have HV : Hid (itemW r b = .bad cc p) := Lib.hid (by have q0 := E1.out; have q1 := E2.out; have q2 := E3.out; have q3 := HN.out; have q4 := HN2.out; rw [itemW_call q0 q1 q2, q3, if_pos q4, allW_two, hR]; rfl)
              clear hR f
              go_wp2_with fail
              exact ⟨rfl, St.bad HV.out HF.out⟩
            | ok u r4 b4 =>
              rw [hR] at hp
              obtain ⟨⟨v, rfl, rfl⟩, hs9, -⟩ := hp
              have HS7 := Lib.hid hs9
              have E4 := Lib.hid hR
              clear hR hs9
              have CA := Lib.hid (all_s HS7.out [[41]] 1 rfl (by decide) #[sv [41]] rfl)
              unfold rp at CA
              go_wp2_with fail
              refine CA.out.mono ?_
              clear CA
              rintro e wh hp
              cases hR : allW [[41]] r4 b4 with
              | bad cc p =>
                rw [hR] at hp
                obtain ⟨rfl, f⟩ := hp
                have HF := Lib.hid f
                have HV : Hid (itemW r b = .bad cc p) := Lib.hid (by have q0 := E1.out; have q1 := E2.out; have q2 := E3.out; have q3 := HN.out; have q4 := HN2.out; have q5 := E4.out; rw [itemW_call q0 q1 q2, q3, if_pos q4, allW_two, q5]; simp only [PR.then, PR.map, hR])
                clear hR f
                go_wp2_with fail
                exact ⟨rfl, St.bad HV.out HF.out⟩
              | ok u r5 b5 =>
                rw [hR] at hp
                obtain ⟨⟨v, rfl, rfl⟩, hs9, -⟩ := hp
                have HS8 := Lib.hid hs9
                have E5 := Lib.hid hR
                clear hR hs9
                have HV : Hid (itemW r b = .ok ⟨2, []⟩ r5 b5) := Lib.hid (by have q0 := E1.out; have q1 := E2.out; have q2 := E3.out; have q3 := HN.out; have q4 := HN2.out; have q5 := E4.out; have q6 := E5.out; rw [itemW_call q0 q1 q2, q3, if_pos q4, allW_two, q5]; simp only [PR.then, PR.map, q6])
                clear z0 e2
                have c0 : wh.cell? ⟨z, 0, none⟩ = some (.int .i64 (N : Nat)) := HS8.out.j.2.cell 0
                have c1 : wh.cell? ⟨z, 1, none⟩ = some (.string ⟨#[]⟩) := HS8.out.j.2.cell 1
                have d0 : wh.cell? ⟨y, 0, none⟩ = some (.int .i64 0) := HS8.out.j.1.2.cell 0
                have d1 : wh.cell? ⟨y, 1, none⟩ = some (.string ⟨#[]⟩) := HS8.out.j.1.2.cell 1
                have x0 := HS8.out.j.1.2.frozen 0
                have x1 := HS8.out.j.1.2.frozen 1
                go_wp2
                refine bodyPost_ret (v := .agg #[.int .i64 (N : Nat), .string ⟨#[]⟩]) (by simp [results, Tryz.results60, go_sem, d0, d1]) rfl ?_
                exact HS8.out.okc (fr_set (fr_set (Fr.refl _ wh))) HYL.out HD.out HG.out HV.out ⟨by rw [HN2.out]; rfl, by decide, i64_of 2 (by decide)⟩
          · have e2 : ((N : Int) == 2) = false := by simp; omega
            have HN2 := Lib.hid h2
            clear h2
            have CA := Lib.hid (name_s HS6.out)
            unfold rp at CA
            go_wp2_with fail
            refine CA.out.mono ?_
            clear CA
            rintro e wg hp
            cases hR : nameW r3 b3 with
            | bad cc p =>
              rw [hR] at hp
              obtain ⟨rfl, f⟩ := hp
              have HF := Lib.hid f
              have HV : Hid (itemW r b = .bad cc p) := Lib.hid (by have q0 := E1.out; have q1 := E2.out; have q2 := E3.out; have q3 := HN.out; have q4 := HN2.out; rw [itemW_call q0 q1 q2, q3, if_neg q4]; simp only [PR.then, hR])
              clear hR f
              go_wp2_with fail
              exact ⟨rfl, St.bad HV.out HF.out⟩
            | ok t r4 b4 =>
              rw [hR] at hp
              obtain ⟨⟨v, rfl, rfl, ht8⟩, hs9, f9⟩ := hp
              have HS7 := Lib.hid hs9
              have E4 := Lib.hid hR
              have HT8 := Lib.hid ht8
              clear hR hs9 f9 ht8
              have c1 : wg.cell? ⟨z, 1, none⟩ = some (.string ⟨#[]⟩) := HS7.out.j.2.cell 1
              have x1 := HS7.out.j.2.frozen 1
              obtain ⟨wi, hwi⟩ : ∃ wi, wg.setCell ⟨z, 1, none⟩ (sv t) = wi := ⟨_, rfl⟩
              have fi : Fr (fun k => k = z) wg wi := by rw [← hwi]; exact fr_set (Fr.refl _ wg)
              have HSi := Lib.hid (HS7.out.put (J' := fun x => (Tr x ∧ Blk x y 45 #[.int .i64 0, .string ⟨#[]⟩]) ∧ Blk x z 45 #[.int .i64 (N : Nat), sv t]) fi HZW.out HD.out HG.out ⟨⟨trivial, HS7.out.j.1.2.of (fi.block _ HS7.out.j.1.2.lt HYZ.out)⟩, by rw [← hwi]; exact HS7.out.j.2.set_ 1 _⟩ (stable_and (stable_and (stable_tr C) (stable_blk HYD.out)) (stable_blk (by have h1 := HD.out; have h2 := HZW.out; omega))))
              have HWI := Lib.hid hwi
              clear hwi fi z0 e2
              go_upto_region 8 with fail
              rw [HWI.out]
              clear c1 x1
              have CA := Lib.hid (all_s HSi.out [[41]] 1 rfl (by decide) #[sv [41]] rfl)
              unfold rp at CA
              go_wp2_with fail
              refine CA.out.mono ?_
              clear CA
              rintro e wh hp
              cases hR : allW [[41]] r4 b4 with
              | bad cc p =>
                rw [hR] at hp
                obtain ⟨rfl, f⟩ := hp
                have HF := Lib.hid f
                have HV : Hid (itemW r b = .bad cc p) := Lib.hid (by have q0 := E1.out; have q1 := E2.out; have q2 := E3.out; have q3 := HN.out; have q4 := HN2.out; have q5 := E4.out; rw [itemW_call q0 q1 q2, q3, if_neg q4]; simp only [PR.then, PR.map, q5, hR])
                clear hR f
                go_wp2_with fail
                exact ⟨rfl, St.bad HV.out HF.out⟩
              | ok u r5 b5 =>
                rw [hR] at hp
                obtain ⟨⟨v, rfl, rfl⟩, hs9, -⟩ := hp
                have HS8 := Lib.hid hs9
                have E5 := Lib.hid hR
                clear hR hs9
                have HV : Hid (itemW r b = .ok ⟨(N : Nat), t⟩ r5 b5) := Lib.hid (by have q0 := E1.out; have q1 := E2.out; have q2 := E3.out; have q3 := HN.out; have q4 := HN2.out; have q5 := E4.out; have q6 := E5.out; rw [itemW_call q0 q1 q2, q3, if_neg q4]; simp only [PR.then, PR.map, q5, q6])
                have c0 : wh.cell? ⟨z, 0, none⟩ = some (.int .i64 (N : Nat)) := HS8.out.j.2.cell 0
                have c1 : wh.cell? ⟨z, 1, none⟩ = some (sv t) := HS8.out.j.2.cell 1
                have d0 : wh.cell? ⟨y, 0, none⟩ = some (.int .i64 0) := HS8.out.j.1.2.cell 0
                have d1 : wh.cell? ⟨y, 1, none⟩ = some (.string ⟨#[]⟩) := HS8.out.j.1.2.cell 1
                have x0 := HS8.out.j.1.2.frozen 0
                have x1 := HS8.out.j.1.2.frozen 1
                go_wp2
                refine bodyPost_ret (v := .agg #[.int .i64 (N : Nat), sv t]) (by simp [results, Tryz.results60, go_sem, d0, d1]) rfl ?_
                exact HS8.out.okc (fr_set (fr_set (Fr.refl _ wh))) HYL.out HD.out HG.out HV.out ⟨rfl, HT8.out, i64_of N (by have := HN9.out; omega)⟩
end Go.Proofs.YtkcnbmgaeompjaaGreatDoor
/- Reading a query: a list of items. -/
namespace Go.Proofs.YtkcnbmgaeompjaaGreatDoor
open Go.RowKit Go.Maps
set_option linter.unusedVariables false

set_option maxRecDepth 100000 in
set_option maxHeartbeats 4000000 in
theorem litems_any {C : Cx} {w : World} {r : List Wd} {b : Bool} (h : Rd C w r b) (he : Ended r) : Calls Tryz.prog 59 #[rp C, .int .i64 16, .func (.func 60) #[rp C] #[]] w (RdP C w (rowR 2 itG) (listW 16 itemW r b)) := by
  have hdl := h.lt
  obtain ⟨B, hB⟩ : ∃ B, w.heap.size = B := ⟨_, rfl⟩
  rw [hB] at hdl
  have HB := Lib.hid hB
  have HD := Lib.hid hdl
  have HRL : Hid (r.length ≤ 100000) := Lib.hid (by obtain ⟨a, e⟩ := h.suf; have := h.len.2.2; rw [e, List.length_append] at this; omega)
  have HK : Hid (Keeps itemW) := Lib.hid keeps_item
  have HS0 := Lib.hid (St.start h he)
  have HONE : Hid (∀ wi J r b, St C w J wi r b → Calls Tryz.prog 60 #[rp C] wi (SP C w J wi itR (itemW r b))) := Lib.hid fun wi J r b hs => hs.call (item_any hs.rd hs.en) keeps_item
  have C0 := Lib.hid (HONE.out w Tr r b HS0.out)
  unfold rp at *
  clear h he hdl hB
  go_enter Tryz.func59, Tryz.ntmps59
  go_wp2_with fail
  refine C0.out.mono ?_
  clear C0
  rintro e w1 hp
  cases hR : itemW r b with
  | bad c p =>
    rw [hR] at hp
    obtain ⟨rfl, f⟩ := hp
    have HF := Lib.hid f
    have HV : Hid (listW 16 itemW r b = .bad c p) := Lib.hid (by simp only [listW, hR, PR.then])
    clear hR f
    go_wp2_with fail
    exact ⟨rfl, St.bad HV.out HF.out⟩
  | ok x r1 b1 =>
    rw [hR] at hp
    obtain ⟨⟨v, rfl, hv⟩, hs, f1⟩ := hp
    have hkl := (HK.out _ _ _ _ _ HS0.out.en hR).2
    have HV : Hid (listW 16 itemW r b = (moreW itemW (r1.length + 1) [x] r1 b1).then fun l r2 b2 => .ok l r2 (b2 || decide (16 < l.length))) := Lib.hid (by simp only [listW, hR, PR.then])
    obtain ⟨v1, v2, rfl, hE⟩ := form_it hv
    -- the row of one
    obtain ⟨w2, hw2⟩ : ∃ w2, w1.alloc (.cells #[.int .i64 v1, sv v2] 45) = w2 := ⟨_, rfl⟩
    have f2 : Fr No w1 w2 := by rw [← hw2]; exact (Fr.refl No w1).alloc _
    have hg2 : Grow B 45 2 itG w2 (.slice (some ⟨w1.heap.size, 0, none⟩) 1 1) [x] := by
      rw [← hw2]
      exact Grow.single itG_elem (w0 := w) (Nat.le_of_eq HB.out.symm) f1.size x [.int .i64 v1, sv v2] rfl hE (by decide)
    have HS2 := Lib.hid (hs.no f2)
    have HG2 := Lib.hid hg2
    have HW2 := Lib.hid hw2
    have HR1 : Hid (r1.length ≤ 100000) := Lib.hid (by have := HRL.out; omega)
    obtain ⟨y1, hy1⟩ : ∃ y1, w1.heap.size = y1 := ⟨_, rfl⟩
    rw [hy1] at HG2
    have HY1 := Lib.hid hy1
    clear hR hs f1 hv hE hw2 f2 hg2 hkl hy1
    go_wp2_with fail
    rw [HW2.out, HY1.out]
    go_loopg [7] r1.length (fun k r7 wr => Hid (∃ acc r2 b2, Grow B 45 2 itG wr r7 acc ∧ St C w Tr wr r2 b2 ∧ r2.length ≤ k ∧ acc.length + r2.length ≤ 100001 ∧ moreW itemW (r1.length + 1) [x] r1 b1 = moreW itemW (k + 1) acc r2 b2))
    case atStart => exact Lib.hid ⟨[x], r1, b1, HG2.out, HS2.out, Nat.le_refl _, by have := HR1.out; simp; omega, rfl⟩
    case round =>
      obtain ⟨acc, r2, b2, hg, hs, hle, hlen, hm⟩ := hrel.out
      obtain ⟨A, c, rfl⟩ := hg.len
      have HM := Lib.hid hm
      have HG := Lib.hid hg
      have HSR := Lib.hid hs
      obtain ⟨n, hn⟩ : ∃ n, acc.length = n := ⟨_, rfl⟩
      rw [hn] at HG hlen
      have HN := Lib.hid hn
      simp only [hn]
      clear hg hs hm hrel hn
      go_wp2_with fail
      refine (says_any [44] wr).mono ?_
      rintro e w3 ⟨⟨mv, rfl, hmt⟩, f3⟩
      have HC := Lib.hid (takes_s (HSR.out.no f3) hmt (inner_says _))
      unfold rp at HC
      have HG3 := Lib.hid (HG.out.keep itG_elem f3 (fun _ h => h.elim))
      clear hmt f3
      go_wp2_with fail
      refine HC.out.mono ?_
      clear HC
      rintro e w4 ⟨rfl, ht, hf, f4⟩
      have HG4 := Lib.hid (HG3.out.keep itG_elem f4 (fun k h => by have := HD.out; have h : k = C.d := h; omega))
      clear f4 HG3 HG
      cases hc : seesW (saysW [44]) r2 with
      | true =>
        have HS4 := Lib.hid (ht hc)
        have htl := (HSR.out.en.sees (inner_says _) hc).2
        have HM2 : Hid (moreW itemW (r1.length + 1) [x] r1 b1 = (itemW r2.tail b2).then fun a => moreW itemW gk (acc ++ [a])) := Lib.hid (by
          rw [HM.out]
          show (if seesW (saysW [44]) r2 = true then _ else _) = _
          rw [if_pos hc])
        have C1 := Lib.hid (HONE.out w4 Tr r2.tail b2 HS4.out)
        clear ht hf hc HM HSR
        go_wp2_with fail
        refine C1.out.mono ?_
        clear C1
        rintro e w5 hp
        cases hR : itemW r2.tail b2 with
        | bad c p =>
          rw [hR] at hp
          obtain ⟨rfl, f⟩ := hp
          have HF := Lib.hid f
          have HV2 : Hid (listW 16 itemW r b = .bad c p) := Lib.hid (by rw [HV.out, HM2.out, hR]; rfl)
          clear hR f
          go_wp2_with fail
          exact ⟨rfl, St.bad HV2.out HF.out⟩
        | ok x' r3 b3 =>
          rw [hR] at hp
          obtain ⟨⟨v, rfl, hv⟩, hs5, f5⟩ := hp
          have hkl := (HK.out _ _ _ _ _ HS4.out.en hR).2
          have HM3 : Hid (moreW itemW (r1.length + 1) [x] r1 b1 = moreW itemW gk (acc ++ [x']) r3 b3) := Lib.hid (by rw [HM2.out, hR]; rfl)
          obtain ⟨v1, v2, rfl, hE⟩ := form_it hv
          have hg5 := HG4.out.keep itG_elem f5 (fun k h => by have := HD.out; have h : k = C.d := h; omega)
          rw [← HN.out] at hg5
          obtain ⟨A', c', w6, hrun, hg6, hfr6, hlt6⟩ := Grow.more (bytes := 24) itG_elem (w0 := w4) hg5 (by have := HS4.out.fr.size; rw [← HB.out]; exact this) f5.size (fun k hk => (HG4.out.lt k (by rw [← HN.out]; exact hk)).2) 23 Tryz.underlying23 (.agg #[.int .i64 0, .string ⟨#[]⟩]) (by kernel_rfl) rfl (by decide) x' [.int .i64 v1, sv v2] rfl (by simp [Value.oneCell']) hE (by rw [HN.out]; omega) (by rw [HN.out]; unfold maxLen; omega)
          have hrdy : Rd C w6 r3 b3 := hs5.rd.own (v := .slice A acc.length c) hfr6 (fun k hk => (HG4.out.lt k (by rw [← HN.out]; exact hk)).1) (by have := HD.out; omega) (by have h1 := HS0.out.rd.glt; rw [HB.out] at h1; exact h1)
          have hfr : Fr (Only C.d) w w6 := hs5.fr.own hfr6 (fun k hk => by rw [HB.out]; exact (HG4.out.lt k (by rw [← HN.out]; exact hk)).1)
          have HS6 : Hid (St C w Tr w6 r3 b3) := Lib.hid ⟨hrdy, hfr, hs5.en, trivial, stable_tr C⟩
          have HG6 := Lib.hid hg6
          have HRUN := Lib.hid hrun
          rw [HN.out] at HG6 HRUN
          clear hR hs5 f5 hv hE hg5 hg6 hfr6 hlt6 hrdy hfr
          go_wp2_with (at_builtin; refine wpList_add rfl _ _ _ _ rfl _ _ _ _ rfl rfl (HRUN.out _) ?_)
          obtain ⟨g1, rfl⟩ : ∃ g1, gk = g1 + 1 := ⟨gk - 1, by omega⟩
          go_roundg g1
          case rel => exact Lib.hid ⟨acc ++ [x'], r3, b3, HG6.out, HS6.out, by omega, by simp [HN.out]; omega, HM3.out⟩
          all_goals omega
      | false =>
        have HS4 := Lib.hid (hf hc)
        have HM2 : Hid (moreW itemW (r1.length + 1) [x] r1 b1 = .ok acc r2 b2) := Lib.hid (by
          rw [HM.out]
          show (if seesW (saysW [44]) r2 = true then _ else _) = _
          rw [if_neg (by rw [hc]; decide)])
        have hrow := HG4.out
        rw [← HN.out] at hrow
        have hrow2 := hrow.row itG_elem
        rw [HN.out] at hrow2
        have HROW : Hid (RowE (fun k => w.heap.size ≤ k) w4 2 (itG (fun k => w.heap.size ≤ k) w4) (.slice A n c) acc) := Lib.hid (by rw [HB.out]; exact hrow2)
        have HV2 : Hid (listW 16 itemW r b = .ok acc r2 (b2 || decide (16 < n))) := Lib.hid (by rw [HV.out, HM2.out, ← HN.out]; rfl)
        have hrd := HS4.out.rd
        have c2 : w4.cell? ⟨C.d, 2, none⟩ = some (.bool b2) := hrd.blk.cell 2
        have x2 := hrd.blk.frozen 2
        have HEND : Hid (∀ bb, bb = (b2 || decide (16 < n)) → RdP C w (rowR 2 itG) (listW 16 itemW r b) (.returned (.slice A n c)) (w4.setCell ⟨C.d, 2, none⟩ (.bool bb))) := Lib.hid fun bb hbb => by
          have f5 : Fr (Only C.d) w4 (w4.setCell ⟨C.d, 2, none⟩ (.bool bb)) := (Fr.refl (Only C.d) w4).setCell (p := ⟨C.d, 2, none⟩) (fun _ => rfl) _
          rw [HV2.out, ← hbb]
          refine ⟨HS4.out.fr.trans f5 fun _ _ h => h, ⟨_, rfl, ?_⟩, hrd.turn f5 (hrd.blk.set_ 2 _) hrd.suf⟩
          exact HROW.out.mono (fun k hk hkl => ⟨hk, f5.block k hkl (fun e => by have h1 := HD.out; have h2 := HB.out; have e : k = C.d := e; omega)⟩) fun y ys h => itG_elem.mono _ _ _ _ _ _ h (fun k hk hkl => ⟨hk, f5.block k hkl (fun e => by have h1 := HD.out; have h2 := HB.out; have e : k = C.d := e; omega)⟩)
        clear ht hf hc HM HSR hrow hrow2 hrd hlen
        cases b2 with
        | true =>
          have HX := Lib.hid (HEND.out true (by rw [Bool.true_or]))
          go_wp2
          go_ret
          exact HX.out
        | false =>
          have HX := Lib.hid (HEND.out (decide ((16 : Int) < (n : Int))) (by rw [Bool.false_or]; exact decide_eq_decide.2 (by omega)))
          go_wp2
          all_goals
            go_ret
            exact HX.out
end Go.Proofs.YtkcnbmgaeompjaaGreatDoor
/- Reading a query: names in brackets, a set. -/
namespace Go.Proofs.YtkcnbmgaeompjaaGreatDoor
open Go.RowKit Go.Maps
set_option linter.unusedVariables false

theorem row_up {α : Type} {E : EG α} (hE : Elem E) {w wi wj : World} {size : Nat} {v : Value} {l : List α} (h : RowE (fun k => wi.heap.size ≤ k) wj size (E (fun k => wi.heap.size ≤ k) wj) v l) (hw : w.heap.size ≤ wi.heap.size) : RowE (fun k => w.heap.size ≤ k) wj size (E (fun k => w.heap.size ≤ k) wj) v l :=
  h.mono (fun k hk _ => ⟨by omega, rfl⟩) fun x cs hx => hE.mono _ _ _ _ _ _ hx fun k hk _ => ⟨by omega, rfl⟩
theorem row_form {α : Type} {K : Nat → Prop} {w : World} {size : Nat} {E : α → List Value → Prop} {v : Value} {l : List α} (h : RowE K w size E v l) : ∃ A n c, v = .slice A n c ∧ n = l.length := by
  obtain ⟨A, c, e, _⟩ := h
  exact ⟨A, _, c, e, rfl⟩
def RowJ {α : Type} (w : World) (size : Nat) (E : EG α) (v : Value) (l : List α) (x : World) : Prop := RowE (fun k => w.heap.size ≤ k) x size (E (fun k => w.heap.size ≤ k) x) v l
theorem stable_rowj {α : Type} {C : Cx} {w : World} {size : Nat} {E : EG α} (hE : Elem E) {v : Value} {l : List α} (hB : C.d < w.heap.size) : Stable C (RowJ w size E v l) := stable_row hE hB
set_option maxRecDepth 100000 in
set_option maxHeartbeats 8000000 in
theorem prest_any {C : Cx} {w : World} {r : List Wd} {b : Bool} (h : Rd C w r b) (he : Ended r) : Calls Tryz.prog 151 #[rp C] w (RdP C w lsR (namesW r b)) := by
  have HD := Lib.hid h.lt
  have HG := Lib.hid h.glt
  have HS0 := Lib.hid (St.start h he)
  clear h he
  unfold rp
  go_enter Tryz.func151, Tryz.ntmps151
  have CA := Lib.hid (HS0.out.call (lnames_any HS0.out.rd HS0.out.en) (keeps_list keeps_name))
  unfold rp at CA
  go_wp2_with fail
  refine CA.out.mono ?_
  clear CA
  rintro e w1 hp
  cases hR : listW 16 nameW r b with
  | bad cc p =>
    rw [hR] at hp
    obtain ⟨rfl, f⟩ := hp
    have HF := Lib.hid f
    have HV : Hid (namesW r b = .bad cc p) := Lib.hid (by simp only [namesW, hR, PR.then])
    clear hR f
    go_wp2_with fail
    exact ⟨rfl, St.bad HV.out HF.out⟩
  | ok l r1 b1 =>
    rw [hR] at hp
    obtain ⟨⟨v, rfl, hv⟩, hs9, f9⟩ := hp
    have HS1 := Lib.hid hs9
    have E1 := Lib.hid hR
    have hv : RowE (fun k => w.heap.size ≤ k) w1 1 (strG (fun k => w.heap.size ≤ k) w1) v l := hv
    obtain ⟨A, n, c, rfl, hn⟩ := row_form hv
    have HS2 := Lib.hid (HS1.out.more (J' := RowJ w 1 strG (.slice A n c) l) hv (stable_rowj strG_elem HD.out))
    clear hv hn
    clear hR hs9 f9
    have CA := Lib.hid (all_s HS2.out [[41]] 1 rfl (by decide) #[sv [41]] rfl)
    unfold rp at CA
    go_wp2_with fail
    refine CA.out.mono ?_
    clear CA
    rintro e w2 hp
    cases hR : allW [[41]] r1 b1 with
    | bad cc p =>
      rw [hR] at hp
      obtain ⟨rfl, f⟩ := hp
      have HF := Lib.hid f
      have HV : Hid (namesW r b = .bad cc p) := Lib.hid (by have q0 := E1.out; simp only [namesW, q0, hR, PR.then, PR.map])
      clear hR f
      go_wp2_with fail
      exact ⟨rfl, St.bad HV.out HF.out⟩
    | ok u r2 b2 =>
      rw [hR] at hp
      obtain ⟨⟨v, rfl, rfl⟩, hs9, -⟩ := hp
      have HS3 := Lib.hid hs9
      have E2 := Lib.hid hR
      clear hR hs9
      have HV : Hid (namesW r b = .ok l r2 b2) := Lib.hid (by have q0 := E1.out; have q1 := E2.out; simp only [namesW, q0, q1, PR.then, PR.map])
      go_wp2
      go_ret
      exact HS3.out.ok HV.out HS3.out.j.2
theorem prest_s {C : Cx} {w wi : World} {J : World → Prop} {r : List Wd} {b : Bool} (h : St C w J wi r b) : Calls Tryz.prog 151 #[rp C] wi (SP C w J wi lsR (namesW r b)) := h.call (prest_any h.rd h.en) keeps_names
set_option maxRecDepth 100000 in
set_option maxHeartbeats 8000000 in
theorem plist_any {C : Cx} {w : World} {r : List Wd} {b : Bool} (h : Rd C w r b) (he : Ended r) : Calls Tryz.prog 120 #[rp C] w (RdP C w lsR (lstW r b)) := by
  have HD := Lib.hid h.lt
  have HG := Lib.hid h.glt
  have HS0 := Lib.hid (St.start h he)
  clear h he
  unfold rp
  go_enter Tryz.func120, Tryz.ntmps120
  have CA := Lib.hid (all_s HS0.out [[40]] 1 rfl (by decide) #[sv [40]] rfl)
  unfold rp at CA
  go_wp2_with fail
  refine CA.out.mono ?_
  clear CA
  rintro e w1 hp
  cases hR : allW [[40]] r b with
  | bad cc p =>
    rw [hR] at hp
    obtain ⟨rfl, f⟩ := hp
    have HF := Lib.hid f
    have HV : Hid (lstW r b = .bad cc p) := Lib.hid (by simp only [lstW, hR, PR.then])
    clear hR f
    go_wp2_with fail
    exact ⟨rfl, St.bad HV.out HF.out⟩
  | ok u r1 b1 =>
    rw [hR] at hp
    obtain ⟨⟨v, rfl, rfl⟩, hs9, -⟩ := hp
    have HS1 := Lib.hid hs9
    have E1 := Lib.hid hR
    clear hR hs9
    have CA := Lib.hid (prest_s HS1.out)
    unfold rp at CA
    go_wp2_with fail
    refine CA.out.mono ?_
    clear CA
    rintro e w2 hp
    cases hR : namesW r1 b1 with
    | bad cc p =>
      rw [hR] at hp
      obtain ⟨rfl, f⟩ := hp
      have HF := Lib.hid f
      have HV : Hid (lstW r b = .bad cc p) := Lib.hid (by have q0 := E1.out; simp only [lstW, q0, hR, PR.then])
      clear hR f
      go_wp2_with fail
      exact ⟨rfl, St.bad HV.out HF.out⟩
    | ok l r2 b2 =>
      rw [hR] at hp
      obtain ⟨⟨v, rfl, hv⟩, hs9, f9⟩ := hp
      have HS2 := Lib.hid hs9
      have E2 := Lib.hid hR
      have HROW : Hid (RowJ w 1 strG v l w2) := Lib.hid (row_up strG_elem hv HS1.out.fr.size)
      have HV : Hid (lstW r b = .ok l r2 b2) := Lib.hid (by have q0 := E1.out; simp only [lstW, q0, hR, PR.then])
      clear hv
      clear hR hs9 f9
      go_wp2
      go_ret
      exact HS2.out.ok HV.out HROW.out
theorem plist_s {C : Cx} {w wi : World} {J : World → Prop} {r : List Wd} {b : Bool} (h : St C w J wi r b) : Calls Tryz.prog 120 #[rp C] wi (SP C w J wi lsR (lstW r b)) := h.call (plist_any h.rd h.en) keeps_lst
set_option maxRecDepth 100000 in
set_option maxHeartbeats 8000000 in
theorem pset_any {C : Cx} {w : World} {r : List Wd} {b : Bool} (h : Rd C w r b) (he : Ended r) : Calls Tryz.prog 122 #[rp C] w (RdP C w lsR (setW r b)) := by
  have HD := Lib.hid h.lt
  have HG := Lib.hid h.glt
  have HS0 := Lib.hid (St.start h he)
  clear h he
  unfold rp
  go_enter Tryz.func122, Tryz.ntmps122
  go_wp2_with fail
  refine (of_any 1 w).mono ?_
  rintro e wx ⟨⟨mv, rfl, hm⟩, f1⟩
  have HC := Lib.hid (sees_s (HS0.out.no f1) hm)
  unfold rp at HC
  clear hm f1
  go_wp2_with fail
  refine HC.out.mono ?_
  rintro e w2 ⟨rfl, hs, -⟩
  have HS2 := Lib.hid hs
  clear hs HC
  cases h4 : seesW (ofW 1) r with
  | true =>
    have E1 := Lib.hid h4
    clear h4
    have CA := Lib.hid (name_s HS2.out)
    unfold rp at CA
    go_wp2_with fail
    refine CA.out.mono ?_
    clear CA
    rintro e w4 hp
    cases hR : nameW r b with
    | bad cc p =>
      rw [hR] at hp
      obtain ⟨rfl, f⟩ := hp
      have HF := Lib.hid f
      have HV : Hid (setW r b = .bad cc p) := Lib.hid (by have q0 := E1.out; simp only [setW, q0, hR, if_true, PR.map, PR.then])
      clear hR f
      go_wp2_with fail
      exact ⟨rfl, St.bad HV.out HF.out⟩
    | ok t r1 b1 =>
      rw [hR] at hp
      obtain ⟨⟨v, rfl, rfl, ht8⟩, hs9, f9⟩ := hp
      have HS4 := Lib.hid hs9
      have E2 := Lib.hid hR
      have HV : Hid (setW r b = .ok [t] r1 b1) := Lib.hid (by have q0 := E1.out; simp only [setW, q0, hR, if_true, PR.map, PR.then])
      obtain ⟨w5, hw5⟩ : ∃ w5, w4.alloc (.cells #[sv t] 9) = w5 := ⟨_, rfl⟩
      obtain ⟨z, hz⟩ : ∃ z, w4.heap.size = z := ⟨_, rfl⟩
      have f5 : Fr No w4 w5 := by rw [← hw5]; exact (Fr.refl No w4).alloc _
      have hg5 : Grow w.heap.size 9 1 strG w5 (.slice (some ⟨z, 0, none⟩) 1 1) [t] := by
        rw [← hw5, ← hz]
        exact Grow.single strG_elem (w0 := w) (Nat.le_refl _) HS4.out.fr.size t [sv t] rfl ⟨rfl, by unfold maxLen; omega⟩ (by decide)
      have HROW : Hid (RowJ w 1 strG (.slice (some ⟨z, 0, none⟩) 1 1) [t] w5) := Lib.hid (hg5.row strG_elem)
      have HS5 := Lib.hid (HS4.out.no f5)
      have HW5 := Lib.hid hw5
      have HZ := Lib.hid hz
      clear hw5 hz f5 hg5 ht8
      clear hR hs9 f9
      go_wp2_with fail
      go_ret
      rw [HW5.out, HZ.out]
      exact HS5.out.ok HV.out HROW.out
  | false =>
    have E1 := Lib.hid h4
    clear h4
    have CA := Lib.hid (all_s HS2.out [[40]] 1 rfl (by decide) #[sv [40]] rfl)
    unfold rp at CA
    go_wp2_with fail
    refine CA.out.mono ?_
    clear CA
    rintro e w3 hp
    cases hR : allW [[40]] r b with
    | bad cc p =>
      rw [hR] at hp
      obtain ⟨rfl, f⟩ := hp
      have HF := Lib.hid f
      have HV : Hid (setW r b = .bad cc p) := Lib.hid (by have q0 := E1.out; simp only [setW, q0, hR, PR.then, Bool.false_eq_true, if_false])
      clear hR f
      go_wp2_with fail
      exact ⟨rfl, St.bad HV.out HF.out⟩
    | ok u r1 b1 =>
      rw [hR] at hp
      obtain ⟨⟨v, rfl, rfl⟩, hs9, -⟩ := hp
      have HS3 := Lib.hid hs9
      have E2 := Lib.hid hR
      clear hR hs9
      go_wp2_with fail
      refine (says_any [41] w3).mono ?_
      rintro e wx ⟨⟨mv, rfl, hm⟩, f1⟩
      have HC := Lib.hid (takes_s (HS3.out.no f1) hm (inner_says _))
      unfold rp at HC
      clear hm f1
      go_wp2_with fail
      refine HC.out.mono ?_
      clear HC
      rintro e w5 ⟨rfl, ht, hf, -⟩
      cases hn : seesW (saysW [41]) r1 with
      | true =>
        have HS5 := Lib.hid (ht hn)
        have HV : Hid (setW r b = .ok [] r1.tail b1) := Lib.hid (by have q0 := E1.out; have q1 := E2.out; simp only [setW, q0, q1, hn, PR.then, Bool.false_eq_true, if_false, if_true])
        clear ht hf hn
        go_wp2
        go_ret
        exact HS5.out.ok HV.out (RowE.nil _ _ _ _)
      | false =>
        have HS5 := Lib.hid (hf hn)
        have E3 := Lib.hid hn
        clear ht hf hn
        have CA := Lib.hid (prest_s HS5.out)
        unfold rp at CA
        go_wp2_with fail
        refine CA.out.mono ?_
        clear CA
        rintro e w6 hp
        cases hR : namesW r1 b1 with
        | bad cc p =>
          rw [hR] at hp
          obtain ⟨rfl, f⟩ := hp
          have HF := Lib.hid f
          have HV : Hid (setW r b = .bad cc p) := Lib.hid (by have q0 := E1.out; have q1 := E2.out; have q2 := E3.out; simp only [setW, q0, q1, q2, hR, PR.then, Bool.false_eq_true, if_false])
          clear hR f
          go_wp2_with fail
          exact ⟨rfl, St.bad HV.out HF.out⟩
        | ok l r2 b2 =>
          rw [hR] at hp
          obtain ⟨⟨v, rfl, hv⟩, hs9, f9⟩ := hp
          have HS6 := Lib.hid hs9
          have E4 := Lib.hid hR
          have HROW : Hid (RowJ w 1 strG v l w6) := Lib.hid (row_up strG_elem hv HS5.out.fr.size)
          have HV : Hid (setW r b = .ok l r2 b2) := Lib.hid (by have q0 := E1.out; have q1 := E2.out; have q2 := E3.out; simp only [setW, q0, q1, q2, hR, PR.then, Bool.false_eq_true, if_false])
          clear hv
          clear hR hs9 f9
          go_wp2
          go_ret
          exact HS6.out.ok HV.out HROW.out
end Go.Proofs.YtkcnbmgaeompjaaGreatDoor
/- Reading a query: a list of sets. -/
namespace Go.Proofs.YtkcnbmgaeompjaaGreatDoor
open Go.RowKit Go.Maps
set_option linter.unusedVariables false

set_option maxRecDepth 100000 in
set_option maxHeartbeats 4000000 in
theorem lsets_any {C : Cx} {w : World} {r : List Wd} {b : Bool} (h : Rd C w r b) (he : Ended r) : Calls Tryz.prog 121 #[rp C, .int .i64 64, .func (.func 122) #[rp C] #[]] w (RdP C w (rowR 1 lsG) (listW 64 setW r b)) := by
  have hdl := h.lt
  obtain ⟨B, hB⟩ : ∃ B, w.heap.size = B := ⟨_, rfl⟩
  rw [hB] at hdl
  have HB := Lib.hid hB
  have HD := Lib.hid hdl
  have HRL : Hid (r.length ≤ 100000) := Lib.hid (by obtain ⟨a, e⟩ := h.suf; have := h.len.2.2; rw [e, List.length_append] at this; omega)
  have HK : Hid (Keeps setW) := Lib.hid keeps_set
  have HS0 := Lib.hid (St.start h he)
  have HONE : Hid (∀ wi J r b, St C w J wi r b → Calls Tryz.prog 122 #[rp C] wi (SP C w J wi lsR (setW r b))) := Lib.hid fun wi J r b hs => hs.call (pset_any hs.rd hs.en) keeps_set
  have C0 := Lib.hid (HONE.out w Tr r b HS0.out)
  unfold rp at *
  clear h he hdl hB
  go_enter Tryz.func121, Tryz.ntmps121
  go_wp2_with fail
  refine C0.out.mono ?_
  clear C0
  rintro e w1 hp
  cases hR : setW r b with
  | bad c p =>
    rw [hR] at hp
    obtain ⟨rfl, f⟩ := hp
    have HF := Lib.hid f
    have HV : Hid (listW 64 setW r b = .bad c p) := Lib.hid (by simp only [listW, hR, PR.then])
    clear hR f
    go_wp2_with fail
    exact ⟨rfl, St.bad HV.out HF.out⟩
  | ok x r1 b1 =>
    rw [hR] at hp
    obtain ⟨⟨v, rfl, hv⟩, hs, f1⟩ := hp
    have hkl := (HK.out _ _ _ _ _ HS0.out.en hR).2
    have HV : Hid (listW 64 setW r b = (moreW setW (r1.length + 1) [x] r1 b1).then fun l r2 b2 => .ok l r2 (b2 || decide (64 < l.length))) := Lib.hid (by simp only [listW, hR, PR.then])
    obtain ⟨A1, n1, c1, rfl, hE⟩ := form_ls hv
    -- the row of one
    obtain ⟨w2, hw2⟩ : ∃ w2, w1.alloc (.cells #[.slice A1 n1 c1] 52) = w2 := ⟨_, rfl⟩
    have f2 : Fr No w1 w2 := by rw [← hw2]; exact (Fr.refl No w1).alloc _
    have hg2 : Grow B 52 1 lsG w2 (.slice (some ⟨w1.heap.size, 0, none⟩) 1 1) [x] := by
      rw [← hw2]
      exact Grow.single lsG_elem (w0 := w) (Nat.le_of_eq HB.out.symm) f1.size x [.slice A1 n1 c1] rfl hE (by decide)
    have HS2 := Lib.hid (hs.no f2)
    have HG2 := Lib.hid hg2
    have HW2 := Lib.hid hw2
    have HR1 : Hid (r1.length ≤ 100000) := Lib.hid (by have := HRL.out; omega)
    obtain ⟨y1, hy1⟩ : ∃ y1, w1.heap.size = y1 := ⟨_, rfl⟩
    rw [hy1] at HG2
    have HY1 := Lib.hid hy1
    clear hR hs f1 hv hE hw2 f2 hg2 hkl hy1
    go_wp2_with fail
    rw [HW2.out, HY1.out]
    go_loopg [7] r1.length (fun k r7 wr => Hid (∃ acc r2 b2, Grow B 52 1 lsG wr r7 acc ∧ St C w Tr wr r2 b2 ∧ r2.length ≤ k ∧ acc.length + r2.length ≤ 100001 ∧ moreW setW (r1.length + 1) [x] r1 b1 = moreW setW (k + 1) acc r2 b2))
    case atStart => exact Lib.hid ⟨[x], r1, b1, HG2.out, HS2.out, Nat.le_refl _, by have := HR1.out; simp; omega, rfl⟩
    case round =>
      obtain ⟨acc, r2, b2, hg, hs, hle, hlen, hm⟩ := hrel.out
      obtain ⟨A, c, rfl⟩ := hg.len
      have HM := Lib.hid hm
      have HG := Lib.hid hg
      have HSR := Lib.hid hs
      obtain ⟨n, hn⟩ : ∃ n, acc.length = n := ⟨_, rfl⟩
      rw [hn] at HG hlen
      have HN := Lib.hid hn
      simp only [hn]
      clear hg hs hm hrel hn
      go_wp2_with fail
      refine (says_any [44] wr).mono ?_
      rintro e w3 ⟨⟨mv, rfl, hmt⟩, f3⟩
      have HC := Lib.hid (takes_s (HSR.out.no f3) hmt (inner_says _))
      unfold rp at HC
      have HG3 := Lib.hid (HG.out.keep lsG_elem f3 (fun _ h => h.elim))
      clear hmt f3
      go_wp2_with fail
      refine HC.out.mono ?_
      clear HC
      rintro e w4 ⟨rfl, ht, hf, f4⟩
      have HG4 := Lib.hid (HG3.out.keep lsG_elem f4 (fun k h => by have := HD.out; have h : k = C.d := h; omega))
      clear f4 HG3 HG
      cases hc : seesW (saysW [44]) r2 with
      | true =>
        have HS4 := Lib.hid (ht hc)
        have htl := (HSR.out.en.sees (inner_says _) hc).2
        have HM2 : Hid (moreW setW (r1.length + 1) [x] r1 b1 = (setW r2.tail b2).then fun a => moreW setW gk (acc ++ [a])) := Lib.hid (by
          rw [HM.out]
          show (if seesW (saysW [44]) r2 = true then _ else _) = _
          rw [if_pos hc])
        have C1 := Lib.hid (HONE.out w4 Tr r2.tail b2 HS4.out)
        clear ht hf hc HM HSR
        go_wp2_with fail
        refine C1.out.mono ?_
        clear C1
        rintro e w5 hp
        cases hR : setW r2.tail b2 with
        | bad c p =>
          rw [hR] at hp
          obtain ⟨rfl, f⟩ := hp
          have HF := Lib.hid f
          have HV2 : Hid (listW 64 setW r b = .bad c p) := Lib.hid (by rw [HV.out, HM2.out, hR]; rfl)
          clear hR f
          go_wp2_with fail
          exact ⟨rfl, St.bad HV2.out HF.out⟩
        | ok x' r3 b3 =>
          rw [hR] at hp
          obtain ⟨⟨v, rfl, hv⟩, hs5, f5⟩ := hp
          have hkl := (HK.out _ _ _ _ _ HS4.out.en hR).2
          have HM3 : Hid (moreW setW (r1.length + 1) [x] r1 b1 = moreW setW gk (acc ++ [x']) r3 b3) := Lib.hid (by rw [HM2.out, hR]; rfl)
          obtain ⟨A1, n1, c1, rfl, hE⟩ := form_ls hv
          have hg5 := HG4.out.keep lsG_elem f5 (fun k h => by have := HD.out; have h : k = C.d := h; omega)
          rw [← HN.out] at hg5
          obtain ⟨A', c', w6, hrun, hg6, hfr6, hlt6⟩ := Grow.more (bytes := 24) lsG_elem (w0 := w4) hg5 (by have := HS4.out.fr.size; rw [← HB.out]; exact this) f5.size (fun k hk => (HG4.out.lt k (by rw [← HN.out]; exact hk)).2) 64 Tryz.underlying64 (.slice none 0 0) (by kernel_rfl) rfl (by decide) x' [.slice A1 n1 c1] rfl (by simp [Value.oneCell']) hE (by rw [HN.out]; omega) (by rw [HN.out]; unfold maxLen; omega)
          have hrdy : Rd C w6 r3 b3 := hs5.rd.own (v := .slice A acc.length c) hfr6 (fun k hk => (HG4.out.lt k (by rw [← HN.out]; exact hk)).1) (by have := HD.out; omega) (by have h1 := HS0.out.rd.glt; rw [HB.out] at h1; exact h1)
          have hfr : Fr (Only C.d) w w6 := hs5.fr.own hfr6 (fun k hk => by rw [HB.out]; exact (HG4.out.lt k (by rw [← HN.out]; exact hk)).1)
          have HS6 : Hid (St C w Tr w6 r3 b3) := Lib.hid ⟨hrdy, hfr, hs5.en, trivial, stable_tr C⟩
          have HG6 := Lib.hid hg6
          have HRUN := Lib.hid hrun
          rw [HN.out] at HG6 HRUN
          clear hR hs5 f5 hv hE hg5 hg6 hfr6 hlt6 hrdy hfr
          go_wp2_with (at_builtin; refine wpList_add rfl _ _ _ _ rfl _ _ _ _ rfl rfl (HRUN.out _) ?_)
          obtain ⟨g1, rfl⟩ : ∃ g1, gk = g1 + 1 := ⟨gk - 1, by omega⟩
          go_roundg g1
          case rel => exact Lib.hid ⟨acc ++ [x'], r3, b3, HG6.out, HS6.out, by omega, by simp [HN.out]; omega, HM3.out⟩
          all_goals omega
      | false =>
        have HS4 := Lib.hid (hf hc)
        have HM2 : Hid (moreW setW (r1.length + 1) [x] r1 b1 = .ok acc r2 b2) := Lib.hid (by
          rw [HM.out]
          show (if seesW (saysW [44]) r2 = true then _ else _) = _
          rw [if_neg (by rw [hc]; decide)])
        have hrow := HG4.out
        rw [← HN.out] at hrow
        have hrow2 := hrow.row lsG_elem
        rw [HN.out] at hrow2
        have HROW : Hid (RowE (fun k => w.heap.size ≤ k) w4 1 (lsG (fun k => w.heap.size ≤ k) w4) (.slice A n c) acc) := Lib.hid (by rw [HB.out]; exact hrow2)
        have HV2 : Hid (listW 64 setW r b = .ok acc r2 (b2 || decide (64 < n))) := Lib.hid (by rw [HV.out, HM2.out, ← HN.out]; rfl)
        have hrd := HS4.out.rd
        have c2 : w4.cell? ⟨C.d, 2, none⟩ = some (.bool b2) := hrd.blk.cell 2
        have x2 := hrd.blk.frozen 2
        have HEND : Hid (∀ bb, bb = (b2 || decide (64 < n)) → RdP C w (rowR 1 lsG) (listW 64 setW r b) (.returned (.slice A n c)) (w4.setCell ⟨C.d, 2, none⟩ (.bool bb))) := Lib.hid fun bb hbb => by
          have f5 : Fr (Only C.d) w4 (w4.setCell ⟨C.d, 2, none⟩ (.bool bb)) := (Fr.refl (Only C.d) w4).setCell (p := ⟨C.d, 2, none⟩) (fun _ => rfl) _
          rw [HV2.out, ← hbb]
          refine ⟨HS4.out.fr.trans f5 fun _ _ h => h, ⟨_, rfl, ?_⟩, hrd.turn f5 (hrd.blk.set_ 2 _) hrd.suf⟩
          exact HROW.out.mono (fun k hk hkl => ⟨hk, f5.block k hkl (fun e => by have h1 := HD.out; have h2 := HB.out; have e : k = C.d := e; omega)⟩) fun y ys h => lsG_elem.mono _ _ _ _ _ _ h (fun k hk hkl => ⟨hk, f5.block k hkl (fun e => by have h1 := HD.out; have h2 := HB.out; have e : k = C.d := e; omega)⟩)
        clear ht hf hc HM HSR hrow hrow2 hrd hlen
        cases b2 with
        | true =>
          have HX := Lib.hid (HEND.out true (by rw [Bool.true_or]))
          go_wp2
          go_ret
          exact HX.out
        | false =>
          have HX := Lib.hid (HEND.out (decide ((64 : Int) < (n : Int))) (by rw [Bool.false_or]; exact decide_eq_decide.2 (by omega)))
          go_wp2
          all_goals
            go_ret
            exact HX.out
end Go.Proofs.YtkcnbmgaeompjaaGreatDoor
