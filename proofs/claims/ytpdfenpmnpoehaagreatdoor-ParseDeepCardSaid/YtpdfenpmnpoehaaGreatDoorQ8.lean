/- Reading a query: a list of names. -/
import Derived.Test.YtpdfenpmnpoehaaGreatDoorQ7
import Derived.Deep.LoopGhost
namespace Go.Proofs.YtpdfenpmnpoehaaGreatDoor
open Go.RowKit Go.Maps
set_option linter.unusedVariables false

def rowR {α : Type} (size : Nat) (E : EG α) : VR (List α) := fun K w v l => RowE K w size (E K w) v l
def itR : VR It := fun _ _ v i => v = .agg #[.int .i64 i.kind, sv i.col] ∧ i.col.length ≤ 8192 ∧ i64 i.kind
def lsR : VR (List Tx) := fun K w v l => RowE K w 1 (strG K w) v l
def gpR : VR Gp := fun K w v e => ∃ a b, v = .agg #[.int .i64 e.kind, a, b] ∧ i64 e.kind ∧ RowE K w 1 (strG K w) a e.cols ∧ RowE K w 1 (lsG K w) b e.sets
theorem form_str {K : Nat → Prop} {w : World} {v : Value} {x : Tx} (h : strR K w v x) : ∃ t1, v = sv t1 ∧ strG K w x [sv t1] := ⟨x, h.1, rfl, by have := h.2; unfold maxLen; omega⟩
theorem form_vl {K : Nat → Prop} {w : World} {v : Value} {x : Vl} (h : vlR K w v x) : ∃ v1 v2 v3, v = .agg #[.bool v1, sv v2, .int .i64 v3] ∧ vlG K w x [.bool v1, sv v2, .int .i64 v3] := ⟨_, _, _, h.1, rfl, by have := h.2.1; unfold maxLen; omega, h.2.2⟩
theorem form_it {K : Nat → Prop} {w : World} {v : Value} {x : It} (h : itR K w v x) : ∃ v1 v2, v = .agg #[.int .i64 v1, sv v2] ∧ itG K w x [.int .i64 v1, sv v2] := ⟨_, _, h.1, rfl, by have := h.2.1; unfold maxLen; omega, h.2.2⟩
theorem form_ls {K : Nat → Prop} {w : World} {v : Value} {x : List Tx} (h : lsR K w v x) : ∃ A n c, v = .slice A n c ∧ lsG K w x [.slice A n c] := by
  have h' := h
  obtain ⟨A, c, rfl, _⟩ := h'
  exact ⟨_, _, _, rfl, _, rfl, rfl, h⟩
theorem form_gp {K : Nat → Prop} {w : World} {v : Value} {x : Gp} (h : gpR K w v x) : ∃ v1 A1 n1 c1 A2 n2 c2, v = .agg #[.int .i64 v1, .slice A1 n1 c1, .slice A2 n2 c2] ∧ gpG K w x [.int .i64 v1, .slice A1 n1 c1, .slice A2 n2 c2] := by
  obtain ⟨a, b, rfl, h1, h2, h3⟩ := h
  have h2' := h2
  have h3' := h3
  obtain ⟨A, c, rfl, _⟩ := h2'
  obtain ⟨A', c', rfl, _⟩ := h3'
  exact ⟨_, _, _, _, _, _, _, rfl, _, _, rfl, h1, h2, h3⟩
set_option maxRecDepth 100000 in
set_option maxHeartbeats 4000000 in
theorem lnames_any {C : Cx} {w : World} {r : List Wd} {b : Bool} (h : Rd C w r b) (he : Ended r) : Calls Tryz.prog 163 #[rp C, .int .i64 16, .func (.func 61) #[rp C] #[]] w (RdP C w (rowR 1 strG) (listW 16 nameW r b)) := by
  have hdl := h.lt
  obtain ⟨B, hB⟩ : ∃ B, w.heap.size = B := ⟨_, rfl⟩
  rw [hB] at hdl
  have HB := Lib.hid hB
  have HD := Lib.hid hdl
  have HRL : Hid (r.length ≤ 100000) := Lib.hid (by obtain ⟨a, e⟩ := h.suf; have := h.len.2.2; rw [e, List.length_append] at this; omega)
  have HK : Hid (Keeps nameW) := Lib.hid keeps_name
  have HS0 := Lib.hid (St.start h he)
  have HONE : Hid (∀ wi J r b, St C w J wi r b → Calls Tryz.prog 61 #[rp C] wi (SP C w J wi strR (nameW r b))) := Lib.hid fun wi J r b hs => hs.call (name_any hs.rd hs.en) keeps_name
  have C0 := Lib.hid (HONE.out w Tr r b HS0.out)
  unfold rp at *
  clear h he hdl hB
  go_enter Tryz.func163, Tryz.ntmps163
  go_wp2_with fail
  refine C0.out.mono ?_
  clear C0
  rintro e w1 hp
  cases hR : nameW r b with
  | bad c p =>
    rw [hR] at hp
    obtain ⟨rfl, f⟩ := hp
    have HF := Lib.hid f
    have HV : Hid (listW 16 nameW r b = .bad c p) := Lib.hid (by simp only [listW, hR, PR.then])
    clear hR f
    go_wp2_with fail
    exact ⟨rfl, St.bad HV.out HF.out⟩
  | ok x r1 b1 =>
    rw [hR] at hp
    obtain ⟨⟨v, rfl, hv⟩, hs, f1⟩ := hp
    have hkl := (HK.out _ _ _ _ _ HS0.out.en hR).2
    have HV : Hid (listW 16 nameW r b = (moreW nameW (r1.length + 1) [x] r1 b1).then fun l r2 b2 => .ok l r2 (b2 || decide (16 < l.length))) := Lib.hid (by simp only [listW, hR, PR.then])
    obtain ⟨t1, rfl, hE⟩ := form_str hv
    -- the row of one
    obtain ⟨w2, hw2⟩ : ∃ w2, w1.alloc (.cells #[sv t1] 9) = w2 := ⟨_, rfl⟩
    have f2 : Fr No w1 w2 := by rw [← hw2]; exact (Fr.refl No w1).alloc _
    have hg2 : Grow B 9 1 strG w2 (.slice (some ⟨w1.heap.size, 0, none⟩) 1 1) [x] := by
      rw [← hw2]
      exact Grow.single strG_elem (w0 := w) (Nat.le_of_eq HB.out.symm) f1.size x [sv t1] rfl hE (by decide)
    have HS2 := Lib.hid (hs.no f2)
    have HG2 := Lib.hid hg2
    have HW2 := Lib.hid hw2
    have HR1 : Hid (r1.length ≤ 100000) := Lib.hid (by have := HRL.out; omega)
    obtain ⟨y1, hy1⟩ : ∃ y1, w1.heap.size = y1 := ⟨_, rfl⟩
    rw [hy1] at HG2
    have HY1 := Lib.hid hy1
    clear hR hs f1 hv hE hw2 f2 hg2 hkl hy1
    go_wp2_with fail
    rw [HW2.out, HY1.out]
    go_loopg [7] r1.length (fun k r7 wr => Hid (∃ acc r2 b2, Grow B 9 1 strG wr r7 acc ∧ St C w Tr wr r2 b2 ∧ r2.length ≤ k ∧ acc.length + r2.length ≤ 100001 ∧ moreW nameW (r1.length + 1) [x] r1 b1 = moreW nameW (k + 1) acc r2 b2))
    case atStart => exact Lib.hid ⟨[x], r1, b1, HG2.out, HS2.out, Nat.le_refl _, by have := HR1.out; simp; omega, rfl⟩
    case round =>
      obtain ⟨acc, r2, b2, hg, hs, hle, hlen, hm⟩ := hrel.out
      obtain ⟨A, c, rfl⟩ := hg.len
      have HM := Lib.hid hm
      have HG := Lib.hid hg
      have HSR := Lib.hid hs
      obtain ⟨n, hn⟩ : ∃ n, acc.length = n := ⟨_, rfl⟩
      rw [hn] at HG hlen
      have HN := Lib.hid hn
      simp only [hn]
      clear hg hs hm hrel hn
      go_wp2_with fail
      refine (says_any [44] wr).mono ?_
      rintro e w3 ⟨⟨mv, rfl, hmt⟩, f3⟩
      have HC := Lib.hid (takes_s (HSR.out.no f3) hmt (inner_says _))
      unfold rp at HC
      have HG3 := Lib.hid (HG.out.keep strG_elem f3 (fun _ h => h.elim))
      clear hmt f3
      go_wp2_with fail
      refine HC.out.mono ?_
      clear HC
      rintro e w4 ⟨rfl, ht, hf, f4⟩
      have HG4 := Lib.hid (HG3.out.keep strG_elem f4 (fun k h => by have := HD.out; have h : k = C.d := h; omega))
      clear f4 HG3 HG
      cases hc : seesW (saysW [44]) r2 with
      | true =>
        have HS4 := Lib.hid (ht hc)
        have htl := (HSR.out.en.sees (inner_says _) hc).2
        have HM2 : Hid (moreW nameW (r1.length + 1) [x] r1 b1 = (nameW r2.tail b2).then fun a => moreW nameW gk (acc ++ [a])) := Lib.hid (by
          rw [HM.out]
          show (if seesW (saysW [44]) r2 = true then _ else _) = _
          rw [if_pos hc])
        have C1 := Lib.hid (HONE.out w4 Tr r2.tail b2 HS4.out)
        clear ht hf hc HM HSR
        go_wp2_with fail
        refine C1.out.mono ?_
        clear C1
        rintro e w5 hp
        cases hR : nameW r2.tail b2 with
        | bad c p =>
          rw [hR] at hp
          obtain ⟨rfl, f⟩ := hp
          have HF := Lib.hid f
          have HV2 : Hid (listW 16 nameW r b = .bad c p) := Lib.hid (by rw [HV.out, HM2.out, hR]; rfl)
          clear hR f
          go_wp2_with fail
          exact ⟨rfl, St.bad HV2.out HF.out⟩
        | ok x' r3 b3 =>
          rw [hR] at hp
          obtain ⟨⟨v, rfl, hv⟩, hs5, f5⟩ := hp
          have hkl := (HK.out _ _ _ _ _ HS4.out.en hR).2
          have HM3 : Hid (moreW nameW (r1.length + 1) [x] r1 b1 = moreW nameW gk (acc ++ [x']) r3 b3) := Lib.hid (by rw [HM2.out, hR]; rfl)
          obtain ⟨t1, rfl, hE⟩ := form_str hv
          have hg5 := HG4.out.keep strG_elem f5 (fun k h => by have := HD.out; have h : k = C.d := h; omega)
          rw [← HN.out] at hg5
          obtain ⟨A', c', w6, hrun, hg6, hfr6, hlt6⟩ := Grow.more (bytes := 16) strG_elem (w0 := w4) hg5 (by have := HS4.out.fr.size; rw [← HB.out]; exact this) f5.size (fun k hk => (HG4.out.lt k (by rw [← HN.out]; exact hk)).2) 52 Tryz.underlying52 (.string ⟨#[]⟩) (by kernel_rfl) rfl (by decide) x' [sv t1] rfl (by simp [Value.oneCell']) hE (by rw [HN.out]; omega) (by rw [HN.out]; unfold maxLen; omega)
          have hrdy : Rd C w6 r3 b3 := hs5.rd.own (v := .slice A acc.length c) hfr6 (fun k hk => (HG4.out.lt k (by rw [← HN.out]; exact hk)).1) (by have := HD.out; omega) (by have h1 := HS0.out.rd.glt; rw [HB.out] at h1; exact h1)
          have hfr : Fr (Only C.d) w w6 := hs5.fr.own hfr6 (fun k hk => by rw [HB.out]; exact (HG4.out.lt k (by rw [← HN.out]; exact hk)).1)
          have HS6 : Hid (St C w Tr w6 r3 b3) := Lib.hid ⟨hrdy, hfr, hs5.en, trivial, stable_tr C⟩
          have HG6 := Lib.hid hg6
          have HRUN := Lib.hid hrun
          rw [HN.out] at HG6 HRUN
          clear hR hs5 f5 hv hE hg5 hg6 hfr6 hlt6 hrdy hfr
          go_wp2_with (at_builtin; refine wpList_add rfl _ _ _ _ rfl _ _ _ _ rfl rfl (HRUN.out _) ?_)
          obtain ⟨g1, rfl⟩ : ∃ g1, gk = g1 + 1 := ⟨gk - 1, by omega⟩
          go_roundg g1
          case rel => exact Lib.hid ⟨acc ++ [x'], r3, b3, HG6.out, HS6.out, by omega, by simp [HN.out]; omega, HM3.out⟩
          all_goals omega
      | false =>
        have HS4 := Lib.hid (hf hc)
        have HM2 : Hid (moreW nameW (r1.length + 1) [x] r1 b1 = .ok acc r2 b2) := Lib.hid (by
          rw [HM.out]
          show (if seesW (saysW [44]) r2 = true then _ else _) = _
          rw [if_neg (by rw [hc]; decide)])
        have hrow := HG4.out
        rw [← HN.out] at hrow
        have hrow2 := hrow.row strG_elem
        rw [HN.out] at hrow2
        have HROW : Hid (RowE (fun k => w.heap.size ≤ k) w4 1 (strG (fun k => w.heap.size ≤ k) w4) (.slice A n c) acc) := Lib.hid (by rw [HB.out]; exact hrow2)
        have HV2 : Hid (listW 16 nameW r b = .ok acc r2 (b2 || decide (16 < n))) := Lib.hid (by rw [HV.out, HM2.out, ← HN.out]; rfl)
        have hrd := HS4.out.rd
        have c2 : w4.cell? ⟨C.d, 2, none⟩ = some (.bool b2) := hrd.blk.cell 2
        have x2 := hrd.blk.frozen 2
        have HEND : Hid (∀ bb, bb = (b2 || decide (16 < n)) → RdP C w (rowR 1 strG) (listW 16 nameW r b) (.returned (.slice A n c)) (w4.setCell ⟨C.d, 2, none⟩ (.bool bb))) := Lib.hid fun bb hbb => by
          have f5 : Fr (Only C.d) w4 (w4.setCell ⟨C.d, 2, none⟩ (.bool bb)) := (Fr.refl (Only C.d) w4).setCell (p := ⟨C.d, 2, none⟩) (fun _ => rfl) _
          rw [HV2.out, ← hbb]
          refine ⟨HS4.out.fr.trans f5 fun _ _ h => h, ⟨_, rfl, ?_⟩, hrd.turn f5 (hrd.blk.set_ 2 _) hrd.suf⟩
          exact HROW.out.mono (fun k hk hkl => ⟨hk, f5.block k hkl (fun e => by have h1 := HD.out; have h2 := HB.out; have e : k = C.d := e; omega)⟩) fun y ys h => strG_elem.mono _ _ _ _ _ _ h (fun k hk hkl => ⟨hk, f5.block k hkl (fun e => by have h1 := HD.out; have h2 := HB.out; have e : k = C.d := e; omega)⟩)
        clear ht hf hc HM HSR hrow hrow2 hrd hlen
        cases b2 with
        | true =>
          have HX := Lib.hid (HEND.out true (by rw [Bool.true_or]))
          go_wp2
          go_ret
          exact HX.out
        | false =>
          have HX := Lib.hid (HEND.out (decide ((16 : Int) < (n : Int))) (by rw [Bool.false_or]; exact decide_eq_decide.2 (by omega)))
          go_wp2
          all_goals
            go_ret
            exact HX.out
end Go.Proofs.YtpdfenpmnpoehaaGreatDoor
