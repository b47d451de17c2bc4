/- Reading a query: an item. -/
import Derived.Test.YtpdfenpmnpoehaaGreatDoorQA
namespace Go.Proofs.YtpdfenpmnpoehaaGreatDoor
open Go.RowKit Go.Maps
set_option linter.unusedVariables false
attribute [local go_sem ↓] to7 to7'

theorem allW_two (a c : Tx) (r : List Wd) (b : Bool) : allW [a, c] r b = (allW [a] r b).then fun _ => allW [c] := by
  show (needW (saysW a) r b).then _ = ((needW (saysW a) r b).then fun _ => allW []).then _
  cases needW (saysW a) r b <;> rfl
theorem itemW_call {r r2 r3 : List Wd} {b b2 b3 : Bool} {x : Wd} (h1 : seesW (ofW 1) r = false) (h2 : needW (amongW callsT) r b = .ok x r2 b2) {u : Unit} (h3 : allW [[40]] r2 b2 = .ok u r3 b3) :
    itemW r b = if placeW callsT x.text = 2 then (allW [[42], [41]] r3 b3).map fun _ => ⟨2, []⟩ else (nameW r3 b3).then fun t r3 b3 => (allW [[41]] r3 b3).map fun _ => ⟨placeW callsT x.text, t⟩ := by
  simp only [itemW, h1, h2, h3, PR.then, Bool.false_eq_true, if_false]
set_option maxRecDepth 100000 in
set_option maxHeartbeats 8000000 in
theorem item_any {C : Cx} {w : World} {r : List Wd} {b : Bool} (h : Rd C w r b) (he : Ended r) : Calls Tryz.prog 60 #[rp C] w (RdP C w itR (itemW r b)) := by
  have hd := h.lt
  have hg := h.glt
  obtain ⟨y, hy⟩ : ∃ y, w.heap.size = y := ⟨_, rfl⟩
  obtain ⟨w0, hw0⟩ : ∃ w0, w.alloc (.cells #[.int .i64 0, .string ⟨#[]⟩] 45) = w0 := ⟨_, rfl⟩
  have f0 : Fr No w w0 := by rw [← hw0]; exact (Fr.refl No w).alloc _
  have hb0 : Blk w0 y 45 #[.int .i64 0, .string ⟨#[]⟩] := by rw [← hw0, ← hy]; exact Blk.new w 45 _
  have hyd : y ≠ C.d := by omega
  have HS0 := Lib.hid (((St.start h he).no f0).more hb0 (stable_blk hyd))
  have HD := Lib.hid hd
  have HG := Lib.hid hg
  have HY := Lib.hid hy
  have HW0 := Lib.hid hw0
  have HYD := Lib.hid hyd
  have HYL : Hid (w.heap.size ≤ y) := Lib.hid (by omega)
  clear h he hd hg hy hw0 f0 hb0 hyd
  unfold rp
  go_enter Tryz.func60, Tryz.ntmps60
  go_upto_region 1 with fail
  rw [HW0.out, HY.out]
  go_wp2_with fail
  refine (of_any 1 w0).mono ?_
  rintro e w1 ⟨⟨mv, rfl, hm⟩, f1⟩
  have HC := Lib.hid (sees_s (HS0.out.no f1) hm)
  unfold rp at HC
  clear hm f1
  go_wp2_with fail
  refine HC.out.mono ?_
  rintro e w2 ⟨rfl, hs, -⟩
  have HS2 := Lib.hid hs
  clear hs HC
  cases h4 : seesW (ofW 1) r with
  | true =>
    have E1 := Lib.hid h4
    have HC := Lib.hid (name_s HS2.out)
    unfold rp at HC
    clear h4
    go_wp2_with fail
    refine HC.out.mono ?_
    clear HC
    rintro e w4 hp
    cases hR : nameW r b with
    | bad c p =>
      rw [hR] at hp
      obtain ⟨rfl, f⟩ := hp
      have HF := Lib.hid f
      have HV : Hid (itemW r b = .bad c p) := Lib.hid (by have := E1.out; simp only [itemW, this, hR, if_true, PR.map, PR.then])
      clear hR f
      go_wp2_with fail
      exact ⟨rfl, St.bad HV.out HF.out⟩
    | ok t r' b' =>
      rw [hR] at hp
      obtain ⟨⟨v, rfl, rfl, ht8⟩, hs, -⟩ := hp
      have HS4 := Lib.hid hs
      have HV : Hid (itemW r b = .ok ⟨1, t⟩ r' b') := Lib.hid (by have := E1.out; simp only [itemW, this, hR, if_true, PR.map, PR.then])
      obtain ⟨-, hb⟩ := hs.j
      have z0 : w4.cell? ⟨y, 0, none⟩ = some (.int .i64 0) := hb.cell 0
      have z1 : w4.cell? ⟨y, 1, none⟩ = some (.string ⟨#[]⟩) := hb.cell 1
      have y0 := hb.frozen 0
      have y1 := hb.frozen 1
      clear hR hs hb
      go_wp2
      refine bodyPost_ret (v := .agg #[.int .i64 1, sv t]) (by simp [results, Tryz.results60, go_sem, z0, z1]) rfl ?_
      exact HS4.out.okc (fr_set (fr_set (Fr.refl _ w4))) HYL.out HD.out HG.out HV.out ⟨rfl, ht8, i64_of 1 (by decide)⟩
  | false =>
    have E1 := Lib.hid h4
    obtain ⟨w3, hw3⟩ : ∃ w3, w2.drew = w3 := ⟨_, rfl⟩
    have HS3 := Lib.hid (HS2.out.no (show Fr No w2 w3 by rw [← hw3]; exact (Fr.refl No w2).drew))
    have HW3 := Lib.hid hw3
    clear h4 hw3
    go_upto_region 3 with fail
    have HNEED : Hid (∀ J wi mv, St C w J wi r b → Mt wi mv (amongW callsT) → Calls Tryz.prog 67 #[.pointer (some ⟨C.d, 0, none⟩), mv] wi (SP C w J wi wdR (needW (amongW callsT) r b))) := Lib.hid fun J wi mv hs hm => need_s hs hm (inner_among _)
    have HLP : Hid (∀ wi, Pv wi → (cells7 ⟨0, 0, none⟩).run Tryz.prog wi = .ok calls7.cs wi) := Lib.hid fun wi hv => load7 wi calls7 0 fun k hk => hv.calls k hk
    have HAM : Hid (∀ wi, Calls Tryz.prog 115 #[.agg calls7.cs] wi fun e w' => (∃ mv, e = .returned mv ∧ Mt w' mv (amongW callsT)) ∧ Fr No wi w') := Lib.hid fun wi => among_any calls7 wi
    have HPL : Hid (∀ x wi, Calls Tryz.prog 114 #[.agg calls7.cs, sv x] wi fun e w' => e = .returned (.int .i64 (placeW callsT x : Nat)) ∧ Fr No wi w') := Lib.hid fun x wi => place_any calls7 x wi
    have HSZ : Hid (calls7.cs.size = 7) := Lib.hid rfl
    generalize calls7.cs = K7 at *
    cases hR : needW (amongW callsT) r b with
    | bad cc p =>
      have HV : Hid (itemW r b = .bad cc p) := Lib.hid (by have q1 := E1.out; simp only [itemW, q1, hR, PR.then, Bool.false_eq_true, if_false])
      rw [hR] at HNEED
      clear hR
      refine wp_region_held_drew (S := fun w' => (cells7 ⟨0, 0, none⟩).run Tryz.prog w' = .ok K7 w') (by kernel_rfl) (by rw [HW3.out]; exact HLP.out _ HS3.out.rd.pv) (fun hHeld => ?_)
      rw [HW3.out] at hHeld ⊢
      refine wpAnyH_take (i := 0) (oi := ({ dst := some 10, op := Go.Op.load 138 (Go.Operand.global 0), type := 138, pos := "grammar.go:31", after := #[], guard := none } : Go.Oper)) (v := ?_) rfl (by kernel_rfl) (by kernel_rfl) (by kernel_rfl) (fun _ _ _ h => h) (Or.inl ⟨by rfl, ?_⟩) (by assumption) ?_
      rotate_left 1
      · intro w hSw; (try dsimp only at hSw); first | (go_simp; done) | (go_simp; with_reducible rfl)
      try simp only [Act.put, List.setIfInBounds_toArray, List.set_cons_zero, List.set_cons_succ]
      refine wpAnyH_take (i := 1) (oi := ({ dst := some 11, op := Go.Op.move (Go.Operand.tmp 0), type := 92, pos := "grammar.go:31", after := #[], guard := none } : Go.Oper)) (v := ?_) rfl (by kernel_rfl) (by kernel_rfl) (by kernel_rfl) (fun _ _ _ h => h) (Or.inl ⟨by rfl, ?_⟩) (by assumption) ?_
      rotate_left 1
      · intro w hSw; (try dsimp only at hSw); first | (go_simp; done) | (go_simp; with_reducible rfl)
      try simp only [Act.put, List.setIfInBounds_toArray, List.set_cons_zero, List.set_cons_succ]
      refine wpAnyH_take (i := 2) (oi := ({ dst := some 12, op := Go.Op.load 138 (Go.Operand.global 0), type := 138, pos := "grammar.go:31", after := #[], guard := none } : Go.Oper)) (v := ?_) rfl (by kernel_rfl) (by kernel_rfl) (by kernel_rfl) (fun _ _ _ h => h) (Or.inl ⟨by rfl, ?_⟩) (by assumption) ?_
      rotate_left 1
      · intro w hSw; (try dsimp only at hSw); first | (go_simp; done) | (go_simp; with_reducible rfl)
      try simp only [Act.put, List.setIfInBounds_toArray, List.set_cons_zero, List.set_cons_succ]
      refine wpAnyH_ready (rs := [3, 8]) (by kernel_rfl) (by simp) ?_
      refine AllReadyH.cons (o := ({ dst := some 13, op := Go.Op.call { callee := Go.Callee.value (Go.Operand.func 115), args := #[Go.Operand.tmp 12], argTypes := #[138] }, type := 98, pos := "grammar.go:31", after := #[{ on := 2, ground := Go.Ground.data }], guard := none } : Go.Oper)) rfl (fun K hK => ?_) ?_
      · go_simp
        (go_at_call 115; (with_reducible refine (HAM.out _).mono ?_); rintro e wa ⟨⟨mv2, rfl, hm⟩, fa⟩; have HSa := Lib.hid (HS3.out.no fa); have HMT := Lib.hid hm; clear fa hm)
        try (go_wp2_with fail)
        refine hK.out _ _ (HLP.out _ HSa.out.rd.pv) (fun hHeld1 => ?_)
        clear hK K
        try simp only [Act.put, List.setIfInBounds_toArray, List.set_cons_zero, List.set_cons_succ]
        refine wpAnyH_ready (rs := [4, 8]) (by kernel_rfl) (by simp) ?_
        refine AllReadyH.cons (o := ({ dst := some 14, op := Go.Op.call { callee := Go.Callee.value (Go.Operand.func 67), args := #[Go.Operand.tmp 11, Go.Operand.tmp 13], argTypes := #[92, 98] }, type := 42, pos := "grammar.go:31", after := #[{ on := 1, ground := Go.Ground.data }, { on := 3, ground := Go.Ground.data }, { on := 3, ground := Go.Ground.chain }], guard := none } : Go.Oper)) rfl (fun K hK => ?_) ?_
        · go_simp
          have HNN := Lib.hid (HNEED.out _ _ _ HSa.out HMT.out)
          (go_at_call 67; (with_reducible refine HNN.out.mono ?_); rintro e wb hp; obtain ⟨rfl, fb⟩ := hp)
          try (go_wp2_with fail)
          exact ⟨rfl, St.bad HV.out fb⟩
        refine AllReadyH.cons (o := ({ dst := some 3, op := Go.Op.alloc 45, type := 0, pos := "grammar.go:31", after := #[], guard := none } : Go.Oper)) rfl (fun K hK => ?_) AllReadyH.nil
        go_simp
        obtain ⟨z, hz⟩ : ∃ z, wa.heap.size = z := ⟨_, rfl⟩
        obtain ⟨wz, hwz⟩ : ∃ wz, wa.alloc (.cells #[.int .i64 0, .string ⟨#[]⟩] 45) = wz := ⟨_, rfl⟩
        have fz : Fr No wa wz := by rw [← hwz]; exact (Fr.refl No _).alloc _
        have hbz : Blk wz z 45 #[.int .i64 0, .string ⟨#[]⟩] := by rw [← hwz, ← hz]; exact Blk.new _ 45 _
        have hzw : w.heap.size ≤ z := by rw [← hz]; exact HSa.out.fr.size
        have hyz : y ≠ z := by have := HSa.out.j.2.lt; omega
        have HSz := Lib.hid ((HSa.out.no fz).more hbz (stable_blk (by have := HD.out; omega)))
        have HFZ := Lib.hid fz
        have HZW := Lib.hid hzw
        have HYZ := Lib.hid hyz
        rw [hz, hwz]
        clear hz hwz fz hbz hzw hyz
        refine hK.out _ _ (HLP.out _ HSz.out.rd.pv) (fun hHeld2 => ?_)
        clear hK K
        try simp only [Act.put, List.setIfInBounds_toArray, List.set_cons_zero, List.set_cons_succ]
        refine wpAnyH_ready (rs := [4]) (by kernel_rfl) (by simp) ?_
        refine AllReadyH.cons (o := ({ dst := some 14, op := Go.Op.call { callee := Go.Callee.value (Go.Operand.func 67), args := #[Go.Operand.tmp 11, Go.Operand.tmp 13], argTypes := #[92, 98] }, type := 42, pos := "grammar.go:31", after := #[{ on := 1, ground := Go.Ground.data }, { on := 3, ground := Go.Ground.data }, { on := 3, ground := Go.Ground.chain }], guard := none } : Go.Oper)) rfl (fun K hK => ?_) AllReadyH.nil
        go_simp
        have HNN := Lib.hid (HNEED.out _ _ _ HSz.out (HMT.out.keep HFZ.out))
        (go_at_call 67; (with_reducible refine HNN.out.mono ?_); rintro e wb hp; obtain ⟨rfl, fb⟩ := hp)
        try (go_wp2_with fail)
        exact ⟨rfl, St.bad HV.out fb⟩
      refine AllReadyH.cons (o := ({ dst := some 3, op := Go.Op.alloc 45, type := 0, pos := "grammar.go:31", after := #[], guard := none } : Go.Oper)) rfl (fun K hK => ?_) AllReadyH.nil
      go_simp
      obtain ⟨z, hz⟩ : ∃ z, w3.heap.size = z := ⟨_, rfl⟩
      obtain ⟨wz, hwz⟩ : ∃ wz, w3.alloc (.cells #[.int .i64 0, .string ⟨#[]⟩] 45) = wz := ⟨_, rfl⟩
      have fz : Fr No w3 wz := by rw [← hwz]; exact (Fr.refl No _).alloc _
      have hbz : Blk wz z 45 #[.int .i64 0, .string ⟨#[]⟩] := by rw [← hwz, ← hz]; exact Blk.new _ 45 _
      have hzw : w.heap.size ≤ z := by rw [← hz]; exact HS3.out.fr.size
      have hyz : y ≠ z := by have := HS3.out.j.2.lt; omega
      have HSz := Lib.hid ((HS3.out.no fz).more hbz (stable_blk (by have := HD.out; omega)))
      have HFZ := Lib.hid fz
      have HZW := Lib.hid hzw
      have HYZ := Lib.hid hyz
      rw [hz, hwz]
      clear hz hwz fz hbz hzw hyz
      refine hK.out _ _ (HLP.out _ HSz.out.rd.pv) (fun hHeld3 => ?_)
      clear hK K
      try simp only [Act.put, List.setIfInBounds_toArray, List.set_cons_zero, List.set_cons_succ]
      refine wpAnyH_ready (rs := [3]) (by kernel_rfl) (by simp) ?_
      refine AllReadyH.cons (o := ({ dst := some 13, op := Go.Op.call { callee := Go.Callee.value (Go.Operand.func 115), args := #[Go.Operand.tmp 12], argTypes := #[138] }, type := 98, pos := "grammar.go:31", after := #[{ on := 2, ground := Go.Ground.data }], guard := none } : Go.Oper)) rfl (fun K hK => ?_) AllReadyH.nil
      go_simp
      (go_at_call 115; (with_reducible refine (HAM.out _).mono ?_); rintro e wa ⟨⟨mv2, rfl, hm⟩, fa⟩; have HSa := Lib.hid (HSz.out.no fa); have HMT := Lib.hid hm; clear fa hm)
      try (go_wp2_with fail)
      refine hK.out _ _ (HLP.out _ HSa.out.rd.pv) (fun hHeld4 => ?_)
      clear hK K
      try simp only [Act.put, List.setIfInBounds_toArray, List.set_cons_zero, List.set_cons_succ]
      refine wpAnyH_ready (rs := [4]) (by kernel_rfl) (by simp) ?_
      refine AllReadyH.cons (o := ({ dst := some 14, op := Go.Op.call { callee := Go.Callee.value (Go.Operand.func 67), args := #[Go.Operand.tmp 11, Go.Operand.tmp 13], argTypes := #[92, 98] }, type := 42, pos := "grammar.go:31", after := #[{ on := 1, ground := Go.Ground.data }, { on := 3, ground := Go.Ground.data }, { on := 3, ground := Go.Ground.chain }], guard := none } : Go.Oper)) rfl (fun K hK => ?_) AllReadyH.nil
      go_simp
      have HNN := Lib.hid (HNEED.out _ _ _ HSa.out HMT.out)
      (go_at_call 67; (with_reducible refine HNN.out.mono ?_); rintro e wb hp; obtain ⟨rfl, fb⟩ := hp)
      try (go_wp2_with fail)
      exact ⟨rfl, St.bad HV.out fb⟩
    | ok x r2 b2 =>
      rw [hR] at HNEED
      have E2 := Lib.hid hR
      obtain ⟨xk, xt, xp⟩ := x
      have hfd := fun w => field42 (.int .i64 (xk : Nat)) (sv xt) (.int .i64 (xp : Nat)) w
      obtain ⟨N, hN⟩ : ∃ N, placeW callsT xt = N := ⟨_, rfl⟩
      have HN := Lib.hid hN
      clear hR hN
      go_cut [3] (fun zv wx => ∃ z, zv = .pointer (some ⟨z, 0, none⟩) ∧ w.heap.size ≤ z ∧ y ≠ z ∧ St C w (fun x => (Tr x ∧ Blk x y 45 #[.int .i64 0, .string ⟨#[]⟩]) ∧ Blk x z 45 #[.int .i64 (N : Nat), .string ⟨#[]⟩]) wx r2 b2)
      case first =>
        refine wp_region_held_drew (S := fun w' => (cells7 ⟨0, 0, none⟩).run Tryz.prog w' = .ok K7 w') (by kernel_rfl) (by rw [HW3.out]; exact HLP.out _ HS3.out.rd.pv) (fun hHeld => ?_)
        rw [HW3.out] at hHeld ⊢
        refine wpAnyH_take (i := 0) (oi := ({ dst := some 10, op := Go.Op.load 138 (Go.Operand.global 0), type := 138, pos := "grammar.go:31", after := #[], guard := none } : Go.Oper)) (v := ?_) rfl (by kernel_rfl) (by kernel_rfl) (by kernel_rfl) (fun _ _ _ h => h) (Or.inl ⟨by rfl, ?_⟩) (by assumption) ?_
        rotate_left 1
        · intro w hSw; (try dsimp only at hSw); first | (go_simp; done) | (go_simp; with_reducible rfl)
        try simp only [Act.put, List.setIfInBounds_toArray, List.set_cons_zero, List.set_cons_succ]
        refine wpAnyH_take (i := 1) (oi := ({ dst := some 11, op := Go.Op.move (Go.Operand.tmp 0), type := 92, pos := "grammar.go:31", after := #[], guard := none } : Go.Oper)) (v := ?_) rfl (by kernel_rfl) (by kernel_rfl) (by kernel_rfl) (fun _ _ _ h => h) (Or.inl ⟨by rfl, ?_⟩) (by assumption) ?_
        rotate_left 1
        · intro w hSw; (try dsimp only at hSw); first | (go_simp; done) | (go_simp; with_reducible rfl)
        try simp only [Act.put, List.setIfInBounds_toArray, List.set_cons_zero, List.set_cons_succ]
        refine wpAnyH_take (i := 2) (oi := ({ dst := some 12, op := Go.Op.load 138 (Go.Operand.global 0), type := 138, pos := "grammar.go:31", after := #[], guard := none } : Go.Oper)) (v := ?_) rfl (by kernel_rfl) (by kernel_rfl) (by kernel_rfl) (fun _ _ _ h => h) (Or.inl ⟨by rfl, ?_⟩) (by assumption) ?_
        rotate_left 1
        · intro w hSw; (try dsimp only at hSw); first | (go_simp; done) | (go_simp; with_reducible rfl)
        try simp only [Act.put, List.setIfInBounds_toArray, List.set_cons_zero, List.set_cons_succ]
        refine wpAnyH_ready (rs := [3, 8]) (by kernel_rfl) (by simp) ?_
        refine AllReadyH.cons (o := ({ dst := some 13, op := Go.Op.call { callee := Go.Callee.value (Go.Operand.func 115), args := #[Go.Operand.tmp 12], argTypes := #[138] }, type := 98, pos := "grammar.go:31", after := #[{ on := 2, ground := Go.Ground.data }], guard := none } : Go.Oper)) rfl (fun K hK => ?_) ?_
        · go_simp
          (go_at_call 115; (with_reducible refine (HAM.out _).mono ?_); rintro e wa ⟨⟨mv2, rfl, hm⟩, fa⟩; have HSa := Lib.hid (HS3.out.no fa); have HMT := Lib.hid hm; clear fa hm)
          try (go_wp2_with fail)
          refine hK.out _ _ (HLP.out _ HSa.out.rd.pv) (fun hHeld1 => ?_)
          clear hK K
          try simp only [Act.put, List.setIfInBounds_toArray, List.set_cons_zero, List.set_cons_succ]
          refine wpAnyH_ready (rs := [4, 8]) (by kernel_rfl) (by simp) ?_
          refine AllReadyH.cons (o := ({ dst := some 14, op := Go.Op.call { callee := Go.Callee.value (Go.Operand.func 67), args := #[Go.Operand.tmp 11, Go.Operand.tmp 13], argTypes := #[92, 98] }, type := 42, pos := "grammar.go:31", after := #[{ on := 1, ground := Go.Ground.data }, { on := 3, ground := Go.Ground.data }, { on := 3, ground := Go.Ground.chain }], guard := none } : Go.Oper)) rfl (fun K hK => ?_) ?_
          · go_simp
            have HNN := Lib.hid (HNEED.out _ _ _ HSa.out HMT.out)
            (go_at_call 67; (with_reducible refine HNN.out.mono ?_); rintro e wb hp; obtain ⟨⟨v, rfl, rfl, x1, x2, x3⟩, hsb, -⟩ := hp; have HSb := Lib.hid hsb; clear hsb)
            try (go_wp2_with fail)
            refine hK.out _ _ (HLP.out _ HSb.out.rd.pv) (fun hHeld2 => ?_)
            clear hK K
            try simp only [Act.put, List.setIfInBounds_toArray, List.set_cons_zero, List.set_cons_succ]
            refine wpAnyH_take (i := 5) (oi := ({ dst := some 15, op := Go.Op.field 42 (Go.Operand.tmp 14) 1, type := 9, pos := "grammar.go:31", after := #[{ on := 4, ground := Go.Ground.data }], guard := none } : Go.Oper)) (v := ?_) rfl (by kernel_rfl) (by kernel_rfl) (by kernel_rfl) (fun _ _ _ h => h) (Or.inl ⟨by rfl, ?_⟩) (by assumption) ?_
            rotate_left 1
            · intro w hSw; (try dsimp only at hSw); first | (go_simp; done) | (go_simp; with_reducible rfl)
            try simp only [Act.put, List.setIfInBounds_toArray, List.set_cons_zero, List.set_cons_succ]
            refine wpAnyH_ready (rs := [6, 8]) (by kernel_rfl) (by simp) ?_
            refine AllReadyH.cons (o := ({ dst := some 16, op := Go.Op.call { callee := Go.Callee.value (Go.Operand.func 114), args := #[Go.Operand.tmp 10, Go.Operand.tmp 15], argTypes := #[138, 9] }, type := 3, pos := "grammar.go:31", after := #[{ on := 0, ground := Go.Ground.data }, { on := 5, ground := Go.Ground.data }, { on := 4, ground := Go.Ground.chain }], guard := none } : Go.Oper)) rfl (fun K hK => ?_) ?_
            · go_simp
              (go_at_call 114; (with_reducible refine (HPL.out xt _).mono ?_); rintro e wc ⟨rfl, fc⟩; have HSc := Lib.hid (HSb.out.no fc); clear fc)
              rw [HN.out]
              try (go_wp2_with fail)
              refine hK.out _ _ (HLP.out _ HSc.out.rd.pv) (fun hHeld3 => ?_)
              clear hK K
              try simp only [Act.put, List.setIfInBounds_toArray, List.set_cons_zero, List.set_cons_succ]
              refine wpAnyH_take (i := 7) (oi := ({ dst := some 17, op := Go.Op.build 45 #[(0, Go.Operand.tmp 16)], type := 45, pos := "grammar.go:31", after := #[{ on := 6, ground := Go.Ground.data }], guard := none } : Go.Oper)) (v := ?_) rfl (by kernel_rfl) (by kernel_rfl) (by kernel_rfl) (fun _ _ _ h => h) (Or.inl ⟨by rfl, ?_⟩) (by assumption) ?_
              rotate_left 1
              · intro w hSw; (try dsimp only at hSw); first | (go_simp; done) | (go_simp; with_reducible rfl)
              try simp only [Act.put, List.setIfInBounds_toArray, List.set_cons_zero, List.set_cons_succ]
              refine wpAnyH_ready (rs := [8]) (by kernel_rfl) (by simp) ?_
              refine AllReadyH.cons (o := ({ dst := some 3, op := Go.Op.alloc 45, type := 0, pos := "grammar.go:31", after := #[], guard := none } : Go.Oper)) rfl (fun K hK => ?_) AllReadyH.nil
              go_simp
              obtain ⟨z, hz⟩ : ∃ z, wc.heap.size = z := ⟨_, rfl⟩
              obtain ⟨wz, hwz⟩ : ∃ wz, wc.alloc (.cells #[.int .i64 0, .string ⟨#[]⟩] 45) = wz := ⟨_, rfl⟩
              have fz : Fr No wc wz := by rw [← hwz]; exact (Fr.refl No _).alloc _
              have hbz : Blk wz z 45 #[.int .i64 0, .string ⟨#[]⟩] := by rw [← hwz, ← hz]; exact Blk.new _ 45 _
              have hzw : w.heap.size ≤ z := by rw [← hz]; exact HSc.out.fr.size
              have hyz : y ≠ z := by have := HSc.out.j.2.lt; omega
              have HSz := Lib.hid ((HSc.out.no fz).more hbz (stable_blk (by have := HD.out; omega)))
              have HFZ := Lib.hid fz
              have HZW := Lib.hid hzw
              have HYZ := Lib.hid hyz
              rw [hz, hwz]
              clear hz hwz fz hbz hzw hyz
              refine hK.out _ _ (HLP.out _ HSz.out.rd.pv) (fun hHeld4 => ?_)
              clear hK K
              try simp only [Act.put, List.setIfInBounds_toArray, List.set_cons_zero, List.set_cons_succ]
              refine wpAnyH_ready (rs := [9]) (by kernel_rfl) (by simp) ?_
              refine AllReadyH.cons (o := ({ dst := none, op := Go.Op.store 45 (Go.Operand.tmp 3) (Go.Operand.tmp 17), type := 0, pos := "grammar.go:31", after := #[{ on := 8, ground := Go.Ground.data }, { on := 7, ground := Go.Ground.data }, { on := 6, ground := Go.Ground.chain }, { on := 0, ground := Go.Ground.phase }, { on := 1, ground := Go.Ground.phase }, { on := 2, ground := Go.Ground.phase }, { on := 3, ground := Go.Ground.phase }, { on := 4, ground := Go.Ground.phase }, { on := 5, ground := Go.Ground.phase }, { on := 6, ground := Go.Ground.phase }, { on := 7, ground := Go.Ground.phase }, { on := 8, ground := Go.Ground.phase }], guard := none } : Go.Oper)) rfl (fun K hK => ?_) AllReadyH.nil
              have z0 : wz.cell? ⟨z, 0, none⟩ = some (.int .i64 0) := HSz.out.j.2.cell 0
              have z1 : wz.cell? ⟨z, 1, none⟩ = some (.string ⟨#[]⟩) := HSz.out.j.2.cell 1
              have x0 := HSz.out.j.2.frozen 0
              have x1 := HSz.out.j.2.frozen 1
              have HSd := Lib.hid (HSz.out.put (wj := (wz.setCell ⟨z, 0, none⟩ (.int .i64 (N : Nat))).setCell ⟨z, 1, none⟩ (.string ⟨#[]⟩)) (J' := fun x => (Tr x ∧ Blk x y 45 #[.int .i64 0, .string ⟨#[]⟩]) ∧ Blk x z 45 #[.int .i64 (N : Nat), .string ⟨#[]⟩]) (fr_set (fr_set (Fr.refl _ _))) HZW.out HD.out HG.out ⟨⟨trivial, HSz.out.j.1.2.of ((fr_set (fr_set (Fr.refl (fun k => k = z) _))).block _ HSz.out.j.1.2.lt HYZ.out)⟩, (HSz.out.j.2.set_ 0 _).set_ 1 _⟩ (stable_and (stable_and (stable_tr C) (stable_blk HYD.out)) (stable_blk (by have h1 := HD.out; have h2 := HZW.out; omega))))
              go_simp
              refine hK.out _ _ (HLP.out _ HSd.out.rd.pv) (fun hHeld5 => ?_)
              clear hK K
              try simp only [Act.put, List.setIfInBounds_toArray, List.set_cons_zero, List.set_cons_succ]
              refine wpAnyH_done (by kernel_rfl) ?_ _
              go_wp2_with fail
              go_meet
              exact ⟨z, rfl, HZW.out, HYZ.out, HSd.out⟩
            refine AllReadyH.cons (o := ({ dst := some 3, op := Go.Op.alloc 45, type := 0, pos := "grammar.go:31", after := #[], guard := none } : Go.Oper)) rfl (fun K hK => ?_) AllReadyH.nil
            go_simp
            obtain ⟨z, hz⟩ : ∃ z, wb.heap.size = z := ⟨_, rfl⟩
            obtain ⟨wz, hwz⟩ : ∃ wz, wb.alloc (.cells #[.int .i64 0, .string ⟨#[]⟩] 45) = wz := ⟨_, rfl⟩
            have fz : Fr No wb wz := by rw [← hwz]; exact (Fr.refl No _).alloc _
            have hbz : Blk wz z 45 #[.int .i64 0, .string ⟨#[]⟩] := by rw [← hwz, ← hz]; exact Blk.new _ 45 _
            have hzw : w.heap.size ≤ z := by rw [← hz]; exact HSb.out.fr.size
            have hyz : y ≠ z := by have := HSb.out.j.2.lt; omega
            have HSz := Lib.hid ((HSb.out.no fz).more hbz (stable_blk (by have := HD.out; omega)))
            have HFZ := Lib.hid fz
            have HZW := Lib.hid hzw
            have HYZ := Lib.hid hyz
            rw [hz, hwz]
            clear hz hwz fz hbz hzw hyz
            refine hK.out _ _ (HLP.out _ HSz.out.rd.pv) (fun hHeld6 => ?_)
            clear hK K
            try simp only [Act.put, List.setIfInBounds_toArray, List.set_cons_zero, List.set_cons_succ]
            refine wpAnyH_ready (rs := [6]) (by kernel_rfl) (by simp) ?_
            refine AllReadyH.cons (o := ({ dst := some 16, op := Go.Op.call { callee := Go.Callee.value (Go.Operand.func 114), args := #[Go.Operand.tmp 10, Go.Operand.tmp 15], argTypes := #[138, 9] }, type := 3, pos := "grammar.go:31", after := #[{ on := 0, ground := Go.Ground.data }, { on := 5, ground := Go.Ground.data }, { on := 4, ground := Go.Ground.chain }], guard := none } : Go.Oper)) rfl (fun K hK => ?_) AllReadyH.nil
            go_simp
            (go_at_call 114; (with_reducible refine (HPL.out xt _).mono ?_); rintro e wc ⟨rfl, fc⟩; have HSc := Lib.hid (HSz.out.no fc); clear fc)
            rw [HN.out]
            try (go_wp2_with fail)
            refine hK.out _ _ (HLP.out _ HSc.out.rd.pv) (fun hHeld7 => ?_)
            clear hK K
            try simp only [Act.put, List.setIfInBounds_toArray, List.set_cons_zero, List.set_cons_succ]
            refine wpAnyH_take (i := 7) (oi := ({ dst := some 17, op := Go.Op.build 45 #[(0, Go.Operand.tmp 16)], type := 45, pos := "grammar.go:31", after := #[{ on := 6, ground := Go.Ground.data }], guard := none } : Go.Oper)) (v := ?_) rfl (by kernel_rfl) (by kernel_rfl) (by kernel_rfl) (fun _ _ _ h => h) (Or.inl ⟨by rfl, ?_⟩) (by assumption) ?_
            rotate_left 1
            · intro w hSw; (try dsimp only at hSw); first | (go_simp; done) | (go_simp; with_reducible rfl)
            try simp only [Act.put, List.setIfInBounds_toArray, List.set_cons_zero, List.set_cons_succ]
            refine wpAnyH_ready (rs := [9]) (by kernel_rfl) (by simp) ?_
            refine AllReadyH.cons (o := ({ dst := none, op := Go.Op.store 45 (Go.Operand.tmp 3) (Go.Operand.tmp 17), type := 0, pos := "grammar.go:31", after := #[{ on := 8, ground := Go.Ground.data }, { on := 7, ground := Go.Ground.data }, { on := 6, ground := Go.Ground.chain }, { on := 0, ground := Go.Ground.phase }, { on := 1, ground := Go.Ground.phase }, { on := 2, ground := Go.Ground.phase }, { on := 3, ground := Go.Ground.phase }, { on := 4, ground := Go.Ground.phase }, { on := 5, ground := Go.Ground.phase }, { on := 6, ground := Go.Ground.phase }, { on := 7, ground := Go.Ground.phase }, { on := 8, ground := Go.Ground.phase }], guard := none } : Go.Oper)) rfl (fun K hK => ?_) AllReadyH.nil
            have z0 : wc.cell? ⟨z, 0, none⟩ = some (.int .i64 0) := HSc.out.j.2.cell 0
            have z1 : wc.cell? ⟨z, 1, none⟩ = some (.string ⟨#[]⟩) := HSc.out.j.2.cell 1
            have x0 := HSc.out.j.2.frozen 0
            have x1 := HSc.out.j.2.frozen 1
            have HSd := Lib.hid (HSc.out.put (wj := (wc.setCell ⟨z, 0, none⟩ (.int .i64 (N : Nat))).setCell ⟨z, 1, none⟩ (.string ⟨#[]⟩)) (J' := fun x => (Tr x ∧ Blk x y 45 #[.int .i64 0, .string ⟨#[]⟩]) ∧ Blk x z 45 #[.int .i64 (N : Nat), .string ⟨#[]⟩]) (fr_set (fr_set (Fr.refl _ _))) HZW.out HD.out HG.out ⟨⟨trivial, HSc.out.j.1.2.of ((fr_set (fr_set (Fr.refl (fun k => k = z) _))).block _ HSc.out.j.1.2.lt HYZ.out)⟩, (HSc.out.j.2.set_ 0 _).set_ 1 _⟩ (stable_and (stable_and (stable_tr C) (stable_blk HYD.out)) (stable_blk (by have h1 := HD.out; have h2 := HZW.out; omega))))
            go_simp
            refine hK.out _ _ (HLP.out _ HSd.out.rd.pv) (fun hHeld8 => ?_)
            clear hK K
            try simp only [Act.put, List.setIfInBounds_toArray, List.set_cons_zero, List.set_cons_succ]
            refine wpAnyH_done (by kernel_rfl) ?_ _
            go_wp2_with fail
            go_meet
            exact ⟨z, rfl, HZW.out, HYZ.out, HSd.out⟩
          refine AllReadyH.cons (o := ({ dst := some 3, op := Go.Op.alloc 45, type := 0, pos := "grammar.go:31", after := #[], guard := none } : Go.Oper)) rfl (fun K hK => ?_) AllReadyH.nil
          go_simp
          obtain ⟨z, hz⟩ : ∃ z, wa.heap.size = z := ⟨_, rfl⟩
          obtain ⟨wz, hwz⟩ : ∃ wz, wa.alloc (.cells #[.int .i64 0, .string ⟨#[]⟩] 45) = wz := ⟨_, rfl⟩
          have fz : Fr No wa wz := by rw [← hwz]; exact (Fr.refl No _).alloc _
          have hbz : Blk wz z 45 #[.int .i64 0, .string ⟨#[]⟩] := by rw [← hwz, ← hz]; exact Blk.new _ 45 _
          have hzw : w.heap.size ≤ z := by rw [← hz]; exact HSa.out.fr.size
          have hyz : y ≠ z := by have := HSa.out.j.2.lt; omega
          have HSz := Lib.hid ((HSa.out.no fz).more hbz (stable_blk (by have := HD.out; omega)))
          have HFZ := Lib.hid fz
          have HZW := Lib.hid hzw
          have HYZ := Lib.hid hyz
          rw [hz, hwz]
          clear hz hwz fz hbz hzw hyz
          refine hK.out _ _ (HLP.out _ HSz.out.rd.pv) (fun hHeld9 => ?_)
          clear hK K
          try simp only [Act.put, List.setIfInBounds_toArray, List.set_cons_zero, List.set_cons_succ]
          refine wpAnyH_ready (rs := [4]) (by kernel_rfl) (by simp) ?_
          refine AllReadyH.cons (o := ({ dst := some 14, op := Go.Op.call { callee := Go.Callee.value (Go.Operand.func 67), args := #[Go.Operand.tmp 11, Go.Operand.tmp 13], argTypes := #[92, 98] }, type := 42, pos := "grammar.go:31", after := #[{ on := 1, ground := Go.Ground.data }, { on := 3, ground := Go.Ground.data }, { on := 3, ground := Go.Ground.chain }], guard := none } : Go.Oper)) rfl (fun K hK => ?_) AllReadyH.nil
          go_simp
          have HNN := Lib.hid (HNEED.out _ _ _ HSz.out (HMT.out.keep HFZ.out))
          (go_at_call 67; (with_reducible refine HNN.out.mono ?_); rintro e wb hp; obtain ⟨⟨v, rfl, rfl, x1, x2, x3⟩, hsb, -⟩ := hp; have HSb := Lib.hid hsb; clear hsb)
          try (go_wp2_with fail)
          refine hK.out _ _ (HLP.out _ HSb.out.rd.pv) (fun hHeld10 => ?_)
          clear hK K
          try simp only [Act.put, List.setIfInBounds_toArray, List.set_cons_zero, List.set_cons_succ]
          refine wpAnyH_take (i := 5) (oi := ({ dst := some 15, op := Go.Op.field 42 (Go.Operand.tmp 14) 1, type := 9, pos := "grammar.go:31", after := #[{ on := 4, ground := Go.Ground.data }], guard := none } : Go.Oper)) (v := ?_) rfl (by kernel_rfl) (by kernel_rfl) (by kernel_rfl) (fun _ _ _ h => h) (Or.inl ⟨by rfl, ?_⟩) (by assumption) ?_
          rotate_left 1
          · intro w hSw; (try dsimp only at hSw); first | (go_simp; done) | (go_simp; with_reducible rfl)
          try simp only [Act.put, List.setIfInBounds_toArray, List.set_cons_zero, List.set_cons_succ]
          refine wpAnyH_ready (rs := [6]) (by kernel_rfl) (by simp) ?_
          refine AllReadyH.cons (o := ({ dst := some 16, op := Go.Op.call { callee := Go.Callee.value (Go.Operand.func 114), args := #[Go.Operand.tmp 10, Go.Operand.tmp 15], argTypes := #[138, 9] }, type := 3, pos := "grammar.go:31", after := #[{ on := 0, ground := Go.Ground.data }, { on := 5, ground := Go.Ground.data }, { on := 4, ground := Go.Ground.chain }], guard := none } : Go.Oper)) rfl (fun K hK => ?_) AllReadyH.nil
          go_simp
          (go_at_call 114; (with_reducible refine (HPL.out xt _).mono ?_); rintro e wc ⟨rfl, fc⟩; have HSc := Lib.hid (HSb.out.no fc); clear fc)
          rw [HN.out]
          try (go_wp2_with fail)
          refine hK.out _ _ (HLP.out _ HSc.out.rd.pv) (fun hHeld11 => ?_)
          clear hK K
          try simp only [Act.put, List.setIfInBounds_toArray, List.set_cons_zero, List.set_cons_succ]
          refine wpAnyH_take (i := 7) (oi := ({ dst := some 17, op := Go.Op.build 45 #[(0, Go.Operand.tmp 16)], type := 45, pos := "grammar.go:31", after := #[{ on := 6, ground := Go.Ground.data }], guard := none } : Go.Oper)) (v := ?_) rfl (by kernel_rfl) (by kernel_rfl) (by kernel_rfl) (fun _ _ _ h => h) (Or.inl ⟨by rfl, ?_⟩) (by assumption) ?_
          rotate_left 1
          · intro w hSw; (try dsimp only at hSw); first | (go_simp; done) | (go_simp; with_reducible rfl)
          try simp only [Act.put, List.setIfInBounds_toArray, List.set_cons_zero, List.set_cons_succ]
          refine wpAnyH_ready (rs := [9]) (by kernel_rfl) (by simp) ?_
          refine AllReadyH.cons (o := ({ dst := none, op := Go.Op.store 45 (Go.Operand.tmp 3) (Go.Operand.tmp 17), type := 0, pos := "grammar.go:31", after := #[{ on := 8, ground := Go.Ground.data }, { on := 7, ground := Go.Ground.data }, { on := 6, ground := Go.Ground.chain }, { on := 0, ground := Go.Ground.phase }, { on := 1, ground := Go.Ground.phase }, { on := 2, ground := Go.Ground.phase }, { on := 3, ground := Go.Ground.phase }, { on := 4, ground := Go.Ground.phase }, { on := 5, ground := Go.Ground.phase }, { on := 6, ground := Go.Ground.phase }, { on := 7, ground := Go.Ground.phase }, { on := 8, ground := Go.Ground.phase }], guard := none } : Go.Oper)) rfl (fun K hK => ?_) AllReadyH.nil
          have z0 : wc.cell? ⟨z, 0, none⟩ = some (.int .i64 0) := HSc.out.j.2.cell 0
          have z1 : wc.cell? ⟨z, 1, none⟩ = some (.string ⟨#[]⟩) := HSc.out.j.2.cell 1
          have x0 := HSc.out.j.2.frozen 0
          have x1 := HSc.out.j.2.frozen 1
          have HSd := Lib.hid (HSc.out.put (wj := (wc.setCell ⟨z, 0, none⟩ (.int .i64 (N : Nat))).setCell ⟨z, 1, none⟩ (.string ⟨#[]⟩)) (J' := fun x => (Tr x ∧ Blk x y 45 #[.int .i64 0, .string ⟨#[]⟩]) ∧ Blk x z 45 #[.int .i64 (N : Nat), .string ⟨#[]⟩]) (fr_set (fr_set (Fr.refl _ _))) HZW.out HD.out HG.out ⟨⟨trivial, HSc.out.j.1.2.of ((fr_set (fr_set (Fr.refl (fun k => k = z) _))).block _ HSc.out.j.1.2.lt HYZ.out)⟩, (HSc.out.j.2.set_ 0 _).set_ 1 _⟩ (stable_and (stable_and (stable_tr C) (stable_blk HYD.out)) (stable_blk (by have h1 := HD.out; have h2 := HZW.out; omega))))
          go_simp
          refine hK.out _ _ (HLP.out _ HSd.out.rd.pv) (fun hHeld12 => ?_)
          clear hK K
          try simp only [Act.put, List.setIfInBounds_toArray, List.set_cons_zero, List.set_cons_succ]
          refine wpAnyH_done (by kernel_rfl) ?_ _
          go_wp2_with fail
          go_meet
          exact ⟨z, rfl, HZW.out, HYZ.out, HSd.out⟩
        refine AllReadyH.cons (o := ({ dst := some 3, op := Go.Op.alloc 45, type := 0, pos := "grammar.go:31", after := #[], guard := none } : Go.Oper)) rfl (fun K hK => ?_) AllReadyH.nil
        go_simp
        obtain ⟨z, hz⟩ : ∃ z, w3.heap.size = z := ⟨_, rfl⟩
        obtain ⟨wz, hwz⟩ : ∃ wz, w3.alloc (.cells #[.int .i64 0, .string ⟨#[]⟩] 45) = wz := ⟨_, rfl⟩
        have fz : Fr No w3 wz := by rw [← hwz]; exact (Fr.refl No _).alloc _
        have hbz : Blk wz z 45 #[.int .i64 0, .string ⟨#[]⟩] := by rw [← hwz, ← hz]; exact Blk.new _ 45 _
        have hzw : w.heap.size ≤ z := by rw [← hz]; exact HS3.out.fr.size
        have hyz : y ≠ z := by have := HS3.out.j.2.lt; omega
        have HSz := Lib.hid ((HS3.out.no fz).more hbz (stable_blk (by have := HD.out; omega)))
        have HFZ := Lib.hid fz
        have HZW := Lib.hid hzw
        have HYZ := Lib.hid hyz
        rw [hz, hwz]
        clear hz hwz fz hbz hzw hyz
        refine hK.out _ _ (HLP.out _ HSz.out.rd.pv) (fun hHeld13 => ?_)
        clear hK K
        try simp only [Act.put, List.setIfInBounds_toArray, List.set_cons_zero, List.set_cons_succ]
        refine wpAnyH_ready (rs := [3]) (by kernel_rfl) (by simp) ?_
        refine AllReadyH.cons (o := ({ dst := some 13, op := Go.Op.call { callee := Go.Callee.value (Go.Operand.func 115), args := #[Go.Operand.tmp 12], argTypes := #[138] }, type := 98, pos := "grammar.go:31", after := #[{ on := 2, ground := Go.Ground.data }], guard := none } : Go.Oper)) rfl (fun K hK => ?_) AllReadyH.nil
        go_simp
        (go_at_call 115; (with_reducible refine (HAM.out _).mono ?_); rintro e wa ⟨⟨mv2, rfl, hm⟩, fa⟩; have HSa := Lib.hid (HSz.out.no fa); have HMT := Lib.hid hm; clear fa hm)
        try (go_wp2_with fail)
        refine hK.out _ _ (HLP.out _ HSa.out.rd.pv) (fun hHeld14 => ?_)
        clear hK K
        try simp only [Act.put, List.setIfInBounds_toArray, List.set_cons_zero, List.set_cons_succ]
        refine wpAnyH_ready (rs := [4]) (by kernel_rfl) (by simp) ?_
        refine AllReadyH.cons (o := ({ dst := some 14, op := Go.Op.call { callee := Go.Callee.value (Go.Operand.func 67), args := #[Go.Operand.tmp 11, Go.Operand.tmp 13], argTypes := #[92, 98] }, type := 42, pos := "grammar.go:31", after := #[{ on := 1, ground := Go.Ground.data }, { on := 3, ground := Go.Ground.data }, { on := 3, ground := Go.Ground.chain }], guard := none } : Go.Oper)) rfl (fun K hK => ?_) AllReadyH.nil
        go_simp
        have HNN := Lib.hid (HNEED.out _ _ _ HSa.out HMT.out)
        (go_at_call 67; (with_reducible refine HNN.out.mono ?_); rintro e wb hp; obtain ⟨⟨v, rfl, rfl, x1, x2, x3⟩, hsb, -⟩ := hp; have HSb := Lib.hid hsb; clear hsb)
        try (go_wp2_with fail)
        refine hK.out _ _ (HLP.out _ HSb.out.rd.pv) (fun hHeld15 => ?_)
        clear hK K
        try simp only [Act.put, List.setIfInBounds_toArray, List.set_cons_zero, List.set_cons_succ]
        refine wpAnyH_take (i := 5) (oi := ({ dst := some 15, op := Go.Op.field 42 (Go.Operand.tmp 14) 1, type := 9, pos := "grammar.go:31", after := #[{ on := 4, ground := Go.Ground.data }], guard := none } : Go.Oper)) (v := ?_) rfl (by kernel_rfl) (by kernel_rfl) (by kernel_rfl) (fun _ _ _ h => h) (Or.inl ⟨by rfl, ?_⟩) (by assumption) ?_
        rotate_left 1
        · intro w hSw; (try dsimp only at hSw); first | (go_simp; done) | (go_simp; with_reducible rfl)
        try simp only [Act.put, List.setIfInBounds_toArray, List.set_cons_zero, List.set_cons_succ]
        refine wpAnyH_ready (rs := [6]) (by kernel_rfl) (by simp) ?_
        refine AllReadyH.cons (o := ({ dst := some 16, op := Go.Op.call { callee := Go.Callee.value (Go.Operand.func 114), args := #[Go.Operand.tmp 10, Go.Operand.tmp 15], argTypes := #[138, 9] }, type := 3, pos := "grammar.go:31", after := #[{ on := 0, ground := Go.Ground.data }, { on := 5, ground := Go.Ground.data }, { on := 4, ground := Go.Ground.chain }], guard := none } : Go.Oper)) rfl (fun K hK => ?_) AllReadyH.nil
        go_simp
        (go_at_call 114; (with_reducible refine (HPL.out xt _).mono ?_); rintro e wc ⟨rfl, fc⟩; have HSc := Lib.hid (HSb.out.no fc); clear fc)
        rw [HN.out]
        try (go_wp2_with fail)
        refine hK.out _ _ (HLP.out _ HSc.out.rd.pv) (fun hHeld16 => ?_)
        clear hK K
        try simp only [Act.put, List.setIfInBounds_toArray, List.set_cons_zero, List.set_cons_succ]
        refine wpAnyH_take (i := 7) (oi := ({ dst := some 17, op := Go.Op.build 45 #[(0, Go.Operand.tmp 16)], type := 45, pos := "grammar.go:31", after := #[{ on := 6, ground := Go.Ground.data }], guard := none } : Go.Oper)) (v := ?_) rfl (by kernel_rfl) (by kernel_rfl) (by kernel_rfl) (fun _ _ _ h => h) (Or.inl ⟨by rfl, ?_⟩) (by assumption) ?_
        rotate_left 1
        · intro w hSw; (try dsimp only at hSw); first | (go_simp; done) | (go_simp; with_reducible rfl)
        try simp only [Act.put, List.setIfInBounds_toArray, List.set_cons_zero, List.set_cons_succ]
        refine wpAnyH_ready (rs := [9]) (by kernel_rfl) (by simp) ?_
        refine AllReadyH.cons (o := ({ dst := none, op := Go.Op.store 45 (Go.Operand.tmp 3) (Go.Operand.tmp 17), type := 0, pos := "grammar.go:31", after := #[{ on := 8, ground := Go.Ground.data }, { on := 7, ground := Go.Ground.data }, { on := 6, ground := Go.Ground.chain }, { on := 0, ground := Go.Ground.phase }, { on := 1, ground := Go.Ground.phase }, { on := 2, ground := Go.Ground.phase }, { on := 3, ground := Go.Ground.phase }, { on := 4, ground := Go.Ground.phase }, { on := 5, ground := Go.Ground.phase }, { on := 6, ground := Go.Ground.phase }, { on := 7, ground := Go.Ground.phase }, { on := 8, ground := Go.Ground.phase }], guard := none } : Go.Oper)) rfl (fun K hK => ?_) AllReadyH.nil
        have z0 : wc.cell? ⟨z, 0, none⟩ = some (.int .i64 0) := HSc.out.j.2.cell 0
        have z1 : wc.cell? ⟨z, 1, none⟩ = some (.string ⟨#[]⟩) := HSc.out.j.2.cell 1
        have x0 := HSc.out.j.2.frozen 0
        have x1 := HSc.out.j.2.frozen 1
        have HSd := Lib.hid (HSc.out.put (wj := (wc.setCell ⟨z, 0, none⟩ (.int .i64 (N : Nat))).setCell ⟨z, 1, none⟩ (.string ⟨#[]⟩)) (J' := fun x => (Tr x ∧ Blk x y 45 #[.int .i64 0, .string ⟨#[]⟩]) ∧ Blk x z 45 #[.int .i64 (N : Nat), .string ⟨#[]⟩]) (fr_set (fr_set (Fr.refl _ _))) HZW.out HD.out HG.out ⟨⟨trivial, HSc.out.j.1.2.of ((fr_set (fr_set (Fr.refl (fun k => k = z) _))).block _ HSc.out.j.1.2.lt HYZ.out)⟩, (HSc.out.j.2.set_ 0 _).set_ 1 _⟩ (stable_and (stable_and (stable_tr C) (stable_blk HYD.out)) (stable_blk (by have h1 := HD.out; have h2 := HZW.out; omega))))
        go_simp
        refine hK.out _ _ (HLP.out _ HSd.out.rd.pv) (fun hHeld17 => ?_)
        clear hK K
        try simp only [Act.put, List.setIfInBounds_toArray, List.set_cons_zero, List.set_cons_succ]
        refine wpAnyH_done (by kernel_rfl) ?_ _
        go_wp2_with fail
        go_meet
        exact ⟨z, rfl, HZW.out, HYZ.out, HSd.out⟩
      case rest =>
        obtain ⟨z, rfl, hzw, hyz, hst⟩ := hcut
        have HZW := Lib.hid hzw
        have HYZ := Lib.hid hyz
        have HS5 := Lib.hid hst
        have HN9 : Hid (N ≤ 7) := Lib.hid (by have := HN.out; have h9 := idx_le xt callsT 0; unfold placeW at this; rw [this] at h9; have : callsT.length = 7 := rfl; omega)
        clear hzw hyz hst hfd HNEED HLP HAM HPL
        have CA := Lib.hid (all_s HS5.out [[40]] 1 rfl (by decide) #[sv [40]] rfl)
        unfold rp at CA
        go_wp2_with fail
        refine CA.out.mono ?_
        clear CA
        rintro e wf hp
        cases hR : allW [[40]] r2 b2 with
        | bad cc p =>
          rw [hR] at hp
          obtain ⟨rfl, f⟩ := hp
          have HF := Lib.hid f
          have HV : Hid (itemW r b = .bad cc p) := Lib.hid (by have q0 := E1.out; have q1 := E2.out; simp only [itemW, q0, q1, hR, PR.then, Bool.false_eq_true, if_false])
          clear hR f
          go_wp2_with fail
          exact ⟨rfl, St.bad HV.out HF.out⟩
        | ok u r3 b3 =>
          rw [hR] at hp
          obtain ⟨⟨v, rfl, rfl⟩, hs9, -⟩ := hp
          have HS6 := Lib.hid hs9
          have E3 := Lib.hid hR
          clear hR hs9
          have z0 : wf.cell? ⟨z, 0, none⟩ = some (.int .i64 (N : Nat)) := HS6.out.j.2.cell 0
          by_cases h2 : N = 2
          · have e2 : ((N : Int) == 2) = true := by rw [h2]; rfl
            have HN2 := Lib.hid h2
            clear h2
            have CA := Lib.hid (all_s HS6.out [[42]] 1 rfl (by decide) #[sv [42]] rfl)
            unfold rp at CA
            go_wp2_with fail
            refine CA.out.mono ?_
            clear CA
            rintro e wg hp
            cases hR : allW [[42]] r3 b3 with
            | bad cc p =>
              rw [hR] at hp
              obtain ⟨rfl, f⟩ := hp
              have HF := Lib.hid f
              have HV : Hid (itemW r b = .bad cc p) := Lib.hid (by have q0 := E1.out; have q1 := E2.out; have q2 := E3.out; have q3 := HN.out; have q4 := HN2.out; rw [itemW_call q0 q1 q2, q3, if_pos q4, allW_two, hR]; rfl)
              clear hR f
              go_wp2_with fail
              exact ⟨rfl, St.bad HV.out HF.out⟩
            | ok u r4 b4 =>
              rw [hR] at hp
              obtain ⟨⟨v, rfl, rfl⟩, hs9, -⟩ := hp
              have HS7 := Lib.hid hs9
              have E4 := Lib.hid hR
              clear hR hs9
              have CA := Lib.hid (all_s HS7.out [[41]] 1 rfl (by decide) #[sv [41]] rfl)
              unfold rp at CA
              go_wp2_with fail
              refine CA.out.mono ?_
              clear CA
              rintro e wh hp
              cases hR : allW [[41]] r4 b4 with
              | bad cc p =>
                rw [hR] at hp
                obtain ⟨rfl, f⟩ := hp
                have HF := Lib.hid f
                have HV : Hid (itemW r b = .bad cc p) := Lib.hid (by have q0 := E1.out; have q1 := E2.out; have q2 := E3.out; have q3 := HN.out; have q4 := HN2.out; have q5 := E4.out; rw [itemW_call q0 q1 q2, q3, if_pos q4, allW_two, q5]; simp only [PR.then, PR.map, hR])
                clear hR f
                go_wp2_with fail
                exact ⟨rfl, St.bad HV.out HF.out⟩
              | ok u r5 b5 =>
                rw [hR] at hp
                obtain ⟨⟨v, rfl, rfl⟩, hs9, -⟩ := hp
                have HS8 := Lib.hid hs9
                have E5 := Lib.hid hR
                clear hR hs9
                have HV : Hid (itemW r b = .ok ⟨2, []⟩ r5 b5) := Lib.hid (by have q0 := E1.out; have q1 := E2.out; have q2 := E3.out; have q3 := HN.out; have q4 := HN2.out; have q5 := E4.out; have q6 := E5.out; rw [itemW_call q0 q1 q2, q3, if_pos q4, allW_two, q5]; simp only [PR.then, PR.map, q6])
                clear z0 e2
                have c0 : wh.cell? ⟨z, 0, none⟩ = some (.int .i64 (N : Nat)) := HS8.out.j.2.cell 0
                have c1 : wh.cell? ⟨z, 1, none⟩ = some (.string ⟨#[]⟩) := HS8.out.j.2.cell 1
                have d0 : wh.cell? ⟨y, 0, none⟩ = some (.int .i64 0) := HS8.out.j.1.2.cell 0
                have d1 : wh.cell? ⟨y, 1, none⟩ = some (.string ⟨#[]⟩) := HS8.out.j.1.2.cell 1
                have x0 := HS8.out.j.1.2.frozen 0
                have x1 := HS8.out.j.1.2.frozen 1
                go_wp2
                refine bodyPost_ret (v := .agg #[.int .i64 (N : Nat), .string ⟨#[]⟩]) (by simp [results, Tryz.results60, go_sem, d0, d1]) rfl ?_
                exact HS8.out.okc (fr_set (fr_set (Fr.refl _ wh))) HYL.out HD.out HG.out HV.out ⟨by rw [HN2.out]; rfl, by decide, i64_of 2 (by decide)⟩
          · have e2 : ((N : Int) == 2) = false := by simp; omega
            have HN2 := Lib.hid h2
            clear h2
            have CA := Lib.hid (name_s HS6.out)
            unfold rp at CA
            go_wp2_with fail
            refine CA.out.mono ?_
            clear CA
            rintro e wg hp
            cases hR : nameW r3 b3 with
            | bad cc p =>
              rw [hR] at hp
              obtain ⟨rfl, f⟩ := hp
              have HF := Lib.hid f
              have HV : Hid (itemW r b = .bad cc p) := Lib.hid (by have q0 := E1.out; have q1 := E2.out; have q2 := E3.out; have q3 := HN.out; have q4 := HN2.out; rw [itemW_call q0 q1 q2, q3, if_neg q4]; simp only [PR.then, hR])
              clear hR f
              go_wp2_with fail
              exact ⟨rfl, St.bad HV.out HF.out⟩
            | ok t r4 b4 =>
              rw [hR] at hp
              obtain ⟨⟨v, rfl, rfl, ht8⟩, hs9, f9⟩ := hp
              have HS7 := Lib.hid hs9
              have E4 := Lib.hid hR
              have HT8 := Lib.hid ht8
              clear hR hs9 f9 ht8
              have c1 : wg.cell? ⟨z, 1, none⟩ = some (.string ⟨#[]⟩) := HS7.out.j.2.cell 1
              have x1 := HS7.out.j.2.frozen 1
              obtain ⟨wi, hwi⟩ : ∃ wi, wg.setCell ⟨z, 1, none⟩ (sv t) = wi := ⟨_, rfl⟩
              have fi : Fr (fun k => k = z) wg wi := by rw [← hwi]; exact fr_set (Fr.refl _ wg)
              have HSi := Lib.hid (HS7.out.put (J' := fun x => (Tr x ∧ Blk x y 45 #[.int .i64 0, .string ⟨#[]⟩]) ∧ Blk x z 45 #[.int .i64 (N : Nat), sv t]) fi HZW.out HD.out HG.out ⟨⟨trivial, HS7.out.j.1.2.of (fi.block _ HS7.out.j.1.2.lt HYZ.out)⟩, by rw [← hwi]; exact HS7.out.j.2.set_ 1 _⟩ (stable_and (stable_and (stable_tr C) (stable_blk HYD.out)) (stable_blk (by have h1 := HD.out; have h2 := HZW.out; omega))))
              have HWI := Lib.hid hwi
              clear hwi fi z0 e2
              go_upto_region 8 with fail
              rw [HWI.out]
              clear c1 x1
              have CA := Lib.hid (all_s HSi.out [[41]] 1 rfl (by decide) #[sv [41]] rfl)
              unfold rp at CA
              go_wp2_with fail
              refine CA.out.mono ?_
              clear CA
              rintro e wh hp
              cases hR : allW [[41]] r4 b4 with
              | bad cc p =>
                rw [hR] at hp
                obtain ⟨rfl, f⟩ := hp
                have HF := Lib.hid f
                have HV : Hid (itemW r b = .bad cc p) := Lib.hid (by have q0 := E1.out; have q1 := E2.out; have q2 := E3.out; have q3 := HN.out; have q4 := HN2.out; have q5 := E4.out; rw [itemW_call q0 q1 q2, q3, if_neg q4]; simp only [PR.then, PR.map, q5, hR])
                clear hR f
                go_wp2_with fail
                exact ⟨rfl, St.bad HV.out HF.out⟩
              | ok u r5 b5 =>
                rw [hR] at hp
                obtain ⟨⟨v, rfl, rfl⟩, hs9, -⟩ := hp
                have HS8 := Lib.hid hs9
                have E5 := Lib.hid hR
                clear hR hs9
                have HV : Hid (itemW r b = .ok ⟨(N : Nat), t⟩ r5 b5) := Lib.hid (by have q0 := E1.out; have q1 := E2.out; have q2 := E3.out; have q3 := HN.out; have q4 := HN2.out; have q5 := E4.out; have q6 := E5.out; rw [itemW_call q0 q1 q2, q3, if_neg q4]; simp only [PR.then, PR.map, q5, q6])
                have c0 : wh.cell? ⟨z, 0, none⟩ = some (.int .i64 (N : Nat)) := HS8.out.j.2.cell 0
                have c1 : wh.cell? ⟨z, 1, none⟩ = some (sv t) := HS8.out.j.2.cell 1
                have d0 : wh.cell? ⟨y, 0, none⟩ = some (.int .i64 0) := HS8.out.j.1.2.cell 0
                have d1 : wh.cell? ⟨y, 1, none⟩ = some (.string ⟨#[]⟩) := HS8.out.j.1.2.cell 1
                have x0 := HS8.out.j.1.2.frozen 0
                have x1 := HS8.out.j.1.2.frozen 1
                go_wp2
                refine bodyPost_ret (v := .agg #[.int .i64 (N : Nat), sv t]) (by simp [results, Tryz.results60, go_sem, d0, d1]) rfl ?_
                exact HS8.out.okc (fr_set (fr_set (Fr.refl _ wh))) HYL.out HD.out HG.out HV.out ⟨rfl, HT8.out, i64_of N (by have := HN9.out; omega)⟩
end Go.Proofs.YtpdfenpmnpoehaaGreatDoor
