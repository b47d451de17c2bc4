/- The list of groups: always, choices, the choosing. -/
import Derived.Test.YthejnkpnpckmbaaB8
namespace Go.Proofs.Ythejnkpnpckmbaa
open Go.RowKit Go.Maps
set_option linter.unusedVariables false

theorem mem_dl {n b : Nat} : b ∈ dl n → b < n := by
  induction n with
  | zero => intro h; cases h
  | succ n ih =>
    intro h
    rcases List.mem_cons.1 h with rfl | h
    · omega
    · have := ih h; omega
theorem esets_lt (dims : List Tx) (g : Gp) : ∀ x ∈ esets dims g, x < 64 := by
  intro x hx
  unfold esets at hx
  split at hx
  · obtain ⟨n, _, rfl⟩ := List.mem_map.1 hx
    exact uni_lt (mem_take_lt (own_lt dims _) n)
  · split at hx
    · obtain ⟨n, _, rfl⟩ := List.mem_map.1 hx
      exact uni_lt fun y hy => own_lt dims _ y (pick_mem _ _ _ hy)
    · split at hx
      · obtain ⟨s, _, rfl⟩ := List.mem_map.1 hx
        exact uni_own_lt dims s
      · exact own_lt dims _ x hx
theorem always_lt {ls : List (List Nat)} (h : ∀ l ∈ ls, ∀ x ∈ l, x < 64) : ∀ a, a < 64 → alwaysL ls a < 64 := by
  induction ls with
  | nil => intro a ha; exact ha
  | cons l ls ih =>
    intro a ha
    unfold alwaysL
    rw [List.foldl_cons]
    refine ih (fun l' h' => h l' (by simp [h'])) _ ?_
    split
    · cases l with
      | nil => exact or64 ha (by decide)
      | cons x l => exact or64 ha (h _ List.mem_cons_self x List.mem_cons_self)
    · exact ha
abbrev mp (dims : List Tx) (gs : List Gp) (j : Nat) : List (List Nat) := (gs.take j).map (esets dims)
theorem mp_succ {dims : List Tx} {gs : List Gp} {j : Nat} (h : j < gs.length) : mp dims gs (j + 1) = mp dims gs j ++ [esets dims gs[j]] := by
  unfold mp; rw [take_succ h, List.map_append]; rfl
theorem always_app (ls : List (List Nat)) (l : List Nat) (a : Nat) : alwaysL (ls ++ [l]) a = if l.length = 1 then alwaysL ls a ||| l.headD 0 else alwaysL ls a := by
  unfold alwaysL; rw [List.foldl_append]; rfl
theorem choices_app (ls : List (List Nat)) (l : List Nat) : choicesL (ls ++ [l]) = choicesL ls ++ (if l.length = 1 then [] else [l]) := by
  unfold choicesL; rw [List.filter_append]
  congr 1
  by_cases h : l.length = 1 <;> simp [h]
theorem mp_lt (dims : List Tx) (gs : List Gp) (j : Nat) : ∀ l ∈ mp dims gs j, ∀ x ∈ l, x < 64 := fun l hl x hx => by
  obtain ⟨g, _, rfl⟩ := List.mem_map.1 hl
  exact esets_lt dims g x hx
theorem choices_le (ls : List (List Nat)) : (choicesL ls).length ≤ ls.length := List.length_filter_le _ _
theorem row_len {α : Type} {K : Nat → Prop} {w : World} {size : Nat} {E : α → List Value → Prop} {v : Value} {l : List α} (h : RowE K w size E v l) : ∃ A c, v = .slice A l.length c ∧ l.length ≤ c ∧ c ≤ maxLen := by
  obtain ⟨A, c, e, h1, h2, _⟩ := h
  exact ⟨A, c, e, h1, h2⟩

set_option maxRecDepth 100000 in
set_option maxHeartbeats 2000000 in
theorem cross_any {K K2 : Nat → Prop} {dims : List Tx} {gs : List Gp} {dv v : Value} (w : World) (hD : RowE K2 w 1 (strG K2 w) dv dims) (h : RowE K w 3 (gpG K w) v gs) (hd : dims.length ≤ maxLen) (hF : ∀ g ∈ gs, GpF g ∧ esize g ≤ 64) (hl : gs.length ≤ 4194304) (hlen : (crossL dims gs).length ≤ 1000000) :
    Calls Try.prog 24 #[dv, v] w (TellsR 1 natG (crossL dims gs) w) := by
  obtain ⟨A0, cd, hdv⟩ : ∃ A0 c0, dv = .slice A0 dims.length c0 := by obtain ⟨A1, c1, e, _⟩ := hD; exact ⟨_, _, e⟩
  subst hdv
  obtain ⟨A, c, rfl, hlc, hcm, hrow⟩ := h
  obtain ⟨n, hn⟩ : ∃ n, gs.length = n := ⟨_, rfl⟩
  rw [hn] at hlc hl ⊢
  have HROW := Lib.hid hrow
  have HN := Lib.hid hn
  have HD := Lib.hid hD
  have HDL := Lib.hid hd
  have HGF := Lib.hid hF
  have HLEN := Lib.hid hlen
  unfold maxLen at hcm
  obtain ⟨B, hB⟩ : ∃ B, w.heap.size = B := ⟨_, rfl⟩
  obtain ⟨w1, hw1⟩ : ∃ w1, w.alloc (.cells #[] 22) = w1 := ⟨_, rfl⟩
  have hy1 : w1.heap.size = B + 1 := by rw [← hw1, ← hB]; simp
  obtain ⟨w2, hw2⟩ : ∃ w2, w1.alloc (.cells #[.slice (some ⟨B, 0, none⟩) 0 0] 57) = w2 := ⟨_, rfl⟩
  have f1 : Fr No w w1 := by rw [← hw1]; exact (Fr.refl No w).alloc _
  have f2 : Fr No w1 w2 := by rw [← hw2]; exact (Fr.refl No w1).alloc _
  have hbox : BoxG 57 22 B nlG (B + 1) (choicesL (mp dims gs 0)) w2 := by
    have hb2 : Blk w2 (B + 1) 57 #[.slice (some ⟨B, 0, none⟩) 0 0] := by rw [← hw2, ← hy1]; exact Blk.new w1 57 _
    have hg1 : GrowK (fun _ => False) B 22 1 nlG w1 (.slice (some ⟨B, 0, none⟩) 0 0) [] := by
      refine ⟨[], ⟨by simp, .inr ⟨B, 0, #[], rfl, Nat.le_refl _, ?_, Nat.le_refl _, by decide, by simp, by simp⟩⟩, fun j hj => absurd hj (by simp), fun k hk => hk.elim⟩
      rw [← hw1, ← hB]; exact heap_alloc_new w _
    refine ⟨by omega, some ⟨B, 0, none⟩, 0, fun _ => False, hb2, hg1.keepF nlG_elem f2 (fun _ h => h.elim) (fun _ h => h.elim), fun k hk => ?_, id⟩
    simp [Value.ownBlock] at hk; omega
  have HF2 := Lib.hid (f1.trans f2 fun _ _ h => h)
  have HBOX := Lib.hid hbox
  have HW1 := Lib.hid hw1
  have HW2 := Lib.hid hw2
  have HY1 := Lib.hid hy1
  have HB := Lib.hid hB
  clear hrow hn hD hd hF hlen hB hw1 hw2 hy1 f1 f2 hbox
  go_enter Try.func24, Try.ntmps24
  go_upto_region 2 with fail
  rw [HB.out, HW1.out]
  first | rw [HY1.out] | skip
  rw [HW2.out]
  go_wp2_with fail
  go_loopg [5, 8, 9, 15] n (fun k r5 r8 r9 r15 wr => Hid (∃ (j a : Nat), r15 = .int .i64 (j : Nat) ∧ j + k = n ∧ r5 = .int .i64 (a : Int) ∧ a = alwaysL (mp dims gs j) 0 ∧ BoxG 57 22 B nlG (B + 1) (choicesL (mp dims gs j)) wr ∧ Fr No w wr))
  case atStart => exact Lib.hid ⟨0, 0, rfl, by omega, rfl, rfl, HBOX.out, HF2.out⟩
  case round =>
  obtain ⟨j, a, rfl, hjn, rfl, ha, hbx, hf⟩ := hrel.out
  clear hrel
  have HA := Lib.hid ha
  have HBX := Lib.hid hbx
  have HF := Lib.hid hf
  have ha64 : a < 64 := by rw [ha]; exact always_lt (mp_lt dims gs j) 0 (by decide)
  clear ha hbx
  by_cases hj : j < n
  · have hji : (j : Int) < (n : Int) := by omega
    have hjl : j < gs.length := by rw [HN.out]; exact hj
    obtain ⟨g, off, rfl, hK, hg, hel⟩ := HROW.out (by omega)
    obtain ⟨cs, hcl, hcs, hE⟩ := hel j hjl
    have hgf := HGF.out _ (List.getElem_mem hjl)
    have hmp := mp_succ (dims := dims) hjl
    obtain ⟨x, hx⟩ : ∃ x, gs[j] = x := ⟨_, rfl⟩
    rw [hx] at hE hgf hmp
    obtain ⟨a0, b0, hE, h64, hRA, hRB⟩ := hE
    obtain ⟨A1, c1, rfl⟩ : ∃ A1 c1, a0 = .slice A1 x.cols.length c1 := by obtain ⟨A1, c1, e, _⟩ := hRA; exact ⟨_, _, e⟩
    obtain ⟨A2, c2, rfl⟩ : ∃ A2 c2, b0 = .slice A2 x.sets.length c2 := by obtain ⟨A2, c2, e, _⟩ := hRB; exact ⟨_, _, e⟩
    have e0 : wr.cell? ⟨g, off + j * 3, none⟩ = some (.int .i64 x.kind) := (cell_of_heap (hf.block g hg id)).trans (by have := hcs 0 (by decide); rw [hE] at this; simpa using this)
    have e1 : wr.cell? ⟨g, off + j * 3 + 1, none⟩ = some (.slice A1 x.cols.length c1) := (cell_of_heap (hf.block g hg id)).trans (by have := hcs 1 (by decide); rw [hE] at this; simpa using this)
    have e2 : wr.cell? ⟨g, off + j * 3 + 2, none⟩ = some (.slice A2 x.sets.length c2) := (cell_of_heap (hf.block g hg id)).trans (by have := hcs 2 (by decide); rw [hE] at this; simpa using this)
    obtain ⟨wn, hwn⟩ : ∃ wn, wr.alloc (.cells #[.int .i64 x.kind, .slice A1 x.cols.length c1, .slice A2 x.sets.length c2] 38) = wn := ⟨_, rfl⟩
    obtain ⟨y, hy⟩ : ∃ y, wr.heap.size = y := ⟨_, rfl⟩
    have f1 : Fr No wr wn := by rw [← hwn]; exact (Fr.refl No wr).alloc _
    have hb : Blk wn y 38 #[.int .i64 x.kind, .slice A1 x.cols.length c1, .slice A2 x.sets.length c2] := by rw [← hwn, ← hy]; exact Blk.new wr 38 _
    have m0 : wn.cell? ⟨y, 0, none⟩ = some (.int .i64 x.kind) := hb.cell 0
    have m1 : wn.cell? ⟨y, 1, none⟩ = some (.slice A1 x.cols.length c1) := hb.cell 1
    have m2 : wn.cell? ⟨y, 2, none⟩ = some (.slice A2 x.sets.length c2) := hb.cell 2
    have HWN := Lib.hid hwn
    have HY := Lib.hid hy
    have HFN := Lib.hid (hf.trans f1 fun _ _ h => h)
    have hC := esets_any x wn (HD.out.at_ strG_elem HFN.out) (hRA.at_ strG_elem HFN.out) (hRB.at_ lsG_elem HFN.out) HDL.out hgf.1 hgf.2
    have HES := Lib.hid (esets_lt dims x)
    obtain ⟨l, hl2⟩ : ∃ l, esets dims x = l := ⟨_, rfl⟩
    rw [hl2] at hC HES hmp
    have HC := Lib.hid hC
    have HA2 := Lib.hid (always_app (mp dims gs j) l 0)
    have HC2 := Lib.hid (choices_app (mp dims gs j) l)
    rw [← hmp] at HA2 HC2
    have hcl2 : (choicesL (mp dims gs j)).length ≤ j := Nat.le_trans (choices_le _) (by unfold mp; rw [List.length_map, List.length_take]; omega)
    have HCL := Lib.hid hcl2
    have HBN := Lib.hid (HBX.out.keep nlG_elem f1)
    clear hcs hcl hel hK hf hE hx hRA hRB h64 hb hwn hy f1 hgf hl2 hC hmp hcl2
    go_upto_region 5 with fail
    rw [HY.out, HWN.out]
    go_wp2_with fail
    refine HC.out.mono ?_
    rintro e w5 ⟨v5, rfl, hr5, f5⟩
    obtain ⟨A5, c5, rfl, hl5, hm5⟩ := row_len hr5
    have HF5 := Lib.hid (HFN.out.trans f5 fun _ _ h => h)
    have HBX5 := Lib.hid (HBN.out.keep nlG_elem f5)
    have HR5 := Lib.hid hr5
    have HFA := Lib.hid f5
    unfold maxLen at hm5
    by_cases h1 : l.length = 1
    · obtain ⟨u, rfl⟩ : ∃ u, l = [u] := by
        cases l with
        | nil => simp at h1
        | cons u l => cases l with
          | nil => exact ⟨u, rfl⟩
          | cons u2 l => simp at h1
      obtain ⟨A6, c6, e6, _, _, hrow6⟩ := hr5
      injection e6 with e7 e8 e9
      subst e7 e9
      obtain ⟨g6, o6, rfl, _, _, hel6⟩ := hrow6 (by simp)
      obtain ⟨cs6, _, hcs6, hE6⟩ := hel6 0 (by simp)
      have d6 : w5.cell? ⟨g6, o6, none⟩ = some (.int .i64 (u : Nat)) := by have := hcs6 0 (by decide); rw [hE6] at this; simpa using this
      have hu64 : u < 64 := HES.out u (by simp)
      obtain ⟨z, hz⟩ : ∃ z, a ||| u = z := ⟨_, rfl⟩
      have HZ : Hid (z = alwaysL (mp dims gs (j + 1)) 0) := Lib.hid (by rw [HA2.out, if_pos (show [u].length = 1 from rfl), ← hz, ← HA.out]; rfl)
      have HCH : Hid (choicesL (mp dims gs (j + 1)) = choicesL (mp dims gs j)) := Lib.hid (by rw [HC2.out, if_pos (show [u].length = 1 from rfl), List.append_nil])
      obtain ⟨w6, hw6⟩ : ∃ w6, w5.alloc (.cells #[.int .i64 (a : Int), .int .i64 (u : Int)] 3) = w6 := ⟨_, rfl⟩
      obtain ⟨y6, hy6⟩ : ∃ y, w5.heap.size = y := ⟨_, rfl⟩
      have f6 : Fr No w5 w6 := by rw [← hw6]; exact (Fr.refl No w5).alloc _
      have hb6 : Blk w6 y6 3 #[.int .i64 (a : Int), .int .i64 (u : Int)] := by rw [← hw6, ← hy6]; exact Blk.new w5 3 _
      have hr6 : RowE (fun _ => True) w6 1 (natG (fun _ => True) w6) (.slice (some ⟨y6, 0, none⟩) 2 2) [a, u] := ⟨_, 2, rfl, by simp, by unfold maxLen; omega, fun _ => ⟨y6, 0, rfl, trivial, hb6.lt, fun i hi => by
        rcases i with _ | _ | i
        · exact ⟨[_], rfl, fun i hi => by obtain rfl : i = 0 := by omega
                                          exact hb6.cell 0, rfl⟩
        · exact ⟨[_], rfl, fun i hi => by obtain rfl : i = 0 := by omega
                                          exact hb6.cell 1, rfl⟩
        · simp at hi; omega⟩⟩
      have hU := union_any w6 hr6 (by intro y hy; simp at hy; rcases hy with rfl | rfl; exact ha64; exact hu64)
      rw [show uni [a, u] = z by rw [← hz]; simp [uni]] at hU
      have HU := Lib.hid hU
      have HF6 := Lib.hid (HF5.out.trans f6 fun _ _ h => h)
      have HBX6 := Lib.hid (HBX5.out.keep nlG_elem f6)
      have HW6 := Lib.hid hw6
      have HY6 := Lib.hid hy6
      clear hrow6 e8 hel6 hcs6 hE6 hz hw6 hy6 f6 hb6 hr6 hU f5 h1 hu64 ha64 HA2 HC2 hl5
      go_upto_region 7 with fail
      go_wp2_with fail
      rw [HW6.out, HY6.out]
      refine HU.out.mono ?_
      rintro e w7 ⟨rfl, f7⟩
      have HF7 := Lib.hid (HF6.out.trans f7 fun _ _ h => h)
      have HBX7 := Lib.hid (HBX6.out.keep nlG_elem f7)
      clear f7
      go_wp2_with fail
      obtain ⟨g1, rfl⟩ : ∃ g1, gk = g1 + 1 := ⟨gk - 1, by omega⟩
      go_roundg g1
      case rel => exact Lib.hid ⟨j + 1, z, by go_num, by omega, rfl, HZ.out, by rw [HCH.out]; exact HBX7.out, HF7.out⟩
      all_goals omega
    · have HZ : Hid (a = alwaysL (mp dims gs (j + 1)) 0) := Lib.hid (by rw [HA2.out, if_neg h1]; exact HA.out)
      have HCH : Hid (choicesL (mp dims gs (j + 1)) = choicesL (mp dims gs j) ++ [l]) := Lib.hid (by rw [HC2.out, if_neg h1])
      have hne : ((l.length : Int) == 1) = false := by simp; omega
      have hBW : B ≤ wn.heap.size := by have := HFN.out.size; rw [HB.out] at this; exact this
      obtain ⟨A7, c7, A8, c8, w8, k1, hrun, k2, k3, hbx8, f8⟩ := HBN.out.push (bytes := 24) nlG_elem HFA.out hBW Try.underlying57 (.slice none 0 0) (by kernel_rfl) rfl l (.slice A5 l.length c5) rfl ⟨_, rfl, rfl, HR5.out.mono (fun k hk hl => ⟨hk, rfl⟩) fun _ _ h => h⟩ (by have := HCL.out; omega) (by have := HCL.out; unfold maxLen; omega)
      have HRUN := Lib.hid hrun
      have HF8 : Hid (Fr No w (w8.setCell ⟨B + 1, 0, none⟩ (.slice A8 ((choicesL (mp dims gs j)).length + 1) c8))) := Lib.hid (HF5.out.up_base HB.out f8)
      have HBX8 := Lib.hid hbx8
      generalize l.length = ln at *
      generalize (choicesL (mp dims gs j)).length = cn at *
      clear hr5 f5 hrun hbx8 f8 h1 ha64 hBW HA2 HC2
      go_wp2_with (at_builtin; refine wpList_add rfl _ _ _ _ rfl _ _ _ _ rfl rfl (HRUN.out _) ?_)
      obtain ⟨g1, rfl⟩ : ∃ g1, gk = g1 + 1 := ⟨gk - 1, by omega⟩
      go_roundg g1
      case rel => exact Lib.hid ⟨j + 1, a, by go_num, by omega, rfl, HZ.out, by rw [HCH.out]; exact HBX8.out, HF8.out⟩
      all_goals omega
  · have hji : (n : Int) ≤ (j : Int) := by omega
    have hT : mp dims gs j = gs.map (esets dims) := by unfold mp; rw [List.take_of_length_le (by rw [HN.out]; omega)]
    have HT := Lib.hid hT
    have ha := HA.out
    have hbx := HBX.out
    rw [hT] at ha hbx
    obtain ⟨hlb, A7, c7, K7, hb7, hg7, hne7, hnk7⟩ := hbx
    obtain ⟨ls, hls⟩ : ∃ ls, choicesL (gs.map (esets dims)) = ls := ⟨_, rfl⟩
    have hcr : crossL dims gs = choose a ls := by unfold crossL; rw [← ha, hls]
    have hls64 : ∀ l ∈ ls, ∀ x ∈ l, x < 64 := fun l hl x hx => by
      rw [← hls] at hl
      have h1 := (List.mem_filter.1 hl).1
      obtain ⟨g, _, rfl⟩ := List.mem_map.1 h1
      exact esets_lt dims g x hx
    rw [hls] at hb7 hg7 hne7
    have hlen2 : (choose a ls).length ≤ 1000000 := by rw [← hcr]; exact HLEN.out
    obtain ⟨y, hy⟩ : ∃ y, wr.heap.size = y := ⟨_, rfl⟩
    obtain ⟨wa, hwa⟩ : ∃ wa, wr.alloc (.cells #[] 3) = wa := ⟨_, rfl⟩
    have hya : wa.heap.size = y + 1 := by rw [← hwa, ← hy]; simp
    obtain ⟨wb, hwb⟩ : ∃ wb, wa.alloc (.cells #[.slice (some ⟨y, 0, none⟩) 0 0] 22) = wb := ⟨_, rfl⟩
    have hyb : wb.heap.size = y + 1 + 1 := by rw [← hwb]; simp [hya]
    obtain ⟨wc, hwc⟩ : ∃ wc, wb.alloc (.cells #[chv (B + 1) (y + 1) (y + 1 + 1)] 59) = wc := ⟨_, rfl⟩
    have fa : Fr No wr wa := by rw [← hwa]; exact (Fr.refl No wr).alloc _
    have fb : Fr No wa wb := by rw [← hwb]; exact (Fr.refl No wa).alloc _
    have fc : Fr No wb wc := by rw [← hwc]; exact (Fr.refl No wb).alloc _
    have fac : Fr No wr wc := (fa.trans fb fun _ _ h => h).trans fc fun _ _ h => h
    have hBy : B ≤ y := by have := hf.size; rw [HB.out, hy] at this; exact this
    have hB1y : B + 1 < y := by rw [← hy]; exact hb7.lt
    have hcs : CS (fun k => k < y ∨ k = y + 1 + 1) (B + 1) (y + 1) (y + 1 + 1) B ls [] wc := by
      have hwcs : wc.heap.size = y + 1 + 1 + 1 := by rw [← hwc]; simp [hyb]
      have hrow7 := (hg7.grow.row nlG_elem).at_ nlG_elem fac
      refine ⟨⟨A7, c7, hb7.of (fac.block _ hb7.lt id), ?_⟩, by rw [← hwc, ← hyb]; exact Blk.new wb 59 _, ⟨some ⟨y, 0, none⟩, 0, ?_, ?_, fun k hk => ?_⟩, ⟨.inl hB1y, .inr rfl, by omega⟩, fun k hk => by omega, by omega⟩
      · refine RowE.mono (((hg7.rowX nlG_elem hy)).at_ nlG_elem fac) (fun k hk hl => ⟨.inl hk, rfl⟩) fun x cs hx => nlG_elem.mono _ _ _ _ _ _ hx fun k hk hl => ⟨.inl hk, rfl⟩
      · have hbb : Blk wb (y + 1) 22 #[.slice (some ⟨y, 0, none⟩) 0 0] := by rw [← hwb, ← hya]; exact Blk.new wa 22 _
        exact hbb.of (fc.block _ hbb.lt id)
      · have hga : Grow y 3 1 natG wa (.slice (some ⟨y, 0, none⟩) 0 0) [] := by rw [← hwa, ← hy]; exact Grow.empty _ 3 1 natG wr (Nat.le_refl _) #[] rfl
        exact (hga.base hBy).keep natG_elem (fb.trans fc fun _ _ h => h) fun _ h => h.elim
      · simp [Value.ownBlock] at hk; omega
    have hcall := choose_any (X := fun k => k < y ∨ k = y + 1 + 1) (cb := B + 1) (lb := y + 1) (fb := y + 1 + 1) (b0 := B) (ls := ls) ls 0 a [] wc rfl (Nat.zero_le _) ha64 hls64 (by simpa using hlen2) hcs
    have d0 : wc.cell? ⟨y + 1 + 1, 0, none⟩ = some (chv (B + 1) (y + 1) (y + 1 + 1)) := hcs.fn.cell 0
    have HCALL := Lib.hid hcall
    have HCR := Lib.hid hcr
    have HFC := Lib.hid (hf.trans fac fun _ _ h => h)
    have HYR := Lib.hid hy
    have HWA := Lib.hid hwa
    have HWB := Lib.hid hwb
    have HWC := Lib.hid hwc
    have HYA := Lib.hid hya
    have HYB := Lib.hid hyb
    have HYF : Hid (w.heap.size ≤ y) := Lib.hid (by rw [HB.out]; exact hBy)
    have hmf : ∀ (fn : Fn) (first cap : Array Value) (w : World), (Instr.makeFunc fn first cap).run Try.prog w = .ok (.func fn first cap) w := fun _ _ _ _ => rfl
    clear hT ha hb7 hg7 hne7 hnk7 hls hcr hls64 hlen2 hy hwa hya hwb hyb hwc fa fb fc fac hBy hB1y hcs hcall hf ha64 hlb HA HBX HT
    go_wp2_with fail
    rw [HYR.out, HWA.out, HWB.out, HWC.out]
    refine HCALL.out.mono ?_
    rintro e w9 ⟨rfl, hcs9, f9⟩
    obtain ⟨A9, c9, hb9, hg9, _⟩ := hcs9.li
    have d9 : w9.cell? ⟨y + 1, 0, none⟩ = some (.slice A9 ([] ++ choose a ls).length c9) := hb9.cell 0
    have HF9 : Hid (Fr No w w9) := Lib.hid ⟨f9.os.trans HFC.out.os, f9.tape.trans HFC.out.tape, f9.output.trans HFC.out.output, Nat.le_trans HFC.out.size f9.size, fun k hk _ => by
      have h1 := HFC.out.size
      have h2 := HYF.out
      exact (f9.block k (by omega) fun hn => hn (.inl (by omega))).trans (HFC.out.block k hk id)⟩
    have HQ : Hid (TellsR 1 natG (crossL dims gs) w (.returned (.slice A9 ([] ++ choose a ls).length c9)) w9) := Lib.hid (by
      rw [HCR.out]
      have := hg9.tells natG_elem HB.out.symm HF9.out
      exact this)
    generalize ([] ++ choose a ls).length = m9 at *
    clear hcs9 f9 hb9 hg9
    go_wp2_with fail
    go_ret
    exact HQ.out
end Go.Proofs.Ythejnkpnpckmbaa
