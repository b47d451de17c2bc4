/- sound: facts of two dimensions and a measure, of any; walked. -/
import Derived.Test.YtmaeejojmbibnaaJ2
import Derived.Test.YtmaeejojmbibnaaRA
import Derived.Deep.RegionHeld3
namespace Go.Proofs.Ytmaeejojmbibnaa
open Go.RowKit Go.Maps
set_option linter.unusedVariables false

theorem Fr.cell_no' {w w' : World} (f : Fr No w w') {a o : Nat} {v : Value} (h : w.cell? ⟨a, o, none⟩ = some v) : w'.cell? ⟨a, o, none⟩ = some v :=
  (cell_of_heap (f.block a (World.block_lt_of_cell? _ _ h) id)).trans h
/-- A law's row of facts that read blocks below B. -/
def SL (B hr : Nat) (w : World) (v : Value) (l : List FactP) : Prop := ∃ cells, w.ownsRow hr 51 2 v l.length cells ∧ l.length ≤ 64 ∧ (∀ f ∈ l, f.Fits 2 1) ∧ ∀ i (hi : i < l.length), ∃ dv mv, cells[i * 2]? = some dv ∧ cells[i * 2 + 1]? = some mv ∧ RowE (Bel B) w 1 strE dv l[i].dims ∧ RowE (Bel B) w 1 intE mv l[i].meas
section
variable {B hr : Nat} {w w' : World} {v : Value} {l : List FactP}
theorem SL.nil (B hr : Nat) (w : World) : SL B hr w (.slice none 0 0) [] := ⟨[], World.ownsRow_nil _ _ _ _, by simp, by simp, fun i hi => absurd hi (by simp)⟩
theorem SL.keep (h : SL B hr w v l) (hf : Fr No w w') : SL B hr w' v l := by
  obtain ⟨cells, o, hl, hft, h⟩ := h
  refine ⟨cells, own_of o fun k hk => hf.block k (o.lt k hk).2 id, hl, hft, fun i hi => ?_⟩
  obtain ⟨dv, mv, c1, c2, r1, r2⟩ := h i hi
  exact ⟨dv, mv, c1, c2, r1.of hf.size (fun k hk hlt => ⟨hk, hf.block k hlt id⟩) fun _ _ _ h => h, r2.of hf.size (fun k hk hlt => ⟨hk, hf.block k hlt id⟩) fun _ _ _ h => h⟩
theorem SL.facts (h : SL B hr w v l) : Facts (fun k => k < B ∨ (hr ≤ k ∧ k < w.heap.size)) w v l := by
  obtain ⟨cells, o, hl, hft, h⟩ := h
  obtain ⟨A, c, e⟩ := own_form o
  refine ⟨A, c, e, by unfold maxLen; omega, fun hp => ?_⟩
  obtain ⟨g, c', h1, _, h2⟩ := o.form hp
  rw [h1] at e
  injection e with e1 e2 e3
  rw [h1] at o
  refine ⟨g, 0, e1.symm, .inr ⟨(o.lt g rfl).1, (o.lt g rfl).2⟩, (o.lt g rfl).2, fun j hj => ?_⟩
  obtain ⟨dv, mv, c1, c2, r1, r2⟩ := h j hj
  refine ⟨[dv, mv], rfl, fun i hi => ?_, dv, mv, rfl, r1.of (Nat.le_refl _) (fun k hk _ => ⟨.inl hk, rfl⟩) fun _ _ _ h => h, r2.of (Nat.le_refl _) (fun k hk _ => ⟨.inl hk, rfl⟩) fun _ _ _ h => h⟩
  rw [Nat.zero_add]
  refine (o.cellAt (j * 2 + i) (by omega)).trans ?_
  have : i = 0 ∨ i = 1 := by omega
  rcases this with rfl | rfl
  · exact c1
  · exact c2
theorem SL.push {wa w3 : World} {v' dv mv : Value} {f : FactP} {xs : List Value} (hBr : B ≤ hr) (ho : w.ownsRow hr 51 2 v l.length xs) (hl : l.length < 64) (hft : ∀ f ∈ l, f.Fits 2 1)
    (h : ∀ i (hi : i < l.length), ∃ dv mv, xs[i * 2]? = some dv ∧ xs[i * 2 + 1]? = some mv ∧ RowE (Bel B) w 1 strE dv l[i].dims ∧ RowE (Bel B) w 1 intE mv l[i].meas)
    (rd : RowE (Bel B) w 1 strE dv f.dims) (rm : RowE (Bel B) w 1 intE mv f.meas) (hf : f.Fits 2 1) (fa : Fr No w wa) (hg : wa.grownBy w3 v.ownBlock)
    (ho3 : w3.ownsRow hr 51 2 v' (l.length + 1) (xs ++ [dv, mv])) : SL B hr w3 v' (l ++ [f]) := by
  have hfr : Fr (fun k => v.ownBlock = some k) w w3 := (fa.any).grown hg fun k hk _ => hk
  have hoff : ∀ k, Bel B k → k < w.heap.size → Bel B k ∧ w3.heap[k]? = w.heap[k]? := fun k hk hlt => ⟨hk, hfr.block k hlt fun e => by
    have := (ho.lt k e).1
    unfold Bel at hk
    omega⟩
  have hxs : xs.length = l.length * 2 := ho.1
  refine ⟨xs ++ [dv, mv], by rw [List.length_append, List.length_singleton]; exact ho3, by simp; omega, fun g hg => (List.mem_append.1 hg).elim (hft g) fun e => by rw [List.mem_singleton.1 e]; exact hf, fun i hi => ?_⟩
  by_cases e : i < l.length
  · obtain ⟨dv', mv', c1, c2, r1, r2⟩ := h i e
    have el : (l ++ [f])[i] = l[i] := by rw [List.getElem_append_left e]
    rw [el]
    refine ⟨dv', mv', ?_, ?_, r1.of hfr.size hoff fun _ _ _ h => h, r2.of hfr.size hoff fun _ _ _ h => h⟩
    · rw [List.getElem?_append_left (by omega)]; exact c1
    · rw [List.getElem?_append_left (by omega)]; exact c2
  · have hi' : i < l.length + 1 := by simpa using hi
    obtain rfl : i = l.length := by omega
    have el : (l ++ [f])[l.length] = f := by simp
    rw [el]
    refine ⟨dv, mv, ?_, ?_, rd.of hfr.size hoff fun _ _ _ h => h, rm.of hfr.size hoff fun _ _ _ h => h⟩
    · rw [List.getElem?_append_right (by omega), hxs, Nat.sub_self]; rfl
    · rw [List.getElem?_append_right (by omega), hxs, Nat.add_sub_cancel_left]; rfl
end
theorem RowE.take {α : Type} {K : Nat → Prop} {w : World} {size : Nat} {E : α → List Value → Prop} {A : Option Addr} {n c : Nat} {l : List α} (h : RowE K w size E (.slice A n c) l) (k : Nat) (hk : k ≤ l.length) : RowE K w size E (.slice A k c) (l.take k) := by
  obtain ⟨A', c', e, hm, h⟩ := h
  injection e with e1 e2 e3
  subst e1; subst e3
  refine ⟨A, c, by rw [List.length_take, Nat.min_eq_left hk], by rw [List.length_take]; omega, fun hl => ?_⟩
  rw [List.length_take] at hl
  obtain ⟨g, off, e4, hg, hlt, h⟩ := h (by omega)
  refine ⟨g, off, e4, hg, hlt, fun j hj => ?_⟩
  rw [List.length_take] at hj
  obtain ⟨cs, x1, x2, x3⟩ := h j (by omega)
  exact ⟨cs, x1, x2, by rw [List.getElem_take]; exact x3⟩
theorem two_of {α : Type} {D : List α} (h : 2 ≤ D.length) : ∃ a b D', D = a :: b :: D' := by
  match D, h with
  | a :: b :: D', _ => exact ⟨a, b, D', rfl⟩
theorem one_of {α : Type} {D : List α} (h : 1 ≤ D.length) : ∃ a D', D = a :: D' := by
  match D, h with
  | a :: D', _ => exact ⟨a, D', rfl⟩
def SoundQ (B : Nat) (w : World) (e : Ending) (w' : World) : Prop := ∃ A c L, e = .returned (.slice A L.length c) ∧ SL B w.heap.size w' (.slice A L.length c) L ∧ Fr No w w'
/-- What is so in sound's loop. -/
def Sdn (B hr : Nat) (w0 : World) (A : Option Addr) (k c : Nat) (w : World) : Prop := ∃ L, L.length = k ∧ SL B hr w (.slice A k c) L ∧ Fr No w0 w
set_option maxRecDepth 100000 in
set_option maxHeartbeats 8000000 in
theorem sound_any (B : Nat) (w : World) (hB : B ≤ w.heap.size) (lv : Value) (l : List FactP) (hl : FactsC (Bel B) w lv l) : Calls Try.prog 22 #[lv] w (SoundQ B w) := by
  obtain ⟨A0, c0, rfl⟩ := hl.1.slice
  obtain ⟨n, hn⟩ : ∃ n, l.length = n := ⟨_, rfl⟩
  have hmx := hl.1.len_le
  unfold maxLen at hmx
  rw [hn] at hmx ⊢
  obtain ⟨hr, hhr⟩ : ∃ hr, w.heap.size = hr := ⟨_, rfl⟩
  have HHR := Lib.hid hhr
  have HEND : Hid (∀ A k c w', Sdn B hr w A k c w' → SoundQ B w (.returned (.slice A k c)) w') := Lib.hid fun A k c w' h => by
    obtain ⟨L, rfl, h1, h2⟩ := h
    exact ⟨A, c, L, rfl, by rw [hhr]; exact h1, h2⟩
  have HST : Hid (Sdn B hr w none 0 0 w) := Lib.hid ⟨[], rfl, SL.nil _ _ _, Fr.refl _ _⟩
  have HL := Lib.hid hl
  have HN := Lib.hid hn
  have hBr : B ≤ hr := by omega
  obtain ⟨i0, hi0, hz0, hz1, hz2⟩ := info_parts info51
  clear hl hn hhr hB
  go_enter Try.func22, Try.ntmps22
  go_wp2
  go_loopw [3, 4] (fun ov iv wr => ∃ (i : Nat) (A : Option Addr) (k c : Nat), i ≤ n ∧ k ≤ 64 ∧ iv = .int .i64 i ∧ ov = .slice A k c ∧ Hid (Sdn B hr w A k c wr)) (fun _ iv _ => n - (intOf iv).toNat)
  case atStart => exact ⟨0, none, 0, 0, by omega, by omega, rfl, rfl, HST⟩
  case round =>
    obtain ⟨i, A, k, c, hi, hk, rfl, rfl, HI⟩ := hrel
    clear HST
    by_cases hlt : i < n
    · by_cases hk64 : k < 64
      · have hfr : Fr No w wr := by obtain ⟨L, _, _, h⟩ := HI.out; exact h
        have hil : i < l.length := by rw [HN.out]; exact hlt
        obtain ⟨g, off, c', e, hg, hgl, hcell⟩ := RowE.at_ HL.out.1 (by omega)
        injection e with e eb ec
        subst e
        clear eb ec
        obtain ⟨cs, hcl, hcs, dv, mv, rfl, rd, rm⟩ := hcell i hil
        have x0 : wr.cell? ⟨g, off + i * 2, none⟩ = some dv := hfr.cell_no' ((hcs 0 (by omega)).trans rfl)
        have x1 : wr.cell? ⟨g, off + i * 2 + 1, none⟩ = some mv := hfr.cell_no' ((hcs 1 (by omega)).trans rfl)
        have rdx : RowC (Bel B) wr 1 strE dv l[i].dims := rd.of hfr.size (fun k hk hlt => ⟨hk, hfr.block k hlt id⟩) fun _ _ _ h => h
        have rmx : RowC (Bel B) wr 1 intE mv l[i].meas := rm.of hfr.size (fun k hk hlt => ⟨hk, hfr.block k hlt id⟩) fun _ _ _ h => h
        obtain ⟨A1, c1, rfl⟩ := rdx.1.slice
        obtain ⟨A2, c2, rfl⟩ := rmx.1.slice
        have hc1 := rdx.2 _ _ _ rfl
        have hc2 := rmx.2 _ _ _ rfl
        have hd1 := rdx.1.len_le
        have hd2 := rmx.1.len_le
        unfold maxLen at hd1 hd2
        have HRD := Lib.hid rdx
        have HRM := Lib.hid rmx
        have hgB : g < B := hg
        have HGB := Lib.hid hgB
        obtain ⟨D, hD⟩ : ∃ D, l[i].dims = D := ⟨_, rfl⟩
        obtain ⟨E, hE⟩ : ∃ E, l[i].meas = E := ⟨_, rfl⟩
        rw [hD] at x0 hc1 hd1 HRD
        rw [hE] at x1 hc2 hd2 HRM
        clear hcs hcl rd rm rdx rmx hfr hg hgl hcell hgB hD hE
        obtain ⟨d, hdl⟩ : ∃ d, D.length = d := ⟨_, rfl⟩
        obtain ⟨m, hml⟩ : ∃ m, E.length = m := ⟨_, rfl⟩
        have HDL := Lib.hid hdl
        have HML := Lib.hid hml
        rw [hdl] at x0 hc1 hd1 HRD
        rw [hml] at x1 hc2 hd2 HRM
        clear hdl hml
        by_cases h2 : 2 ≤ d
        · by_cases h1 : 1 ≤ m
          · obtain ⟨g1, o1, cc, e, hg1, _, hc⟩ := texts_at HRD.out.1 (by rw [HDL.out]; omega)
            injection e with e eb ec
            subst e
            clear eb ec
            obtain ⟨ta, tb, D', hDe⟩ := two_of (D := D) (by rw [HDL.out]; exact h2)
            subst hDe
            have t0 : wr.cell? ⟨g1, o1, none⟩ = some (encT ta) := hc 0 (by simp)
            have t1 : wr.cell? ⟨g1, o1 + 1, none⟩ = some (encT tb) := hc 1 (by simp)
            obtain ⟨_, _, _, ee, _, _, hx⟩ := RowE.at_ HRD.out.1 (by simp)
            clear ee
            have ht0 : ta.length ≤ maxLen := by
              obtain ⟨_, _, _, hy⟩ := hx 0 (by simp)
              exact hy.2
            have ht1 : tb.length ≤ maxLen := by
              obtain ⟨_, _, _, hy⟩ := hx 1 (by simp)
              exact hy.2
            have hs0 : (⟨ta.toArray⟩ : ByteArray).size = ta.length := by simp [ByteArray.size]
            have hs1 : (⟨tb.toArray⟩ : ByteArray).size = tb.length := by simp [ByteArray.size]
            unfold encT at t0 t1
            unfold maxLen at ht0 ht1
            obtain ⟨z0, hz0'⟩ : ∃ z, ta.length = z := ⟨_, rfl⟩
            obtain ⟨z1, hz1'⟩ : ∃ z, tb.length = z := ⟨_, rfl⟩
            have HZ0 := Lib.hid hz0'
            have HZ1 := Lib.hid hz1'
            rw [hz0'] at hs0 ht0
            rw [hz1'] at hs1 ht1
            clear hz0' hz1' hc hx
            generalize (⟨ta.toArray⟩ : ByteArray) = b0 at *
            generalize (⟨tb.toArray⟩ : ByteArray) = b1 at *
            by_cases q0 : z0 ≤ 64
            · have q0' : b0.size ≤ 64 := by omega
              by_cases q1 : z1 ≤ 64
              · have q1' : b1.size ≤ 64 := by omega
                obtain ⟨e0, E', hEe⟩ := one_of (D := E) (by rw [HML.out]; exact h1)
                subst hEe
                obtain ⟨L, hLk, hSL, hfw⟩ := HI.out
                obtain ⟨xs, ho, hL64, hfit, hop⟩ := hSL
                rw [hLk] at ho
                have rd2 : RowE (Bel B) wr 1 strE (.slice (some ⟨g1, o1, none⟩) 2 c1) [ta, tb] := HRD.out.1.take 2 (by simp)
                have rm2 : RowE (Bel B) wr 1 intE (.slice A2 1 c2) [e0] := HRM.out.1.take 1 (by simp)
                have hfitn : FactP.Fits 2 1 ⟨[ta, tb], [e0]⟩ := ⟨rfl, rfl, fun t ht => by
                  simp only [List.mem_cons, List.not_mem_nil, or_false] at ht
                  have h0 := HZ0.out
                  have h1 := HZ1.out
                  rcases ht with rfl | rfl
                  · omega
                  · omega⟩
                have HROW : Hid (∀ wx, Fr No wr wx → wx.ownsRow hr 51 2 (.slice A k c) k xs) := Lib.hid fun wx fx => own_of ho fun j hj => fx.block j (ho.lt j hj).2 id
                have HSS : Hid (∀ wx, Fr No wr wx → wx.cell? ⟨g, off + i * 2, none⟩ = some (.slice (some ⟨g1, o1, none⟩) d c1) ∧ wx.cell? ⟨g, off + i * 2 + 1, none⟩ = some (.slice A2 m c2)) := Lib.hid fun wx fx => ⟨fx.cell_no' x0, fx.cell_no' x1⟩
                have hwB : B ≤ wr.heap.size := by have h1 := HHR.out; have h2 := hfw.size; omega
                have hgw : g < wr.heap.size := by have := HGB.out; omega
                have HSG : Hid (∀ wx w3, Fr No wr wx → wx.grownBy w3 (Value.slice A k c).ownBlock → w3.cell? ⟨g, off + i * 2, none⟩ = some (.slice (some ⟨g1, o1, none⟩) d c1) ∧ w3.cell? ⟨g, off + i * 2 + 1, none⟩ = some (.slice A2 m c2)) := Lib.hid fun wx w3 fx hgr => by
                  have hne : (Value.slice A k c).ownBlock ≠ some g := fun e => by have := (ho.lt g e).1; have := HGB.out; omega
                  have e3 := (hgr.block g (Nat.lt_of_lt_of_le hgw fx.size) fun e => hne e.symm)
                  exact ⟨(cell_of_heap e3).trans (fx.cell_no' x0), (cell_of_heap e3).trans (fx.cell_no' x1)⟩
                have HFIN : Hid (∀ wx w3 g' cap, Fr No wr wx → wx.grownBy w3 (Value.slice A k c).ownBlock → w3.ownsRow hr 51 2 (.slice (some ⟨g', 0, none⟩) (k + 1) cap) (k + 1) (xs ++ [.slice (some ⟨g1, o1, none⟩) 2 c1, .slice A2 1 c2]) → Sdn B hr w (some ⟨g', 0, none⟩) (k + 1) cap w3) := Lib.hid fun wx w3 g' cap fx hgr ho3 => by
                  refine ⟨L ++ [⟨[ta, tb], [e0]⟩], by simp [hLk], SL.push (v := .slice A k c) hBr (by rw [hLk]; exact ho) (by omega) hfit hop rd2 rm2 hfitn fx hgr (by rw [hLk]; exact ho3), ?_⟩
                  refine ((hfw.nn fx).any.grown (F := Ge hr) hgr fun j hj hlt => (ho.lt j hj).1).mono fun j hj hx => ?_
                  have hx' : hr ≤ j := hx
                  have := HHR.out
                  omega
                have hbase : hr ≤ wr.heap.size := by have h1 := HHR.out; have h2 := hfw.size; omega
                have hd2' : (2 : Int) ≤ (c1 : Int) := by omega
                have hd1' : (1 : Int) ≤ (c2 : Int) := by omega
                have hn1 : 2 ≤ c1 := by omega
                have hn2 : 1 ≤ c2 := by omega
                have hi1 : (0 : Int) ≤ (i : Int) := by omega
                have hi2 : (i : Int) < (n : Int) := by omega
                clear hLk hfw ho hL64 hfit hop rd2 rm2 hfitn hwB hgw
                go_upto_region 6 with fail
                clear hs0 hs1 ht0 ht1 t0 t1 q0 q1 q0' q1' hc1 hc2 hd1 hd2
                go_region_held3 (fun w' => w'.cell? ⟨g, off + i * 2, none⟩ = some (.slice (some ⟨g1, o1, none⟩) d c1) ∧ w'.cell? ⟨g, off + i * 2 + 1, none⟩ = some (.slice A2 m c2))
                  (first | exact HSG.out _ _ (by (repeat (first | exact Fr.refl No _ | refine Fr.drew ?_ | refine Fr.alloc ?_ _))) hgrow | exact HSS.out _ (by (repeat (first | exact Fr.refl No _ | refine Fr.drew ?_ | refine Fr.alloc ?_ _))) | go_keep)
                  ((refine step_append_lies _ (by rfl) _ _ _ (by rfl) hr 51 i0 _ 2 48 Try.underlying32 hi0 hz0 hz1 hz2 rfl (by omega) (.slice A k c) _ _ (by rfl) (HROW.out _ (by (repeat (first | exact Fr.refl No _ | refine Fr.drew ?_ | refine Fr.alloc ?_ _)))) ⟨wr.heap.size, 0, none⟩ 1 1 [.slice (some ⟨g1, o1, none⟩) 2 c1, .slice A2 1 c2] (by rfl) (by rfl) (World.news_of_block (cs := #[.slice (some ⟨g1, o1, none⟩) 2 c1, .slice A2 1 c2]) (t := 51) (fr := (0, 0)) (heap_alloc_new wr _)) (by simp [Value.oneCell']) (by omega) (by unfold maxLen; omega) (by omega) (by simp; omega) _ rfl ?_; intro g' cap w3 hown3 hgrow hat hlt; have HE2 := Lib.hid (HFIN.out _ w3 g' cap (by (repeat (first | exact Fr.refl No _ | refine Fr.drew ?_ | refine Fr.alloc ?_ _))) hgrow hown3)))
                all_goals (go_simp; go_wp2_with fail)
                all_goals go_roundw
                all_goals first
                  | exact ⟨i + 1, _, k + 1, _, by omega, by omega, by go_num, rfl, HE2⟩
                  | (simp [intOf]; omega)
              · have q1' : 64 < b1.size := by omega
                have q1'' : b1.size ≤ 9223372036854775807 := by omega
                clear hs1 q1
                go_wp2
                go_roundw
                case rel => exact ⟨i + 1, A, k, c, by omega, hk, by go_num, rfl, HI⟩
                case measure => simp [intOf]; omega
            · have q0' : 64 < b0.size := by omega
              have q0'' : b0.size ≤ 9223372036854775807 := by omega
              clear hs0 q0
              go_wp2
              go_roundw
              case rel => exact ⟨i + 1, A, k, c, by omega, hk, by go_num, rfl, HI⟩
              case measure => simp [intOf]; omega
          · go_wp2
            go_roundw
            case rel => exact ⟨i + 1, A, k, c, by omega, hk, by go_num, rfl, HI⟩
            case measure => simp [intOf]; omega
        · go_wp2
          go_roundw
          case rel => exact ⟨i + 1, A, k, c, by omega, hk, by go_num, rfl, HI⟩
          case measure => simp [intOf]; omega
      · obtain rfl : k = 64 := by omega
        go_wp2
        go_ret
        exact HEND.out _ _ _ _ HI.out
    · obtain rfl : i = n := by omega
      go_wp2
      go_ret
      exact HEND.out _ _ _ _ HI.out
end Go.Proofs.Ytmaeejojmbibnaa
