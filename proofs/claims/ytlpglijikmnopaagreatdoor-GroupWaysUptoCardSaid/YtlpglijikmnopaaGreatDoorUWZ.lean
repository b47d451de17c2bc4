/- The document's key of a fact. -/
import Derived.Test.YtlpglijikmnopaaGreatDoorUPV
import Derived.Test.YtlpglijikmnopaaGreatDoorUGF
import Derived.Test.YtlpglijikmnopaaGreatDoorURK
import Derived.Test.YtlpglijikmnopaaGreatDoorUM6
import Derived.Test.YtlpglijikmnopaaGreatDoorUG31
import Derived.Test.YtlpglijikmnopaaGreatDoorUG18
import Derived.Test.YtlpglijikmnopaaGreatDoorUM4
namespace Go.Proofs.YtlpglijikmnopaaGreatDoor
open Go.RowKit Go.Maps Go.Sort Go.Proofs
set_option linter.unusedVariables false

def allIn (d : List Nat) (n : Nat) : Bool := d.all fun x => decide (x < n)
theorem allIn_last (s : Int) (n : Nat) : allIn (listB s) n = lastOk (listB s) n := by
  rw [Bool.eq_iff_iff]
  constructor
  · intro h
    unfold lastOk
    cases hx : (listB s).getLast? with
    | none => rfl
    | some x =>
      unfold allIn at h
      exact (List.all_eq_true.1 h) x (List.mem_of_getLast? hx)
  · intro h
    unfold allIn
    refine List.all_eq_true.2 fun x hx => ?_
    exact decide_eq_true (listB_last h x hx)
def TellsKO (d : List Nat) (l : List Tx) (w : World) (e : Ending) (w' : World) : Prop := (if allIn d l.length = true then ∃ A n c, e = .returned (.tuple #[.slice A n c, .bool true]) ∧ n = (namesL l d).length ∧ KR (fun k => w.heap.size ≤ k) w' (.slice A n c) (namesL l d) else e = .returned (.tuple #[.slice none 0 0, .bool false])) ∧ Fr No w w'
set_option maxRecDepth 100000 in
set_option maxHeartbeats 1000000 in
theorem keyOf_any {K : Nat → Prop} {l : List Tx} {dv mv : Value} {s : Int} (w : World) (h : KR K w dv l) (hm : ∃ A n c, mv = .slice A n c) : Calls Tryz.prog 31 #[.agg #[dv, mv], .int .i64 s] w (TellsKO (listB s) l w) := by
  obtain ⟨mA, mn, mc, rfl⟩ := hm
  obtain ⟨A, c, rfl, hlc, hcm⟩ := h.form
  obtain ⟨B, hB⟩ : ∃ B, w.heap.size = B := ⟨_, rfl⟩
  obtain ⟨w0, hw0⟩ : ∃ w0, w.alloc (.cells #[.slice A l.length c, .slice mA mn mc] 63) = w0 := ⟨_, rfl⟩
  have f0 : Fr No w w0 := by rw [← hw0]; exact (Fr.refl No w).alloc _
  have HBK : Hid (Blk w0 B 63 #[.slice A l.length c, .slice mA mn mc]) := Lib.hid (by rw [← hw0, ← hB]; exact Blk.new w 63 _)
  have HL := Lib.hid (fun w' (f : Fr No w w') => h.no f)
  have HR := Lib.hid (rlist_any s w0)
  have hd6 := listB_len s
  obtain ⟨d, hd⟩ : ∃ d, listB s = d := ⟨_, rfl⟩
  rw [hd] at HR hd6 ⊢
  obtain ⟨n, hn⟩ : ∃ n, l.length = n := ⟨_, rfl⟩
  rw [hn] at HBK HL hlc hw0
  have HN := Lib.hid hn
  have HF0 := Lib.hid f0
  have HW0 := Lib.hid hw0
  have HB := Lib.hid hB
  unfold maxLen at hcm
  clear h f0 hw0 hB hd
  rw [hn]
  clear hn
  go_enter Tryz.func31, Tryz.ntmps31
  go_upto_region 1 with fail
  rw [HW0.out, HB.out]
  go_upto_region 3 with (go_at_call 52; refine HR.out.mono ?_; rintro e w1 ⟨v1, rfl, hd1, f1⟩; obtain ⟨A2, c2, rfl⟩ : ∃ A c, v1 = .slice A d.length c := (by obtain ⟨A, n, c, e, hh⟩ := row_form hd1; exact ⟨A, c, by rw [e, hh]⟩); have HD := Lib.hid hd1; have H1 := Lib.hid f1; clear hd1 f1)
  obtain ⟨m, hm⟩ : ∃ m, d.length = m := ⟨_, rfl⟩
  rw [hm] at HD hd6 ⊢
  have HM := Lib.hid hm
  clear hm
  go_upto_region 4 with fail
  have HDD : Hid (∀ w', Fr No w1 w' → RowE (fun k => w0.heap.size ≤ k) w' 1 (natG (fun k => w0.heap.size ≤ k) w') (.slice A2 m c2) d) := Lib.hid fun w' f' => RowE.at_ natG_elem HD.out f'
  go_loopg [6, 8] m (fun gk r6 r8 wr => Hid (∃ (j a : Nat) (A3 : Option Addr) (c3 : Nat), r8 = .int .i64 (j : Nat) ∧ j + gk = m ∧ r6 = .slice A3 a c3 ∧ a = (namesL l (d.take j)).length ∧ Grow B 9 1 strG wr (.slice A3 a c3) (namesL l (d.take j)) ∧ allIn (d.take j) n = true ∧ (∀ k, (Value.slice A3 a c3).ownBlock = some k → w1.heap.size ≤ k) ∧ Fr No w1 wr))
  case atStart => exact Lib.hid ⟨0, 0, none, 0, rfl, by omega, rfl, rfl, Grow.nil_ _ _ _ _ _, rfl, (fun k hk => by cases hk), Fr.refl _ _⟩
  case round =>
  obtain ⟨j, a, A3, c3, rfl, hjm, rfl, ha, hg, hall, how, hf⟩ := hrel.out
  clear hrel
  have HA := Lib.hid ha
  have HG := Lib.hid hg
  have HF := Lib.hid hf
  have HAL := Lib.hid hall
  have HOW := Lib.hid how
  clear ha hg hf hall how
  by_cases hj : j < m
  · have hji : (j : Int) < (m : Int) := by omega
    have hjl : j < d.length := by rw [HM.out]; exact hj
    obtain ⟨A0, c0, e0, hmc, hcm2, hrow2⟩ := HDD.out wr HF.out
    injection e0 with e1 e2 e3
    subst e1 e3
    obtain ⟨g2, o2, rfl, _, hgl, hel⟩ := hrow2 (by omega)
    obtain ⟨cs, hcl, hcs, hE⟩ := hel j hjl
    have hd2 : wr.cell? ⟨g2, o2 + j, none⟩ = some (.int .i64 (d[j] : Nat)) := by have := hcs 0 (by decide); rw [hE] at this; simpa using this
    rw [HM.out] at hmc
    unfold maxLen at hcm2
    have hstep : namesL l (d.take (j + 1)) = namesL l (d.take j) ++ (match l[d[j]]? with | some t => [t] | none => []) := namesL_step hjl
    have HS := Lib.hid hstep
    have ha6 : a ≤ 1000 := by rw [HA.out]; exact Nat.le_trans (namesL_len _ _) (by rw [List.length_take]; omega)
    have HALL1 : Hid (allIn (d.take (j + 1)) n = decide (d[j] < n)) := Lib.hid (by
      have h2 := HAL.out
      unfold allIn at h2 ⊢
      rw [take_succ hjl, List.all_append, h2]
      simp)
    have HALLd : Hid (d[j] < n ∨ allIn d n = false) := Lib.hid (by
      by_cases h3 : d[j] < n
      · exact .inl h3
      · right
        unfold allIn
        rw [List.all_eq_false]
        exact ⟨d[j], List.getElem_mem hjl, by simpa using h3⟩)
    generalize d[j] = x at *
    have b0 := (HBK.out.no (H1.out.tr HF.out)).cell 0
    have HU : Hid (∀ w', Fr No wr w' → w'.cell? ⟨g2, o2 + j, none⟩ = some (.int .i64 (x : Nat)) ∧ w'.cell? ⟨B, 0, none⟩ = some (.slice A n c)) := Lib.hid fun w' f' =>
      ⟨(cell_of_heap (f'.block g2 hgl id)).trans hd2, (cell_of_heap (f'.block B (Go.World.block_lt_of_cell? wr _ b0) id)).trans b0⟩
    clear hstep hcs hel hcl hE hrow2 e2
    have z1 : ∀ dd os, (grow (redrawn wr dd) os).cell? ⟨g2, o2 + j, none⟩ = some (.int .i64 (x : Nat)) := fun dd os => cell_regrown hd2 dd os
    have z2 : ∀ dd os, (grow (redrawn wr dd) os).cell? ⟨B, 0, none⟩ = some (.slice A n c) := fun dd os => cell_regrown b0 dd os
    clear b0 hd2
    by_cases hx : x < n
    · have hxi : (x : Int) < (n : Int) := by omega
      have hxd : decide ((n : Int) ≤ (x : Int)) = false := decide_eq_false (by omega)
      have hxl : x < l.length := by rw [HN.out]; exact hx
      have HTT : Hid (namesL l (d.take (j + 1)) = namesL l (d.take j) ++ [l[x]]) := Lib.hid (by rw [HS.out, List.getElem?_eq_getElem hxl])
      obtain ⟨g4, o4, rfl, _, hgl4, hd4, hlen4⟩ := (HL.out wr (HF0.out.tr (H1.out.tr HF.out))).at_ hxl
      generalize l[x] = t at *
      have HD4 := Lib.hid (fun (w' : World) (f' : Fr No wr w') => (cell_of_heap (f'.block g4 hgl4 id)).trans hd4)
      have HAN : Hid (allIn (d.take (j + 1)) n = true) := Lib.hid (by rw [HALL1.out, decide_eq_true hx])
      clear hd4 hx
      go_upto_region 6 with fail
      refine wp_region_quiet_below mixedB (by kernel_rfl) ?_
      repeat (first | go_big_quiet_step (fail) | quiet_step (fail))
      refine wpQuiet_nil ?_
      intro wx hpx
      have HBW : Hid (Fr No wr wx) := Lib.hid (by obtain ⟨p, rfl⟩ := hpx; exact fr_reg _ _ _)
      clear hpx z1 z2
      obtain ⟨q1, q2⟩ := HU.out wx HBW.out
      have q3 := HD4.out wx HBW.out
      have HFX := Lib.hid (HF.out.tr HBW.out)
      have HPU : Hid (∀ W, Fr No wx W → ∃ A' c' w6, (∀ ty, (Builtin.append_ #[42, 42] ty #[.slice A3 a c3, .slice (some ⟨W.heap.size, 0, none⟩) 1 1]).run Tryz.prog (W.alloc (.cells #[sv t] 9)) = .ok (.slice A' (a + 1) c') w6) ∧
          Hid (a + 1 = (namesL l (d.take (j + 1))).length ∧ Grow B 9 1 strG w6 (.slice A' (a + 1) c') (namesL l (d.take (j + 1))) ∧ (∀ k, (Value.slice A' (a + 1) c').ownBlock = some k → w1.heap.size ≤ k) ∧ Fr No w1 w6)) := Lib.hid fun W fW => by
        have hfy := HFX.out.tr fW
        have hwy := HF0.out.tr (H1.out.tr hfy)
        obtain ⟨A', c', w6, hrun, hg6, -, hf6, ho6⟩ := Grow.push (bytes := 16) strG_elem (HG.out.keep strG_elem (HBW.out.tr fW) fun k hk => hk.elim) HB.out.symm hwy 42 Tryz.underlying42 (.string ⟨#[]⟩) info9 rfl t (sv t) rfl ⟨rfl, hlen4⟩ (by rw [← HA.out]; omega) (by rw [← HA.out]; unfold maxLen; omega)
        rw [← HA.out] at hrun hg6 ho6
        refine ⟨A', c', w6, hrun, Lib.hid ⟨by rw [HTT.out, List.length_append, ← HA.out]; rfl, by rw [HTT.out]; exact hg6, fun k e => ?_, hfy.trans hf6 fun k hk e => by have := HOW.out k e; omega⟩⟩
        rcases ho6 k e with h | h
        · exact HOW.out k h
        · have := hfy.size; omega
      clear hlen4
      go_upto_region 8 with fail
      go_region_law (first
        | (obtain ⟨A', c', w6, hrun, H6⟩ := HPU.out wx (Fr.refl _ _); refine step_add (by rfl) _ _ _ _ (by rfl) _ _ _ _ (by rfl) (by rfl) (hrun _) ?_)
        | (obtain ⟨A', c', w6, hrun, H6⟩ := HPU.out wx.drew (Fr.refl _ _).drew; refine step_add (by rfl) _ _ _ _ (by rfl) _ _ _ _ (by rfl) (by rfl) (hrun _) ?_))
      all_goals (go_simp; go_wp2_with fail)
      all_goals (obtain ⟨g1, rfl⟩ : ∃ g1, gk = g1 + 1 := ⟨gk - 1, by omega⟩)
      all_goals
        go_roundg g1
        case rel => exact Lib.hid ⟨j + 1, a + 1, A', c', by go_num, by omega, rfl, H6.out.1, H6.out.2.1, HAN.out, H6.out.2.2⟩
        all_goals omega
    · have hxi : (n : Int) ≤ (x : Int) := by omega
      have hxd : decide ((n : Int) ≤ (x : Int)) = true := decide_eq_true (by omega)
      have HNO : Hid (allIn d l.length = false) := Lib.hid (by
        rw [HN.out]
        rcases HALLd.out with h | h
        · exact absurd h hx
        · exact h)
      go_upto_region 6 with fail
      refine wp_region_quiet_below mixedB (by kernel_rfl) ?_
      repeat (first | go_big_quiet_step (fail) | quiet_step (fail))
      refine wpQuiet_nil ?_
      intro wx hpx
      have HBW : Hid (Fr No wr wx) := Lib.hid (by obtain ⟨p, rfl⟩ := hpx; exact fr_reg _ _ _)
      clear hpx z1 z2
      go_wp2_with fail
      go_ret2
      exact ⟨by rw [if_neg (by rw [HNO.out]; decide)]; rfl, HF0.out.tr (H1.out.tr (HF.out.tr HBW.out))⟩
  · have hji : (m : Int) ≤ (j : Int) := by omega
    have HT : Hid (d.take j = d) := Lib.hid (List.take_of_length_le (by rw [HM.out]; omega))
    have HE : Hid (TellsKO d l w (.returned (.tuple #[.slice A3 a c3, .bool true])) wr) := Lib.hid (by
      have h1 := HG.out
      have h2 := HAL.out
      have h3 := HA.out
      rw [HT.out] at h1 h2 h3
      have hfr := HF0.out.tr (H1.out.tr HF.out)
      refine ⟨?_, hfr⟩
      rw [if_pos (by rw [HN.out]; exact h2)]
      exact ⟨A3, a, c3, rfl, h3, by rw [HB.out]; exact h1.row strG_elem⟩)
    go_wp2_with fail
    go_ret2
    exact HE.out
end Go.Proofs.YtlpglijikmnopaaGreatDoor
namespace Go.Proofs.YtlpglijikmnopaaGreatDoor
open Go.RowKit Go.Maps Go.Sort Go.Proofs
set_option linter.unusedVariables false

def refM (t : Bd.Ts) (f : Fc) : Bool := if t = .none then true else testM t f
def tkE (m : Int) (es : List (Ky × List Int)) : List (Ky × Ac) := es.map fun e => (e.1, takeA (newA m) e.2)
theorem ref_grp (m : Int) {es : List (Ky × List Int)} (hes : Eok es) : grpL mergeA zA (tkE m es) = grpL takeA (newA m) es := by
  refine grp_of takeA (newA m) _ (grp_srt ..) fun k => ?_
  rw [at_grp]
  have e1 : colG (tkE m es) k = ((colG es k).map fun x => [x]).map (FT m) := by
    unfold colG tkE
    rw [List.filter_map, List.map_map, List.map_map, List.map_map]
    rfl
  rw [e1]
  refine acc_of_cs m (fun c hc => ?_) (fun c hc => ?_) ?_
  · obtain ⟨x, _, rfl⟩ := List.mem_map.1 hc
    simp
  · obtain ⟨x, hx, rfl⟩ := List.mem_map.1 hc
    intro ns hns
    rw [List.mem_singleton.1 hns]
    exact hes.col k x hx
  · have : ∀ l : List (List Int), (l.map fun x => [x]).flatten = l := fun l => by
      induction l with
      | nil => rfl
      | cons x l ih => rw [List.map_cons, List.flatten_cons, ih]; rfl
    rw [this]
theorem keyed_eok {M : Fc → Bool} {d : List Nat} {fs : List Fc} (h : Mok fs) : Eok (keyedL M d fs) := fun e he => by
  unfold keyedL at he
  obtain ⟨f, hf, rfl⟩ := List.mem_map.1 he
  exact h f (List.mem_filter.1 hf).1
/-- What has been grouped of the first facts. -/
def rgR (m : Int) (t : Bd.Ts) (d : List Nat) (fs : List Fc) (j : Nat) : List Rw := grpL mergeA zA (tkE m (keyedL (refM t) d (fs.take j)))
theorem rgR_step {m : Int} {t : Bd.Ts} {d : List Nat} {fs : List Fc} {j : Nat} (h : j < fs.length) : rgR m t d fs (j + 1) = if (lastOk d fs[j].dims.length && refM t fs[j]) = true then insG mergeA zA (rgR m t d fs j) (namesL fs[j].dims d) (takeA (newA m) fs[j].meas) else rgR m t d fs j := by
  unfold rgR
  rw [keyedL_step h]
  by_cases hc : (lastOk d fs[j].dims.length && refM t fs[j]) = true
  · rw [if_pos hc, if_pos hc]
    unfold tkE
    rw [List.map_append]
    exact grp_snoc mergeA zA _ _
  · rw [if_neg hc, if_neg hc, List.append_nil]
theorem rgR_len (m : Int) (t : Bd.Ts) (d : List Nat) (fs : List Fc) (j : Nat) : (rgR m t d fs j).length ≤ fs.length := by
  unfold rgR
  refine Nat.le_trans (grp_len _ _ _) ?_
  unfold tkE keyedL
  rw [List.length_map, List.length_map]
  exact Nat.le_trans (List.length_filter_le _ _) (by rw [List.length_take]; omega)
def NewA (w : World) (z : Ac) (e : Ending) (w' : World) : Prop := ∃ A n c, e = .returned (.agg #[.int .i64 z.count, .slice A n c]) ∧ PO w.heap.size w' (.slice A n c) z.parts ∧ Fr No w w'
theorem TellsA.new {w w1 : World} {z : Ac} {e : Ending} {w' : World} (f : Fr No w w1) (h : TellsA z w1 e w') : NewA w z e w' := by
  obtain ⟨v, rfl, hpo, hf⟩ := h
  obtain ⟨A, c, rfl, -⟩ := hpo.pr.form
  exact ⟨A, _, c, rfl, hpo.low f.size, f.tr hf⟩
/-- The case in which a key is put. -/
theorem put_w {X : Nat → Prop} {B : Nat} {A : Option Addr} {n c : Nat} {wq : World} {l : List Rw} {k : Ky} {kv : Value} {a : Ac} (hL : GrX X B 50 3 rwG wq (.slice A n c) l) (hB : B ≤ wq.heap.size) (hX : ∀ j, B ≤ j → X j) {K : Nat → Prop} (hk : KR K wq kv k) (hps : Lok a.parts) (hw : Wf l) (hkl : k.length ≤ 4000000) (hl : l.length < 4000000) (w' : World) (f : Fr No wq w') (v : Value) (hpo : PO wq.heap.size w' v a.parts) :
    Calls Tryz.prog 33 #[.slice A n c, kv, .agg #[.int .i64 a.count, v]] w' (TellsPut X B (.slice A n c) (insG mergeA zA l k a) wq) := by
  refine (put_any w' (hL.keep rwG_elem f fun q hq _ => hq.elim) (Nat.le_trans hB f.size) hX (hk.no f) hpo.pr hps hw hkl hl).mono fun e w2 h => ?_
  obtain ⟨A', n', c', e1, e2, h3, h4, h5⟩ := h
  exact ⟨A', n', c', e1, e2, h3, (f.any.trans h4 fun _ _ h => h), fun q hq => (h5 q hq).imp id fun h => Nat.le_trans f.size h⟩
def TellsGr (B : Nat) (l : List Rw) (w : World) (e : Ending) (w' : World) : Prop := ∃ A n c, e = .returned (.slice A n c) ∧ n = l.length ∧ RR (fun k => B ≤ k) w' (.slice A n c) l ∧ Fr No w w'
set_option maxRecDepth 100000 in
set_option maxHeartbeats 4000000 in
theorem rgroup_any {B : Nat} {fv wv : Value} {fs : List Fc} {t : Bd.Ts} {s meas : Int} (w : World) (hBs : w.heap.size = B) (hf : FR (fun j => j < B) w fv fs) (ht : Bd.TsAt (fun j => j < B) w t wv) (hok : ∀ f ∈ fs, Fok f) (hl : fs.length < 4000000) :
    Calls Tryz.prog 12 #[fv, wv, .int .i64 s, .int .i64 meas] w (TellsGr B (grpL takeA (newA meas) (keyedL (refM t) (listB s) fs)) w) := by
  have hmok : Mok fs := hf.mok
  have hfin : rgR meas t (listB s) fs fs.length = grpL takeA (newA meas) (keyedL (refM t) (listB s) fs) := by
    unfold rgR
    rw [List.take_length, ref_grp meas (keyed_eok hmok)]
  rw [← hfin]
  obtain ⟨A0, N, c0, rfl, hN⟩ := row_form hf
  obtain ⟨pw, rfl⟩ : ∃ p, wv = .pointer p := by rcases ht.ptr with ⟨_, e⟩ | ⟨_, g, o, e⟩ <;> exact ⟨_, e⟩
  have hd6 := listB_len s
  have hall := fun n => allIn_last s n
  have HKO := Lib.hid (fun (w' : World) (l : List Tx) (K : Nat → Prop) (dv mv : Value) (h : KR K w' dv l) (hm : ∃ A n c, mv = .slice A n c) => keyOf_any (s := s) w' h hm)
  obtain ⟨d, hd⟩ : ∃ d, listB s = d := ⟨_, rfl⟩
  rw [hd] at HKO hd6 hall ⊢
  have HFR := Lib.hid (fun w' (f : Fr No w w') => hf.no f)
  have HHD := Lib.hid (fun (w' : World) (f : Fr No w w') (K : Nat → Prop) (D : List Tx) (M : List Int) (dv mv : Value) (h : KR K w' dv D) (h2 : IR K w' mv M) => Bd.Holds_ref _ K D M dv mv t _ w' (ht.no f) ⟨h, h2⟩)
  have HOK := Lib.hid hok
  have HB := Lib.hid hBs
  have HNN := Lib.hid hN
  have HALLI := Lib.hid hall
  have HRN := Lib.hid (fun (w' : World) => rnew_any meas w')
  have HLN := Lib.hid (fun j => rgR_len meas t d fs j)
  have HPT := Lib.hid ht
  have hcm : N ≤ 4000000 := by omega
  have HGE : Hid (∀ j, B ≤ j → (fun k => B ≤ k) j) := Lib.hid fun j h => h
  obtain ⟨z, hz⟩ : ∃ z, newA meas = z := ⟨_, rfl⟩
  have hzl : Lok z.parts := by rw [← hz]; exact new_lok meas
  have HZL := Lib.hid hzl
  have HST : Hid (∀ j (h : j < fs.length), rgR meas t d fs (j + 1) = if (lastOk d fs[j].dims.length && refM t fs[j]) = true then insG mergeA zA (rgR meas t d fs j) (namesL fs[j].dims d) (takeA z fs[j].meas) else rgR meas t d fs j) := Lib.hid fun j h => by rw [rgR_step h, hz]
  rw [hz] at HRN
  clear hf ht hok hBs hN hd hall hmok hfin hz hzl
  go_enter Tryz.func12, Tryz.ntmps12
  go_upto_region 3 with fail
  go_loopg [9, 10, 11, 12, 13] N (fun gk r9 r10 r11 r12 r13 wr => Hid (∃ (j a : Nat) (A : Option Addr) (c : Nat), r10 = .int .i64 (j : Nat) ∧ j + gk = N ∧ r9 = .slice A a c ∧ a = (rgR meas t d fs j).length ∧ GrX (fun k => B ≤ k) B 50 3 rwG wr (.slice A a c) (rgR meas t d fs j) ∧ Wf (rgR meas t d fs j) ∧ Fr No w wr))
  case atStart => exact Lib.hid ⟨0, 0, none, 0, rfl, by omega, rfl, rfl, GrX.nil_ _ _ _ _ _ _, Wf.nil, Fr.refl _ _⟩
  case round =>
  obtain ⟨j, a, A, c, rfl, hjk, rfl, ha, hg, hwf, hf⟩ := hrel.out
  clear hrel
  have HA := Lib.hid ha
  have HG := Lib.hid hg
  have HWF := Lib.hid hwf
  have HF := Lib.hid hf
  clear ha hg hwf hf
  by_cases hj : j < N
  · have hji : (j : Int) < (N : Int) := by omega
    have hjl : j < fs.length := by have := HNN.out; omega
    obtain ⟨g, off, dv, mv, rfl, -, hg, c0', c1', hdk, hmi⟩ := (HFR.out wr HF.out).at_ hjl
    have HSJ := Lib.hid (HST.out j hjl)
    have HFO := Lib.hid (HOK.out _ (List.getElem_mem hjl))
    obtain ⟨dA, dc, rfl, -⟩ := hdk.form
    obtain ⟨mA, mc, rfl, -⟩ := hmi.form
    generalize fs[j] = x at *
    have HKX := Lib.hid (HKO.out wr x.dims _ _ (.slice mA x.meas.length mc) hdk ⟨_, _, _, rfl⟩)
    have HIM := Lib.hid (fun w' (f : Fr No wr w') => hmi.no f)
    have HDM := Lib.hid (fun w' (f : Fr No wr w') => hdk.no f)
    obtain ⟨dn, hdn⟩ : ∃ n, x.dims.length = n := ⟨_, rfl⟩
    obtain ⟨mn, hmn⟩ : ∃ n, x.meas.length = n := ⟨_, rfl⟩
    rw [hdn] at HKX HDM c0' HSJ
    rw [hmn] at HIM c1' HKX
    have HCL : Hid (∀ w', Fr No wr w' → w'.cell? ⟨g, off + j * 2, none⟩ = some (.slice dA dn dc) ∧ w'.cell? ⟨g, off + j * 2 + 1, none⟩ = some (.slice mA mn mc)) := Lib.hid fun w' f' => ⟨(cell_of_heap (f'.block g hg id)).trans c0', (cell_of_heap (f'.block g hg id)).trans c1'⟩
    have HAI := Lib.hid (HALLI.out x.dims.length)
    have HDN := Lib.hid hdn
    have hms := hmi.i64s
    have HMS := Lib.hid hms
    clear hdk hmi hdn hmn hms
    have HNOB : Hid ((lastOk d dn && refM t x) = false → a = (rgR meas t d fs (j + 1)).length ∧ rgR meas t d fs (j + 1) = rgR meas t d fs j) := Lib.hid fun e => by
      have := HSJ.out
      rw [if_neg (by rw [e]; decide)] at this
      exact ⟨by rw [this]; exact HA.out, this⟩
    by_cases hin : lastOk d dn = true
    · have HKT : Hid (Calls Tryz.prog 31 #[.agg #[.slice dA dn dc, .slice mA mn mc], .int .i64 s] wr fun e w4 => ∃ kA kn kc, e = .returned (.tuple #[.slice kA kn kc, .bool true]) ∧ KR (fun k => wr.heap.size ≤ k) w4 (.slice kA kn kc) (namesL x.dims d) ∧ Fr No wr w4) := Lib.hid (HKX.out.mono fun e w4 h => by
        obtain ⟨h1, h2⟩ := h
        rw [if_pos (by rw [HAI.out, HDN.out]; exact hin)] at h1
        obtain ⟨kA, kn, kc, e1, e2, e3⟩ := h1
        exact ⟨kA, kn, kc, e1, e3, h2⟩)
      obtain ⟨u0, u1⟩ := HCL.out wr (Fr.refl _ _)
      by_cases htn : t = .none
      · have hp0 : pw = none := by
          have := HPT.out
          rw [htn] at this
          have e : Value.pointer pw = .pointer none := this
          injection e
        subst hp0
        have HTRUE : Hid ((lastOk d dn && refM t x) = true) := Lib.hid (by rw [hin]; unfold refM; rw [if_pos htn]; rfl)
        clear hin htn c0' c1'
        go_upto_region 11 with (go_at_call 31; refine HKT.out.mono ?_; rintro e1 wq ⟨kA, kn, kc, rfl, hkq, f4⟩; have HKQ := Lib.hid hkq; have HFQ := Lib.hid f4; clear hkq f4 u0 u1)
        have HBQ : Hid (B ≤ wq.heap.size) := Lib.hid (by have h1 := HF.out.size; have h2 := HFQ.out.size; have h3 := HB.out; omega)
        have HPUT := Lib.hid (put_w (a := takeA z x.meas) (HG.out.keep rwG_elem HFQ.out fun q hq _ => hq.elim) HBQ.out HGE.out HKQ.out (HZL.out.take HMS.out) HWF.out (Nat.le_trans (namesL_len _ _) (by omega)) (by have := HLN.out j; omega))
        have HNW : Hid (∀ w', Fr No wq w' → Calls Tryz.prog 35 #[.int .i64 meas] w' (NewA wq z)) := Lib.hid fun w' f => (HRN.out w').mono fun e w2 h => h.new f
        have HTK : Hid (∀ w', Fr No wq w' → ∀ v, PO wq.heap.size w' v z.parts → Calls Tryz.prog 34 #[.agg #[.int .i64 z.count, v], .slice mA mn mc] w' (NewA wq (takeA z x.meas))) := Lib.hid fun w' f v hpo => (rtake_any z.count z.parts x.meas v _ w' hpo.pr HZL.out (HIM.out w' (HFQ.out.tr f))).mono fun e w2 h => TellsA.new f h
        have HSTEP : Hid (rgR meas t d fs (j + 1) = insG mergeA zA (rgR meas t d fs j) (namesL x.dims d) (takeA z x.meas)) := Lib.hid (by have h := HSJ.out; rw [if_pos HTRUE.out] at h; exact h)
        have HW2 : Hid (Wf (rgR meas t d fs (j + 1))) := Lib.hid (by rw [HSTEP.out]; exact HWF.out.ins _ (HZL.out.take HMS.out))
        rw [← HSTEP.out] at HPUT
        obtain ⟨ta, hta⟩ : ∃ ta, takeA z x.meas = ta := ⟨_, rfl⟩
        rw [hta] at HPUT HTK
        obtain ⟨u0, u1⟩ := HCL.out wq HFQ.out
        clear hta
        go_region_law (first
          | (go_simp; go_at_call 35; refine (HNW.out _ (by first | exact Fr.refl _ _ | exact (Fr.refl _ _).drew | exact (Fr.refl _ _).drew.drew)).mono ?_; rintro e1 w6 ⟨A6, n6, c6, rfl, hpo6, f6⟩; have HPO6 := Lib.hid hpo6; have HF6 := Lib.hid f6; obtain ⟨u0, u1⟩ := HCL.out w6 (HFQ.out.tr f6); clear hpo6 f6)
          | (go_simp; go_at_call 34; refine (HTK.out _ (by first | exact HF6.out | exact HF6.out.drew | exact HF6.out.drew.drew) _ (by first | exact HPO6.out | exact HPO6.out.no (Fr.refl _ _).drew | exact HPO6.out.no (Fr.refl _ _).drew.drew)).mono ?_; rintro e1 w7 ⟨A7, n7, c7, rfl, hpo7, f7⟩; have HPO7 := Lib.hid hpo7; have HF7 := Lib.hid f7; clear hpo7 f7)
          | (go_simp; go_at_call 33; refine (HPUT.out _ (by first | exact HF7.out | exact HF7.out.drew | exact HF7.out.drew.drew) _ (by first | exact HPO7.out | exact HPO7.out.no (Fr.refl _ _).drew | exact HPO7.out.no (Fr.refl _ _).drew.drew)).mono ?_; rintro e1 w8 ⟨A8, n8, c8, rfl, hn8, hg8, f8, ho8⟩; have H8 := Lib.hid (And.intro hn8 (And.intro hg8 ((HF.out.tr HFQ.out).trans f8 fun q hq e => by have h1 := (HG.out.lt q e).1; have h2 := HB.out; omega))); clear hn8 hg8 f8 ho8))
        all_goals (go_simp; go_wp2_with fail)
        all_goals (obtain ⟨g1, rfl⟩ : ∃ g1, gk = g1 + 1 := ⟨gk - 1, by omega⟩)
        all_goals
          go_roundg g1
          case rel => exact Lib.hid ⟨j + 1, n8, A8, c8, by go_num, by omega, rfl, H8.out.1, H8.out.2.1, HW2.out, H8.out.2.2⟩
          all_goals omega
      · obtain ⟨ga, oa, rfl⟩ : ∃ ga oa, pw = some ⟨ga, oa, none⟩ := by
          rcases HPT.out.ptr with ⟨e, _⟩ | ⟨_, ga, oa, e⟩
          · exact absurd e htn
          · exact ⟨ga, oa, by injection e⟩
        have hre : refM t x = Bd.HoldsB t x.dims x.meas := by unfold refM; rw [if_neg htn]; rfl
        have HHX := Lib.hid (fun (w' : World) (f : Fr No wr w') => HHD.out w' (HF.out.tr f) _ x.dims x.meas _ _ (HDM.out w' f) (HIM.out w' f))
        obtain ⟨hb, hhb⟩ : ∃ hb, Bd.HoldsB t x.dims x.meas = hb := ⟨_, rfl⟩
        rw [hhb] at HHX hre
        cases hb with
        | false =>
          have HFALSE : Hid ((lastOk d dn && refM t x) = false) := Lib.hid (by rw [hre]; simp)
          clear hin htn hre hhb c0' c1'
          go_wp2_with (first
            | (go_at_call 31; refine HKT.out.mono ?_; rintro e1 w4 ⟨kA, kn, kc, rfl, hkq, f4⟩; have HF4 := Lib.hid f4; obtain ⟨u0, u1⟩ := HCL.out w4 f4; clear hkq f4)
            | (go_at_call 32; refine (HHX.out _ HF4.out).mono ?_; rintro e1 wq ⟨rfl, f5⟩; have HFQ := Lib.hid (HF4.out.tr f5); clear f5))
          obtain ⟨g1, rfl⟩ : ∃ g1, gk = g1 + 1 := ⟨gk - 1, by omega⟩
          go_roundg g1
          case rel => exact Lib.hid ⟨j + 1, a, A, c, by go_num, by omega, rfl, (HNOB.out HFALSE.out).1, by rw [(HNOB.out HFALSE.out).2]; exact HG.out.keep rwG_elem HFQ.out fun q hq _ => hq.elim, by rw [(HNOB.out HFALSE.out).2]; exact HWF.out, HF.out.tr HFQ.out⟩
          all_goals omega
        | true =>
          have HTRUE : Hid ((lastOk d dn && refM t x) = true) := Lib.hid (by rw [hin, hre]; rfl)
          clear hin htn hre hhb c0' c1'
          go_upto_region 11 with (first
            | (go_at_call 31; refine HKT.out.mono ?_; rintro e1 w4 ⟨kA, kn, kc, rfl, hkq, f4⟩; have HK4 := Lib.hid hkq; have HF4 := Lib.hid f4; obtain ⟨u0, u1⟩ := HCL.out w4 f4; clear hkq f4)
            | (go_at_call 32; refine (HHX.out _ HF4.out).mono ?_; rintro e1 wq ⟨rfl, f5⟩; have HFQ := Lib.hid (HF4.out.tr f5); have HKQ := Lib.hid (HK4.out.no f5); clear f5 u0 u1))
          have HBQ : Hid (B ≤ wq.heap.size) := Lib.hid (by have h1 := HF.out.size; have h2 := HFQ.out.size; have h3 := HB.out; omega)
          have HPUT := Lib.hid (put_w (a := takeA z x.meas) (HG.out.keep rwG_elem HFQ.out fun q hq _ => hq.elim) HBQ.out HGE.out HKQ.out (HZL.out.take HMS.out) HWF.out (Nat.le_trans (namesL_len _ _) (by omega)) (by have := HLN.out j; omega))
          have HNW : Hid (∀ w', Fr No wq w' → Calls Tryz.prog 35 #[.int .i64 meas] w' (NewA wq z)) := Lib.hid fun w' f => (HRN.out w').mono fun e w2 h => h.new f
          have HTK : Hid (∀ w', Fr No wq w' → ∀ v, PO wq.heap.size w' v z.parts → Calls Tryz.prog 34 #[.agg #[.int .i64 z.count, v], .slice mA mn mc] w' (NewA wq (takeA z x.meas))) := Lib.hid fun w' f v hpo => (rtake_any z.count z.parts x.meas v _ w' hpo.pr HZL.out (HIM.out w' (HFQ.out.tr f))).mono fun e w2 h => TellsA.new f h
          have HSTEP : Hid (rgR meas t d fs (j + 1) = insG mergeA zA (rgR meas t d fs j) (namesL x.dims d) (takeA z x.meas)) := Lib.hid (by have h := HSJ.out; rw [if_pos HTRUE.out] at h; exact h)
          have HW2 : Hid (Wf (rgR meas t d fs (j + 1))) := Lib.hid (by rw [HSTEP.out]; exact HWF.out.ins _ (HZL.out.take HMS.out))
          rw [← HSTEP.out] at HPUT
          obtain ⟨ta, hta⟩ : ∃ ta, takeA z x.meas = ta := ⟨_, rfl⟩
          rw [hta] at HPUT HTK
          obtain ⟨u0, u1⟩ := HCL.out wq HFQ.out
          clear hta
          go_region_law (first
            | (go_simp; go_at_call 35; refine (HNW.out _ (by first | exact Fr.refl _ _ | exact (Fr.refl _ _).drew | exact (Fr.refl _ _).drew.drew)).mono ?_; rintro e1 w6 ⟨A6, n6, c6, rfl, hpo6, f6⟩; have HPO6 := Lib.hid hpo6; have HF6 := Lib.hid f6; obtain ⟨u0, u1⟩ := HCL.out w6 (HFQ.out.tr f6); clear hpo6 f6)
            | (go_simp; go_at_call 34; refine (HTK.out _ (by first | exact HF6.out | exact HF6.out.drew | exact HF6.out.drew.drew) _ (by first | exact HPO6.out | exact HPO6.out.no (Fr.refl _ _).drew | exact HPO6.out.no (Fr.refl _ _).drew.drew)).mono ?_; rintro e1 w7 ⟨A7, n7, c7, rfl, hpo7, f7⟩; have HPO7 := Lib.hid hpo7; have HF7 := Lib.hid f7; clear hpo7 f7)
            | (go_simp; go_at_call 33; refine (HPUT.out _ (by first | exact HF7.out | exact HF7.out.drew | exact HF7.out.drew.drew) _ (by first | exact HPO7.out | exact HPO7.out.no (Fr.refl _ _).drew | exact HPO7.out.no (Fr.refl _ _).drew.drew)).mono ?_; rintro e1 w8 ⟨A8, n8, c8, rfl, hn8, hg8, f8, ho8⟩; have H8 := Lib.hid (And.intro hn8 (And.intro hg8 ((HF.out.tr HFQ.out).trans f8 fun q hq e => by have h1 := (HG.out.lt q e).1; have h2 := HB.out; omega))); clear hn8 hg8 f8 ho8))
          all_goals (go_simp; go_wp2_with fail)
          all_goals (obtain ⟨g1, rfl⟩ : ∃ g1, gk = g1 + 1 := ⟨gk - 1, by omega⟩)
          all_goals
            go_roundg g1
            case rel => exact Lib.hid ⟨j + 1, n8, A8, c8, by go_num, by omega, rfl, H8.out.1, H8.out.2.1, HW2.out, H8.out.2.2⟩
            all_goals omega
    · have hif : lastOk d dn = false := by simpa using hin
      have HKF : Hid (Calls Tryz.prog 31 #[.agg #[.slice dA dn dc, .slice mA mn mc], .int .i64 s] wr fun e w4 => e = .returned (.tuple #[.slice none 0 0, .bool false]) ∧ Fr No wr w4) := Lib.hid (HKX.out.mono fun e w4 h => by
        obtain ⟨h1, h2⟩ := h
        rw [if_neg (by rw [HAI.out, HDN.out, hif]; decide)] at h1
        exact ⟨h1, h2⟩)
      have HFALSE : Hid ((lastOk d dn && refM t x) = false) := Lib.hid (by rw [hif]; rfl)
      obtain ⟨u0, u1⟩ := HCL.out wr (Fr.refl _ _)
      clear hin hif c0' c1'
      go_wp2_with (go_at_call 31; refine HKF.out.mono ?_; rintro e1 wq ⟨rfl, f4⟩; have HFQ := Lib.hid f4; clear f4)
      obtain ⟨g1, rfl⟩ : ∃ g1, gk = g1 + 1 := ⟨gk - 1, by omega⟩
      go_roundg g1
      case rel => exact Lib.hid ⟨j + 1, a, A, c, by go_num, by omega, rfl, (HNOB.out HFALSE.out).1, by rw [(HNOB.out HFALSE.out).2]; exact HG.out.keep rwG_elem HFQ.out fun q hq _ => hq.elim, by rw [(HNOB.out HFALSE.out).2]; exact HWF.out, HF.out.tr HFQ.out⟩
      all_goals omega
  · have hji : (N : Int) ≤ (j : Int) := by omega
    have HE : Hid (TellsGr B (rgR meas t d fs fs.length) w (.returned (.slice A a c)) wr) := Lib.hid (by
      have hjN : j = fs.length := by have := HNN.out; omega
      have h1 := HG.out
      have h2 := HA.out
      rw [hjN] at h1 h2
      exact ⟨A, a, c, rfl, h2, (h1.grow fun k hk => hk).row rwG_elem, HF.out⟩)
    go_wp2_with fail
    go_ret
    exact HE.out
end Go.Proofs.YtlpglijikmnopaaGreatDoor
namespace Go.Proofs.YtlpglijikmnopaaGreatDoor
open Go.RowKit Go.Maps Go.Sort Go.Proofs
set_option linter.unusedVariables false

theorem test_no {t : Bd.Ts} {v : Value} {w w' : World} (h : Bd.TsAt (fun k => k < w.heap.size) w t v) (f : Fr No w w') : Bd.TsAt (fun k => k < w'.heap.size) w' t v := h.mono fun k hk hl => ⟨Nat.lt_of_lt_of_le hl f.size, f.block k hl id⟩
theorem test_ptr {t : Bd.Ts} {K : Nat → Prop} {w : World} {v : Value} (h : Bd.TsAt K w t v) : ∃ p, v = .pointer p := by
  rcases h.ptr with ⟨_, e⟩ | ⟨_, g, o, e⟩
  · exact ⟨_, e⟩
  · exact ⟨_, e⟩
theorem filter_t {t : Bd.Ts} {v av : Value} {l : List Rw} {f : Int} (w : World) (hne : t ≠ .none) (ht : Bd.TsAt (fun k => k < w.heap.size) w t v) (ha : RR (fun k => k < w.heap.size) w av l) (hok : Rok l) (hl : l.length < 4000000) : Calls Tryz.prog 22 #[av, .int .i64 f, v] w (TellsW (keepL (testM t) (listB f) l) w) :=
  (filterR_any w rfl ha hok hl (meant_test ht hne) (test_ptr ht)).mono fun e w' h => h.w
theorem sort_t {t : Bd.Ts} {v fv : Value} {fs : List Fc} {s meas : Int} (w : World) (hne : t ≠ .none) (ht : Bd.TsAt (fun k => k < w.heap.size) w t v) (h : FR (fun k => k < w.heap.size) w fv fs) (hok : ∀ f ∈ fs, Fok f) (hl : fs.length < 4000000) : Calls Tryz.prog 14 #[fv, v, .int .i64 s, .int .i64 meas] w (TellsW (grpL takeA (newA meas) (keyedL (testM t) (listB s) fs)) w) :=
  (sort_any w rfl h (meant_test ht hne) (test_ptr ht) hok hl).mono fun e w' h => h.w
set_option maxRecDepth 100000 in
set_option maxHeartbeats 2000000 in
theorem groupFilters_any {fs : List Fc} {v a b c e : Value} {t : Bd.Ts} {s : Int} (w : World) (h : FR (fun k => k < w.heap.size) w v fs) (hok : ∀ f ∈ fs, Fok f) (hp : Pv w) (ht : Bd.TsAt (fun k => k < w.heap.size) w t c) : Calls Tryz.prog 8 #[v, .agg #[a, b, c, e], .int .i64 s] w (TellsB true w) := by
  obtain ⟨w0, hw0⟩ : ∃ w0, w.alloc (.cells #[a, b, c, e] 55) = w0 := ⟨_, rfl⟩
  obtain ⟨y, hy⟩ : ∃ y, w.heap.size = y := ⟨_, rfl⟩
  have f0 : Fr No w w0 := by rw [← hw0]; exact (Fr.refl No w).alloc _
  have hb0 : Blk w0 y 55 #[a, b, c, e] := by rw [← hw0, ← hy]; exact Blk.new w 55 _
  have HBK := Lib.hid hb0
  have HA := Lib.hid (awake_any w0 (hp.no f0))
  have HS := Lib.hid (fun (w' : World) (f : Fr No w w') => sound_any w' (h.no_lt f))
  have HRd := Lib.hid (fun (w' : World) (f : Fr No w w') => Bd.Reads_any _ t c w' (test_no ht f))
  have HNd := Lib.hid (fun (w' : World) (f : Fr No w w') => Bd.nodes_any _ t c w' 4097 (test_no ht f) (by omega) (by omega))
  have HTS := Lib.hid (fun (w' : World) (f : Fr No w w') => test_no ht f)
  have hL := sound_len fs
  have hm : Mok (soundL fs) := fun f hf => h.mok f (soundL_mem hf).1
  have hfo := sound_fok hok
  have ht1 := thr_sound fs
  have hb36 : ∀ f ∈ soundL fs, 3 ≤ f.dims.length ∧ f.dims.length ≤ 6 := fun f hf => ⟨(soundL_mem hf).2.1, (soundL_mem hf).2.2.1⟩
  obtain ⟨A0, nn, c0, rfl, -⟩ := row_form h
  obtain ⟨l, hl⟩ : ∃ l, soundL fs = l := ⟨_, rfl⟩
  rw [hl] at HS hL hm hfo ht1 hb36
  have HP := Lib.hid hp
  have HF0 := Lib.hid f0
  have HW0 := Lib.hid hw0
  have HY := Lib.hid hy
  have hgr := Bd.nodes_great t
  obtain ⟨nd, hnd⟩ : ∃ nd, Bd.nodesR t 4097 = nd := ⟨_, rfl⟩
  rw [hnd] at HNd hgr
  have hneed := hnd
  obtain ⟨need, hne⟩ : ∃ q, (Bd.ReadsB t).1 = q := ⟨_, rfl⟩
  obtain ⟨mb, hmb⟩ : ∃ q, (Bd.ReadsB t).2 = q := ⟨_, rfl⟩
  have hRB : Bd.greatB t = true → mb = true := fun e => by rw [← hmb]; unfold Bd.ReadsB; rw [if_pos e]
  have hkeep : ∀ n : Nat, n < 8 → mb = false → need &&& n = need → keepL (testM t) (listB (n : Int)) (grp2 n l) = grpL takeA (newA 2) (keyedL (testM t) (listB (n : Int)) l) := fun n hn e1 e2 => keep_grp2 hn (hmb.trans e1) (by rw [hne]; exact e2) hb36
  rw [hne, hmb] at HRd
  by_cases htn : t = .none
  · subst htn
    obtain rfl : c = .pointer none := ht
    have e1 : need = 0 := by rw [← hne]; decide
    have e2 : mb = false := by rw [← hmb]; decide
    subst e1 e2
    have k2 := hb0.cell 2
    clear h hok hp f0 hw0 hy hb0 hm hfo ht1 hb36 hl hgr hnd hneed hne hmb hRB hkeep HTS HBK
    go_enter Tryz.func8, Tryz.ntmps8
    go_upto_region 1 with fail
    rw [HW0.out, HY.out]
    go_upto_region 2 with (go_at_call 10; refine HA.out.mono ?_; rintro e1 w1 ⟨rfl, f1⟩; have H1 := Lib.hid (HF0.out.tr f1); have k3 := (cell_of_heap (f1.block y (Go.World.block_lt_of_cell? w0 _ k2) id)).trans k2; clear f1 k2)
    go_upto_region 4 with (go_at_call 27; refine (HS.out _ H1.out).mono ?_; rintro e1 w2 ⟨A2, n2, c2, rfl, hn2, hf2, f2⟩; have H2 := Lib.hid (H1.out.tr f2); clear hf2 f2 hn2 k3)
    go_upto_region 5 with (go_at_call 28; refine (HRd.out _ H2.out).mono ?_; rintro e1 w3 ⟨rfl, f3⟩; have H3 := Lib.hid (H2.out.tr f3); clear f3)
    go_wp2_with (go_at_call 29; refine (HNd.out _ H3.out).mono ?_; rintro e1 w4 ⟨rfl, f4⟩; have H4 := Lib.hid (H3.out.tr f4); clear f4)
    go_ret
    exact ⟨rfl, H4.out⟩
  · obtain ⟨g, o, rfl⟩ : ∃ g o, c = .pointer (some ⟨g, o, none⟩) := by
      rcases ht.ptr with ⟨e, _⟩ | ⟨_, g, o, e⟩
      · exact absurd e htn
      · exact ⟨g, o, e⟩
    have k2 := hb0.cell 2
    have HTN := Lib.hid htn
    by_cases hmt : mb = true
    · subst hmt
      clear h hok hp f0 hw0 hy hb0 hm hfo ht1 hb36 hl hgr hnd hneed hne hmb hRB hkeep ht HTS HBK htn
      go_enter Tryz.func8, Tryz.ntmps8
      go_upto_region 1 with fail
      rw [HW0.out, HY.out]
      go_upto_region 2 with (go_at_call 10; refine HA.out.mono ?_; rintro e1 w1 ⟨rfl, f1⟩; have H1 := Lib.hid (HF0.out.tr f1); have k3 := (cell_of_heap (f1.block y (Go.World.block_lt_of_cell? w0 _ k2) id)).trans k2; clear f1 k2)
      go_upto_region 4 with (go_at_call 27; refine (HS.out _ H1.out).mono ?_; rintro e1 w2 ⟨A2, n2, c2, rfl, hn2, hf2, f2⟩; have H2 := Lib.hid (H1.out.tr f2); clear hf2 f2 hn2 k3)
      go_upto_region 5 with (go_at_call 28; refine (HRd.out _ H2.out).mono ?_; rintro e1 w3 ⟨rfl, f3⟩; have H3 := Lib.hid (H2.out.tr f3); clear f3)
      go_wp2_with (go_at_call 29; refine (HNd.out _ H3.out).mono ?_; rintro e1 w4 ⟨rfl, f4⟩; have H4 := Lib.hid (H3.out.tr f4); clear f4)
      go_ret
      exact ⟨rfl, H4.out⟩
    · have hmf : mb = false := by simpa using hmt
      subst hmf
      have hfew : nd ≤ 4096 := by
        cases hg : Bd.greatB t with
        | true => exact absurd (hRB hg) (by decide)
        | false => rw [hg] at hgr; have := of_decide_eq_false hgr; omega
      by_cases h7 : 7 < need
      · have h7i : (7 : Int) < (need : Int) := by omega
        clear h hok hp f0 hw0 hy hb0 hm hfo ht1 hb36 hl hgr hnd hneed hne hmb hRB hkeep ht HTS HBK htn hmt
        go_enter Tryz.func8, Tryz.ntmps8
        go_upto_region 1 with fail
        rw [HW0.out, HY.out]
        go_upto_region 2 with (go_at_call 10; refine HA.out.mono ?_; rintro e1 w1 ⟨rfl, f1⟩; have H1 := Lib.hid (HF0.out.tr f1); have k3 := (cell_of_heap (f1.block y (Go.World.block_lt_of_cell? w0 _ k2) id)).trans k2; clear f1 k2)
        go_upto_region 4 with (go_at_call 27; refine (HS.out _ H1.out).mono ?_; rintro e1 w2 ⟨A2, n2, c2, rfl, hn2, hf2, f2⟩; have H2 := Lib.hid (H1.out.tr f2); clear hf2 f2 hn2 k3)
        go_upto_region 5 with (go_at_call 28; refine (HRd.out _ H2.out).mono ?_; rintro e1 w3 ⟨rfl, f3⟩; have H3 := Lib.hid (H2.out.tr f3); clear f3)
        go_wp2_with (go_at_call 29; refine (HNd.out _ H3.out).mono ?_; rintro e1 w4 ⟨rfl, f4⟩; have H4 := Lib.hid (H3.out.tr f4); clear f4)
        go_ret
        exact ⟨rfl, H4.out⟩
      · obtain ⟨yy, n, hn, b1, b2, hmn⟩ := orand7 s (q := need) (by omega)
        have h7i : (need : Int) ≤ 7 := by omega
        have HH := Lib.hid (fun (w' : World) (v' : Value) (h' : FR (fun k => k < w'.heap.size) w' v' l) (hp' : Pv w') => hash_g (n := n) w' hn h' hfo ht1 (by omega) hp')
        have HFl := Lib.hid (fun (w' : World) (v' : Value) (i1 : Bd.TsAt (fun k => k < w'.heap.size) w' t (.pointer (some ⟨g, o, none⟩))) (i2 : RR (fun k => k < w'.heap.size) w' v' (grp2 n l)) => filter_t (f := (n : Int)) w' htn i1 i2 (grp2_rok hfo hm) (Nat.lt_of_le_of_lt (grp2_len n l) (by omega)))
        rw [hkeep n hn rfl hmn] at HFl
        have HSt := Lib.hid (fun (w' : World) (v' : Value) (i1 : Bd.TsAt (fun k => k < w'.heap.size) w' t (.pointer (some ⟨g, o, none⟩))) (i2 : FR (fun k => k < w'.heap.size) w' v' l) => sort_t (s := (n : Int)) (meas := 2) w' htn i1 i2 hfo (by omega))
        obtain ⟨R, hR⟩ : ∃ R, grpL takeA (newA 2) (keyedL (testM t) (listB (n : Int)) l) = R := ⟨_, rfl⟩
        rw [hR] at HFl HSt
        have HSa := Lib.hid (fun (w' : World) (v' u' : Value) (i1 : RR (fun k => k < w'.heap.size) w' v' R) (i2 : RR (fun k => k < w'.heap.size) w' u' R) => sameR_any w' i1 i2)
        rw [(sameRs_iff _ _).2 rfl] at HSa
        have hfi : (nd : Int) ≤ 4096 := hfew
        clear h hok hp f0 hw0 hy hb0 hm hfo ht1 hb36 hl hgr hnd hneed hne hmb hRB hkeep ht HBK htn hmt hR hn hmn h7 hL
        go_enter Tryz.func8, Tryz.ntmps8
        go_upto_region 1 with fail
        rw [HW0.out, HY.out]
        go_upto_region 2 with (go_at_call 10; refine HA.out.mono ?_; rintro e1 w1 ⟨rfl, f1⟩; have H1 := Lib.hid (HF0.out.tr f1); have k3 := (cell_of_heap (f1.block y (Go.World.block_lt_of_cell? w0 _ k2) id)).trans k2; clear f1 k2)
        go_upto_region 4 with (go_at_call 27; refine (HS.out _ H1.out).mono ?_; rintro e1 w2 ⟨A2, n2, c2, rfl, hn2, hf2, f2⟩; have H2 := Lib.hid (H1.out.tr f2); have HL2 := Lib.hid hf2; clear hf2 f2 hn2 k3)
        go_upto_region 5 with (go_at_call 28; refine (HRd.out _ H2.out).mono ?_; rintro e1 w3 ⟨rfl, f3⟩; have H3 := Lib.hid (H2.out.tr f3); have HL3 := Lib.hid (HL2.out.no_lt f3); clear f3)
        go_upto_region 7 with (go_at_call 29; refine (HNd.out _ H3.out).mono ?_; rintro e1 w4 ⟨rfl, f4⟩; have H4 := Lib.hid (H3.out.tr f4); have HL4 := Lib.hid (HL3.out.no_lt f4); clear f4)
        go_wp2_with (first
          | (go_at_call 13; refine (HH.out _ _ HL4.out (HP.out.no H4.out)).mono ?_; rintro e1 w5 ⟨A5, n5, c5, rfl, hn5, hr5, f5⟩; have H5 := Lib.hid (H4.out.tr f5); have HR5 := Lib.hid hr5; have HL5 := Lib.hid (HL4.out.no_lt f5); clear hn5 hr5 f5)
          | (go_at_call 22; refine (HFl.out _ _ (HTS.out _ H5.out) HR5.out).mono ?_; rintro e1 w6 ⟨A6, n6, c6, rfl, hn6, hr6, f6⟩; have H6 := Lib.hid (H5.out.tr f6); have HR6 := Lib.hid hr6; have HL6 := Lib.hid (HL5.out.no_lt f6); clear hn6 hr6 f6)
          | (go_at_call 14; refine (HSt.out _ _ (HTS.out _ H6.out) HL6.out).mono ?_; rintro e1 w7 ⟨A7, n7, c7, rfl, hn7, hr7, f7⟩; have H7 := Lib.hid (H6.out.tr f7); have HR7 := Lib.hid hr7; have HR67 := Lib.hid (HR6.out.no_lt f7); clear hn7 hr7 f7)
          | (go_at_call 24; refine (HSa.out _ _ _ HR67.out HR7.out).mono ?_; rintro e1 w8 ⟨rfl, f8⟩; have H8 := Lib.hid (H7.out.tr f8); clear f8))
        go_ret
        exact ⟨rfl, H8.out⟩
end Go.Proofs.YtlpglijikmnopaaGreatDoor
namespace Go.Proofs.YtlpglijikmnopaaGreatDoor
open Go.RowKit Go.ChangeShapes Go.WideShapes Go.ChangeAt
set_option linter.unusedVariables false

theorem c3 : Tryz.prog.cellsOf 3 = 1 := by set_option maxRecDepth 100000 in kernel_rfl
theorem c4 : Tryz.prog.cellsOf 4 = 1 := by set_option maxRecDepth 100000 in kernel_rfl
theorem c23 : Tryz.prog.cellsOf 23 = 1 := by set_option maxRecDepth 100000 in kernel_rfl
theorem c25 : Tryz.prog.cellsOf 25 = 3 := by set_option maxRecDepth 100000 in kernel_rfl
theorem c52 : Tryz.prog.cellsOf 52 = 1 := by set_option maxRecDepth 100000 in kernel_rfl
theorem c53 : Tryz.prog.cellsOf 53 = 1 := by set_option maxRecDepth 100000 in kernel_rfl
theorem c55 : Tryz.prog.cellsOf 55 = 4 := by set_option maxRecDepth 100000 in kernel_rfl
theorem c106 : Tryz.prog.cellsOf 106 = 8 := by set_option maxRecDepth 100000 in kernel_rfl
theorem len4 {cs : List Value} (h : cs.length = 4) : ∃ a b c d, cs = [a, b, c, d] := by
  match cs, h with
  | [a, b, c, d], _ => exact ⟨a, b, c, d, rfl⟩
theorem len8 {cs : List Value} (h : cs.length = 8) : ∃ a b c d e f g i, cs = [a, b, c, d, e, f, g, i] := by
  match cs, h with
  | [a, b, c, d, e, f, g, i], _ => exact ⟨a, b, c, d, e, f, g, i, rfl⟩
section
variable {H : Type} {enc : TypeId × Value → H} {W : World}
def TrD (H : Type) (enc : TypeId × Value → H) (W : World) (fuel : Nat) (t : TypeId) (cs : List Value) (x : DataW H × List MemPlace) : Prop := DataW.trod enc Tryz.prog W 0 (fun _ => true) true fuel t cs = some x
theorem ptr_one (v : Option Addr) : (Value.pointer v).oneCell' = true := rfl
set_option maxRecDepth 100000 in
theorem open_test : ∀ (fuel : Nat) (cs : List Value) (x : DataW H × List MemPlace), TrD H enc W fuel 23 cs x → ∃ v c, cs = [v] ∧ Bd.TsAt (Lo W) W c v := by
  intro fuel
  induction fuel using Nat.strongRecOn with
  | ind fuel ih =>
    intro cs x h
    rcases DataW.trod_pointer Tryz.underlying23 h with ⟨rfl, _⟩ | ⟨a, cs', y, m, hfu, rfl, _, hcells, hy⟩
    · exact ⟨_, .none, rfl, rfl⟩
    · obtain ⟨_, hlen, hat⟩ := World.cells?_some hcells
      rw [c106] at hlen
      obtain ⟨q0, q1, q2, q3, q4, q5, q6, q7, rfl⟩ := len8 hlen
      obtain ⟨xs, n, hfn, hd, hlen2, hxl, hg⟩ := DataW.trod_struct Tryz.underlying106 hy
      have hx8 : xs.length = 8 := hxl
      match xs, hx8 with
      | [x0, x1, x2, x3, x4, x5, x6, x7], _ =>
        have g0 : TrD H enc W n 3 (([q0, q1, q2, q3, q4, q5, q6, q7].drop 0).take (Tryz.prog.cellsOf 3)) x0 := hg 0 _ rfl
        have g1 : TrD H enc W n 23 (([q0, q1, q2, q3, q4, q5, q6, q7].drop 1).take (Tryz.prog.cellsOf 23)) x1 := hg 1 _ rfl
        have g2 : TrD H enc W n 23 (([q0, q1, q2, q3, q4, q5, q6, q7].drop 2).take (Tryz.prog.cellsOf 23)) x2 := hg 2 _ rfl
        have g3 : TrD H enc W n 4 (([q0, q1, q2, q3, q4, q5, q6, q7].drop 3).take (Tryz.prog.cellsOf 4)) x3 := hg 3 _ rfl
        have g4 : TrD H enc W n 3 (([q0, q1, q2, q3, q4, q5, q6, q7].drop 4).take (Tryz.prog.cellsOf 3)) x4 := hg 4 _ rfl
        have g5 : TrD H enc W n 3 (([q0, q1, q2, q3, q4, q5, q6, q7].drop 5).take (Tryz.prog.cellsOf 3)) x5 := hg 5 _ rfl
        have g6 : TrD H enc W n 42 (([q0, q1, q2, q3, q4, q5, q6, q7].drop 6).take (Tryz.prog.cellsOf 42)) x6 := hg 6 _ rfl
        have g7 : TrD H enc W n 61 (([q0, q1, q2, q3, q4, q5, q6, q7].drop 7).take (Tryz.prog.cellsOf 61)) x7 := hg 7 _ rfl
        unfold TrD at g0 g3 g4 g5 g6 g7
        rw [c3] at g0 g4 g5
        rw [c23] at g1 g2
        rw [c4] at g3
        rw [c42] at g6
        rw [c61] at g7
        obtain ⟨k, e0, _, w0⟩ := DataW.trod_int Tryz.underlying3 g0
        obtain ⟨L, l, e1, p1⟩ := ih n (by omega) _ _ g1
        obtain ⟨R, r, e2, p2⟩ := ih n (by omega) _ _ g2
        obtain ⟨b, e3, _⟩ := DataW.trod_bool Tryz.underlying4 g3
        obtain ⟨i, e4, _, w4⟩ := DataW.trod_int Tryz.underlying3 g4
        obtain ⟨o, e5, _, w5⟩ := DataW.trod_int Tryz.underlying3 g5
        obtain ⟨A, ts, e6, p6, _⟩ := open_rowB (strG (Lo W) W) List.length 42 9 1 Tryz.underlying42 c9 (by omega) open_strW g6
        obtain ⟨B, ns, e7, p7, _⟩ := open_rowB (intG (Lo W) W) (fun _ => 0) 61 2 1 Tryz.underlying61 c2 (by omega) open_intW g7
        obtain rfl := one_eq e0
        obtain rfl := one_eq e1
        obtain rfl := one_eq e2
        obtain rfl := one_eq e3
        obtain rfl := one_eq e4
        obtain rfl := one_eq e5
        obtain rfl := one_eq e6
        obtain rfl := one_eq e7
        have h0 := hat 0 (by rw [c106]; decide)
        have h1 := hat 1 (by rw [c106]; decide)
        have h2 := hat 2 (by rw [c106]; decide)
        have h3 := hat 3 (by rw [c106]; decide)
        have h4 := hat 4 (by rw [c106]; decide)
        have h5 := hat 5 (by rw [c106]; decide)
        have h6 := hat 6 (by rw [c106]; decide)
        have h7 := hat 7 (by rw [c106]; decide)
        obtain ⟨gb, off, spot⟩ := a
        have hspot : spot = none := by simpa [Addr.add] using World.cell?_spot h0
        subst hspot
        rw [Addr.add_lit] at h0 h1 h2 h3 h4 h5 h6 h7
        refine ⟨_, .node k l r b i o ts ns, rfl, gb, off, q1, q2, q6, q7, rfl, Go.World.block_lt_of_cell? W _ h0, Go.World.block_lt_of_cell? W _ h0, ?_, ?_, ?_, ?_, ?_, ?_, ?_, ?_, p1, p2, p6, p7, wf_i64_bd w0, wf_i64_bd w4, wf_i64_bd w5⟩
        · exact h0
        · exact h1
        · exact h2
        · exact h3
        · exact h4
        · exact h5
        · exact h6
        · exact h7
set_option maxRecDepth 100000 in
/-- An argument api.Bound: its test. -/
theorem open_boundA {v : Value} {d : DataW H} {ps : List MemPlace} {b0 : Nat} (hval : Value.okWide Tryz.prog W .any b0 55 v) (h : DataW.Trod enc Tryz.prog W 0 (fun _ => true) true 55 v d ps) : ∃ a b c e t, v = .agg #[a, b, c, e] ∧ a.oneCell' = true ∧ b.oneCell' = true ∧ e.oneCell' = true ∧ Bd.TsAt (Lo W) W t c := by
  obtain ⟨cs, rfl, hsz⟩ := okWide_struct Tryz.underlying55 hval
  obtain ⟨fuel, hf⟩ := h
  rw [c55] at hsz
  obtain ⟨csl⟩ := cs
  obtain ⟨a, b, c, e, rfl⟩ := len4 (cs := csl) hsz
  have hf' : TrD H enc W fuel 55 [a, b, c, e] (d, ps) := by unfold TrD; simpa [Value.cells] using hf
  obtain ⟨xs, n, hx, hd, hlen, hxl, hg⟩ := DataW.trod_struct Tryz.underlying55 hf'
  have hx5 : xs.length = 4 := hxl
  match xs, hx5 with
  | [x0, x1, x2, x3], _ =>
    have g0 : TrD H enc W n 52 (([a, b, c, e].drop 0).take (Tryz.prog.cellsOf 52)) x0 := hg 0 _ rfl
    have g1 : TrD H enc W n 42 (([a, b, c, e].drop 1).take (Tryz.prog.cellsOf 42)) x1 := hg 1 _ rfl
    have g2 : TrD H enc W n 23 (([a, b, c, e].drop 2).take (Tryz.prog.cellsOf 23)) x2 := hg 2 _ rfl
    have g3 : TrD H enc W n 53 (([a, b, c, e].drop 3).take (Tryz.prog.cellsOf 53)) x3 := hg 3 _ rfl
    unfold TrD at g0 g1 g3
    rw [c52] at g0
    rw [c42] at g1
    rw [c23] at g2
    rw [c53] at g3
    have e0 : ∃ A n c, a = .slice A n c := by
      rcases Go.Deep.open_slice Tryz.underlying52 g0 with ⟨h, _⟩ | ⟨_, _, _, _, _, _, _, h, _⟩ <;> exact ⟨_, _, _, one_eq h⟩
    have e1 : ∃ A n c, b = .slice A n c := by
      rcases Go.Deep.open_slice Tryz.underlying42 g1 with ⟨h, _⟩ | ⟨_, _, _, _, _, _, _, h, _⟩ <;> exact ⟨_, _, _, one_eq h⟩
    have e3 : ∃ A n c, e = .slice A n c := by
      rcases Go.Deep.open_slice Tryz.underlying53 g3 with ⟨h, _⟩ | ⟨_, _, _, _, _, _, _, h, _⟩ <;> exact ⟨_, _, _, one_eq h⟩
    obtain ⟨_, _, _, rfl⟩ := e0
    obtain ⟨_, _, _, rfl⟩ := e1
    obtain ⟨_, _, _, rfl⟩ := e3
    obtain ⟨v2, t, e2, q2⟩ := open_test _ _ _ g2
    obtain rfl := one_eq e2
    exact ⟨_, _, _, _, t, rfl, rfl, rfl, rfl, q2⟩
set_option maxRecDepth 100000 in
/-- An argument Ask. -/
theorem open_askA {v : Value} {d : DataW H} {ps : List MemPlace} {b0 : Nat} (hval : Value.okWide Tryz.prog W .any b0 25 v) (h : DataW.Trod enc Tryz.prog W 0 (fun _ => true) true 25 v d ps) : ∃ c s m t, v = .agg #[c, .int .i64 s, .int .i64 m] ∧ i64' s ∧ i64' m ∧ Bd.TsAt (Lo W) W t c := by
  obtain ⟨cs, rfl, hsz⟩ := okWide_struct Tryz.underlying25 hval
  obtain ⟨fuel, hf⟩ := h
  rw [c25] at hsz
  obtain ⟨csl⟩ := cs
  obtain ⟨a, b, c, rfl⟩ := len3 (cs := csl) hsz
  have hf' : TrD H enc W fuel 25 [a, b, c] (d, ps) := by unfold TrD; simpa [Value.cells] using hf
  obtain ⟨xs, n, hx, hd, hlen, hxl, hg⟩ := DataW.trod_struct Tryz.underlying25 hf'
  have hx5 : xs.length = 3 := hxl
  match xs, hx5 with
  | [x0, x1, x2], _ =>
    have g0 : TrD H enc W n 23 (([a, b, c].drop 0).take (Tryz.prog.cellsOf 23)) x0 := hg 0 _ rfl
    have g1 : TrD H enc W n 3 (([a, b, c].drop 1).take (Tryz.prog.cellsOf 3)) x1 := hg 1 _ rfl
    have g2 : TrD H enc W n 3 (([a, b, c].drop 2).take (Tryz.prog.cellsOf 3)) x2 := hg 2 _ rfl
    unfold TrD at g1 g2
    rw [c23] at g0
    rw [c3] at g1 g2
    obtain ⟨v0, t, e0, q0⟩ := open_test _ _ _ g0
    obtain ⟨n1, e1, _, w1⟩ := DataW.trod_int Tryz.underlying3 g1
    obtain ⟨n2, e2, _, w2⟩ := DataW.trod_int Tryz.underlying3 g2
    obtain rfl := one_eq e0
    obtain rfl := one_eq e1
    obtain rfl := one_eq e2
    exact ⟨_, _, _, t, rfl, wf_i64_bd w1, wf_i64_bd w2, q0⟩
end
end Go.Proofs.YtlpglijikmnopaaGreatDoor
namespace Go.Proofs.YtlpglijikmnopaaGreatDoor
open Go.RowKit Go.Maps Go.Sort Go.Proofs
set_option linter.unusedVariables false

theorem sameRw_split (x y : Rw) : sameRw x y = (sameA x.acc y.acc && decide (cmpK x.key y.key = 0)) := by
  unfold sameRw
  rw [Bool.and_comm]
  congr 1
  rw [Bool.eq_iff_iff, decide_eq_true_iff, decide_eq_true_iff, cmpK_zero]
theorem same44 (x y : Rw) {K K2 : Nat → Prop} {v v2 : Value} (w : World) (h : PR K w v x.acc.parts) (h2 : PR K2 w v2 y.acc.parts) : Calls Tryz.prog 44 #[.agg #[.int .i64 x.acc.count, v], .agg #[.int .i64 y.acc.count, v2]] w (TellsV (.bool (sameA x.acc y.acc)) w) := rsame_any x.acc.count y.acc.count x.acc.parts y.acc.parts v v2 w h h2
set_option maxRecDepth 100000 in
set_option maxHeartbeats 2000000 in
theorem rsameR_any {K K2 : Nat → Prop} {l m : List Rw} {v v2 : Value} (w : World) (h : RR K w v l) (h2 : RR K2 w v2 m) : Calls Tryz.prog 15 #[v, v2] w (TellsB (sameRs l m) w) := by
  obtain ⟨A, c, rfl, -⟩ := rr_form h
  obtain ⟨A2, c2, rfl, -⟩ := rr_form h2
  obtain ⟨n, hn⟩ : ∃ n, l.length = n := ⟨_, rfl⟩
  obtain ⟨k, hk⟩ : ∃ n, m.length = n := ⟨_, rfl⟩
  rw [hn] at h ⊢
  rw [hk] at h2 ⊢
  have HN := Lib.hid hn
  have HK := Lib.hid hk
  have HA := Lib.hid (fun w' (f : Fr No w w') => h.no f)
  have HB := Lib.hid (fun w' (f : Fr No w w') => h2.no f)
  have hcm : n ≤ 9223372036854775807 := by
    obtain ⟨A', c', e, h1, h3, -⟩ := h
    unfold maxLen at h3
    omega
  clear h h2
  by_cases hl : n = k
  · obtain rfl := hl
    have HS := Lib.hid (fun (i : Nat) (h1 : i < l.length) (h2 : i < m.length) (e : sameRw l[i] m[i] = false) => sameRs_bad l m i h1 h2 e)
    have HT := Lib.hid (fun (e : ∀ i (h1 : i < l.length) (h2 : i < m.length), sameRw l[i] m[i] = true) => sameRs_all l m (hn.trans hk.symm) e)
    clear hn hk
    go_enter Tryz.func15, Tryz.ntmps15
    go_upto_region 4 with fail
    go_loopg [5, 6] n (fun gk r5 r6 wr => Hid (∃ j : Nat, r5 = .int .i64 (j : Nat) ∧ j + gk = n ∧ (∀ i (h1 : i < l.length) (h2 : i < m.length), i < j → sameRw l[i] m[i] = true) ∧ Fr No w wr))
    case atStart => exact Lib.hid ⟨0, rfl, by omega, fun i _ _ h => absurd h (by omega), Fr.refl _ _⟩
    case round =>
    obtain ⟨j, rfl, hjk, hall, hf⟩ := hrel.out
    clear hrel
    have HALL := Lib.hid hall
    have HF := Lib.hid hf
    clear hall hf
    by_cases hj : j < n
    · have hji : (j : Int) < (n : Int) := by omega
      have hjl : j < l.length := by have := HN.out; omega
      have hjm : j < m.length := by have := HK.out; omega
      obtain ⟨g, off, ku, pu, rfl, -, hg, d0, d1, d2, hku, hpu⟩ := (HA.out wr HF.out).at_ hjl
      obtain ⟨g', off', kz, pz, rfl, -, hg', e0, e1, e2, hkz, hpz⟩ := (HB.out wr HF.out).at_ hjm
      have HSB := Lib.hid (HS.out j hjl hjm)
      have HSP := Lib.hid (sameRw_split l[j] m[j])
      have HJ := Lib.hid (fun (e : sameRw l[j] m[j] = true) (i : Nat) (h1 : i < l.length) (h2 : i < m.length) (h3 : i < j + 1) => (by
        rcases Nat.lt_or_ge i j with h4 | h4
        · exact HALL.out i h1 h2 h4
        · obtain rfl : i = j := by omega
          exact e : sameRw l[i] m[i] = true))
      obtain ⟨uA, uc, rfl, -⟩ := hku.form
      obtain ⟨zA', zc, rfl, -⟩ := hkz.form
      obtain ⟨uP, up, rfl, -⟩ := hpu.form
      obtain ⟨zP, zp, rfl, -⟩ := hpz.form
      generalize l[j] = x at *
      generalize m[j] = y at *
      have KS := Lib.hid (fun dd os => tells_grown (w := wr) (fun w' f' => same44 x y w' (hpu.no f') (hpz.no f')) dd os)
      have HCM := Lib.hid (fun (w' : World) (f : Fr No wr w') => rcompare_any w' (hku.no f) (hkz.no f))
      obtain ⟨sa, hsa⟩ : ∃ b, sameA x.acc y.acc = b := ⟨_, rfl⟩
      obtain ⟨q, hq⟩ : ∃ q, cmpK x.key y.key = q := ⟨_, rfl⟩
      rw [hsa] at KS HSP
      rw [hq] at HSP HCM
      obtain ⟨un, hun⟩ : ∃ n, x.key.length = n := ⟨_, rfl⟩
      obtain ⟨zn, hzn⟩ : ∃ n, y.key.length = n := ⟨_, rfl⟩
      obtain ⟨upn, hupn⟩ : ∃ n, x.acc.parts.length = n := ⟨_, rfl⟩
      obtain ⟨zpn, hzpn⟩ : ∃ n, y.acc.parts.length = n := ⟨_, rfl⟩
      obtain ⟨uct, huct⟩ : ∃ n, x.acc.count = n := ⟨_, rfl⟩
      obtain ⟨zct, hzct⟩ : ∃ n, y.acc.count = n := ⟨_, rfl⟩
      rw [hun] at d0 HCM
      rw [hzn] at e0 HCM
      rw [hupn] at d2 KS
      rw [hzpn] at e2 KS
      rw [huct] at d1 KS
      rw [hzct] at e1 KS
      have HU : Hid (∀ w', Fr No wr w' → w'.cell? ⟨g, off + j * 3, none⟩ = some (.slice uA un uc) ∧ w'.cell? ⟨g', off' + j * 3, none⟩ = some (.slice zA' zn zc)) := Lib.hid fun w' f' => ⟨(cell_of_heap (f'.block g hg id)).trans d0, (cell_of_heap (f'.block g' hg' id)).trans e0⟩
      have z1 : ∀ dd os, (grow (redrawn wr dd) os).cell? ⟨g, off + j * 3 + 1, none⟩ = some (.int .i64 uct) := fun dd os => cell_regrown d1 dd os
      have z2 : ∀ dd os, (grow (redrawn wr dd) os).cell? ⟨g, off + j * 3 + 2, none⟩ = some (.slice uP upn up) := fun dd os => cell_regrown d2 dd os
      have z3 : ∀ dd os, (grow (redrawn wr dd) os).cell? ⟨g', off' + j * 3 + 1, none⟩ = some (.int .i64 zct) := fun dd os => cell_regrown e1 dd os
      have z4 : ∀ dd os, (grow (redrawn wr dd) os).cell? ⟨g', off' + j * 3 + 2, none⟩ = some (.slice zP zpn zp) := fun dd os => cell_regrown e2 dd os
      clear hku hkz hpu hpz d0 d1 d2 e0 e1 e2 hsa hq hun hzn hupn hzpn huct hzct hjl hjm
      go_upto_region 6 with fail
      refine wp_region_quiet_below mixedB (by kernel_rfl) ?_
      repeat (first | go_big_quiet_step (exact KS.out _ _) | quiet_step (exact KS.out _ _))
      refine wpQuiet_nil ?_
      intro wx hpx
      have HBW : Hid (Fr No wr wx) := Lib.hid (by obtain ⟨p, rfl⟩ := hpx; exact fr_reg _ _ _)
      clear hpx z1 z2 z3 z4
      obtain ⟨u1, u2⟩ := HU.out wx HBW.out
      have z1 : ∀ dd os, (grow (redrawn wx dd) os).cell? ⟨g, off + j * 3, none⟩ = some (.slice uA un uc) := fun dd os => cell_regrown u1 dd os
      have z2 : ∀ dd os, (grow (redrawn wx dd) os).cell? ⟨g', off' + j * 3, none⟩ = some (.slice zA' zn zc) := fun dd os => cell_regrown u2 dd os
      clear u1 u2
      cases sa with
      | false =>
        have HBAD : Hid (sameRs l m = false) := Lib.hid (HSB.out (by rw [HSP.out]; rfl))
        go_upto_region 7 with fail
        refine wp_region_quiet_below mixedB (by kernel_rfl) ?_
        repeat (first | go_big_quiet_step (fail) | quiet_step (fail))
        refine wpQuiet_nil ?_
        intro wy hpy
        have HBY : Hid (Fr No wx wy) := Lib.hid (by obtain ⟨p, rfl⟩ := hpy; exact fr_reg _ _ _)
        clear hpy
        go_wp2_with fail
        go_ret
        exact ⟨by rw [HBAD.out]; rfl, HF.out.tr (HBW.out.tr HBY.out)⟩
      | true =>
        have K2' := Lib.hid (fun dd os => tells_grown (w := wx) (fun w' f' => HCM.out w' (HBW.out.tr f')) dd os)
        by_cases hq0 : q = 0
        · subst hq0
          have HSAME := Lib.hid (HJ.out (by rw [HSP.out]; rfl))
          go_upto_region 7 with fail
          refine wp_region_quiet_below mixedB (by kernel_rfl) ?_
          repeat (first | go_big_quiet_step (exact K2'.out _ _) | quiet_step (exact K2'.out _ _))
          refine wpQuiet_nil ?_
          intro wy hpy
          have HBY : Hid (Fr No wx wy) := Lib.hid (by obtain ⟨p, rfl⟩ := hpy; exact fr_reg _ _ _)
          clear hpy
          go_wp2_with fail
          obtain ⟨g1, rfl⟩ : ∃ g1, gk = g1 + 1 := ⟨gk - 1, by omega⟩
          go_roundg g1
          case rel => exact Lib.hid ⟨j + 1, by go_num, by omega, HSAME.out, HF.out.tr (HBW.out.tr HBY.out)⟩
          all_goals omega
        · have hqb : (q == 0) = false := by simpa using hq0
          have HBAD : Hid (sameRs l m = false) := Lib.hid (HSB.out (by rw [HSP.out, decide_eq_false hq0]; rfl))
          clear hq0
          go_upto_region 7 with fail
          refine wp_region_quiet_below mixedB (by kernel_rfl) ?_
          repeat (first | go_big_quiet_step (exact K2'.out _ _) | quiet_step (exact K2'.out _ _))
          refine wpQuiet_nil ?_
          intro wy hpy
          have HBY : Hid (Fr No wx wy) := Lib.hid (by obtain ⟨p, rfl⟩ := hpy; exact fr_reg _ _ _)
          clear hpy
          go_wp2_with fail
          go_ret
          exact ⟨by rw [HBAD.out]; rfl, HF.out.tr (HBW.out.tr HBY.out)⟩
    · have hji : (n : Int) ≤ (j : Int) := by omega
      have HG : Hid (sameRs l m = true) := Lib.hid (HT.out fun i h1 h2 => HALL.out i h1 h2 (by have := HN.out; omega))
      go_wp2_with fail
      go_ret
      exact ⟨by rw [HG.out]; rfl, HF.out⟩
  · have hne : ((n : Int) == (k : Int)) = false := by simp; omega
    have HV : Hid (sameRs l m = false) := Lib.hid (sameRs_len l m (by omega))
    clear hl hn hk
    go_enter Tryz.func15, Tryz.ntmps15
    go_wp2_with fail
    go_ret
    exact ⟨by rw [HV.out]; rfl, Fr.refl _ _⟩
end Go.Proofs.YtlpglijikmnopaaGreatDoor
namespace Go.Proofs.YtlpglijikmnopaaGreatDoor
open Go.RowKit Go.Maps Go.Sort Go.Proofs
set_option linter.unusedVariables false

abbrev iv (n : Int) : Value := .int .i64 n
def ownI (b : Nat) (w : World) (v : Value) (l : List Int) : Prop := w.ownsRow b 2 1 v l.length (l.map iv)
theorem ownI.keep {b : Nat} {w w' : World} {v : Value} {l : List Int} (h : ownI b w v l) (f : Fr No w w') : ownI b w' v l := own_of h fun k hk => f.block k (h.lt k hk).2 id
theorem ownI.row {b : Nat} {w : World} {v : Value} {l : List Int} (h : ownI b w v l) (hl : ∀ x ∈ l, i64 x) : RowE (fun k => b ≤ k) w 1 (intG (fun k => b ≤ k) w) v l := by
  rcases h.2 with ⟨e1, h0⟩ | ⟨g, cap, cur, e1, hg, hh, hn, hcm, hcs, htk⟩
  · exact ⟨none, 0, by rw [h0]; exact e1, by omega, by decide, fun h => by omega⟩
  · refine ⟨some ⟨g, 0, none⟩, cap, e1, hn, hcm, fun _ => ⟨g, 0, rfl, hg, ?_, fun j hj => ?_⟩⟩
    · rcases Nat.lt_or_ge g w.heap.size with h3 | h3
      · exact h3
      · rw [Array.getElem?_eq_none h3] at hh; cases hh
    · have hx := hl l[j] (List.getElem_mem _)
      refine ⟨[iv l[j]], rfl, fun i hi => ?_, ?_⟩
      · obtain rfl : i = 0 := by omega
        rw [cell_of_row w g _ cur 2 (0, 0) hh]
        have h1 : (cur.toList.take (l.length * 1))[j]? = (l.map iv)[j]? := by rw [htk]
        rw [List.getElem?_take, if_pos (by omega), Array.getElem?_toList] at h1
        have h2 : 0 + j * 1 + 0 = j := by omega
        rw [h2, h1, List.getElem?_map, List.getElem?_eq_getElem hj]
        rfl
      · exact ⟨rfl, hx⟩
theorem app_ints {b : Nat} {w0 w : World} {v u : Value} {l m : List Int} {K : Nat → Prop} (hf : Fr No w0 w) (hb : b = w0.heap.size) (ho : ownI b w v l) (hr : RowE K w 1 (intG K w) u m) (hl : l.length ≤ 4000000) (hm : m.length ≤ 4000000) :
    ∃ v' w', (∀ ty, (Builtin.append_ #[61, 61] ty #[v, u]).run Tryz.prog w = .ok v' w') ∧ ownI b w' v' (l ++ m) ∧ Fr No w0 w' := by
  obtain ⟨A, c, rfl, hmc, hcm, hrow⟩ := hr
  have hbw : b ≤ w.heap.size := by rw [hb]; exact hf.size
  by_cases h0 : 0 < m.length
  · obtain ⟨g, off, rfl, hK, hg, hel⟩ := hrow h0
    obtain ⟨i0, hi, hz0, hz1, hz2⟩ := info_parts (show (Tryz.prog.info? 2).map (fun i => (i.zero, i.size, i.bytes)) = some (some (.int .i64 0), 1, 8) by kernel_rfl)
    have hnews : ∀ j u, (m.map iv)[j]? = some u → w.cell? ((⟨g, off, none⟩ : Addr).add j) = some u := by
      intro j u hu
      rw [Addr.add_lit]
      rw [List.getElem?_map] at hu
      have hj : j < m.length := by
        rcases Nat.lt_or_ge j m.length with h | h
        · exact h
        · rw [List.getElem?_eq_none h] at hu; cases hu
      obtain ⟨cs, _, hcs, hE⟩ := hel j hj
      have := hcs 0 (by decide)
      rw [hE.1] at this
      rw [List.getElem?_eq_getElem hj] at hu
      have h2 : off + j * 1 + 0 = off + j := by omega
      rw [h2] at this
      rw [this]
      exact hu
    obtain ⟨v', w', hr, how, hgr, hnil, hat⟩ := run_append_own_at (P := Tryz.prog) w b 61 0 2 i0 (.int .i64 0) 1 8 Tryz.underlying61 hi hz0 hz1 hz2 rfl (by decide) v l.length (l.map iv) ho ⟨g, off, none⟩ m.length c (m.map iv) (by simp) hnews (fun u hu => by
      obtain ⟨x, _, rfl⟩ := List.mem_map.1 hu; rfl) (by unfold maxLen; omega) (by omega) hbw
    refine ⟨v', w', fun ty => hr, by unfold ownI; rw [List.length_append, List.map_append]; exact how, hf.grown hgr fun k hk e => ?_⟩
    have := (ho.lt k hk).1
    omega
  · obtain rfl : m = [] := List.eq_nil_of_length_eq_zero (by omega)
    rw [List.append_nil]
    cases A with
    | none =>
      refine ⟨v, w, fun ty => ?_, ho, hf⟩
      obtain ⟨i0, hi, hz0, hz1, hz2⟩ := info_parts (show (Tryz.prog.info? 2).map (fun i => (i.zero, i.size, i.bytes)) = some (some (.int .i64 0), 1, 8) by kernel_rfl)
      rcases ho.2 with ⟨rfl, h1⟩ | ⟨g, cap, cur, rfl, _, _, hnc, _⟩
      · simp [Builtin.append_, run_underlying Tryz.underlying61, sizeOf, typeInfo, hi, Builtin.lenOf, Builtin.firstCells]
      · simp [Builtin.append_, run_underlying Tryz.underlying61, sizeOf, typeInfo, hi, Builtin.lenOf, Builtin.firstCells, hnc, storeCells]
    | some ad =>
      obtain ⟨i0, hi, hz0, hz1, hz2⟩ := info_parts (show (Tryz.prog.info? 2).map (fun i => (i.zero, i.size, i.bytes)) = some (some (.int .i64 0), 1, 8) by kernel_rfl)
      obtain ⟨v', w', hr, how, hgr, hnil, hat⟩ := run_append_own_at (P := Tryz.prog) w b 61 0 2 i0 (.int .i64 0) 1 8 Tryz.underlying61 hi hz0 hz1 hz2 rfl (by decide) v l.length (l.map iv) ho ad 0 c [] rfl (fun j u hu => by simp at hu) (fun u hu => by simp at hu) (by unfold maxLen; omega) (by omega) hbw
      refine ⟨v', w', fun ty => hr, by unfold ownI; rw [List.append_nil] at how; exact how, hf.grown hgr fun k hk e => ?_⟩
      have := (ho.lt k hk).1
      omega

theorem KR.lens {K : Nat → Prop} {w : World} {v : Value} {l : List Tx} (h : KR K w v l) : ∀ x ∈ l, x.length ≤ maxLen := fun x hx => by
  obtain ⟨A, c, rfl, -⟩ := KR.form h
  obtain ⟨i, hi, rfl⟩ := List.getElem_of_mem hx
  obtain ⟨_, _, _, _, _, _, h5⟩ := KR.at_ h hi
  exact h5
/-- A fact's parts are not too long to be copied. -/
def Cps (fs : List Fc) : Prop := ∀ f ∈ fs, f.dims.length ≤ 4000000 ∧ f.meas.length ≤ 4000000
set_option maxRecDepth 100000 in
set_option maxHeartbeats 2000000 in
theorem copied_any {K : Nat → Prop} {fs : List Fc} {v : Value} (w : World) (h : FR K w v fs) (hc : Cps fs) (hl : fs.length < 4000000) : Calls Tryz.prog 11 #[v] w (fun e w' => ∃ A n c, e = .returned (.slice A n c) ∧ n = fs.length ∧ FR (fun k => w.heap.size ≤ k) w' (.slice A n c) fs ∧ Fr No w w') := by
  obtain ⟨A0, N, c0, rfl, hN⟩ := row_form h
  obtain ⟨B, hB⟩ : ∃ B, w.heap.size = B := ⟨_, rfl⟩
  rw [hB]
  have HFR := Lib.hid (fun w' (f : Fr No w w') => h.no f)
  have HN := Lib.hid hN
  have HB := Lib.hid hB
  have HC := Lib.hid hc
  have hcm : N ≤ 4000000 := by omega
  clear h hB hc hN
  go_enter Tryz.func11, Tryz.ntmps11
  go_upto_region 3 with fail
  go_loopg [3, 4, 5] N (fun gk r3 r4 r5 wr => Hid (∃ (j a : Nat) (A : Option Addr) (c : Nat), r4 = .int .i64 (j : Nat) ∧ j + gk = N ∧ r3 = .slice A a c ∧ a = j ∧ GrX (fun k => B ≤ k) B 63 2 fcG wr (.slice A a c) (fs.take j) ∧ Fr No w wr))
  case atStart => exact Lib.hid ⟨0, 0, none, 0, rfl, by omega, rfl, rfl, GrX.nil_ _ _ _ _ _ _, Fr.refl _ _⟩
  case round =>
  obtain ⟨j, a, A, c, rfl, hjk, rfl, ha, hg, hf⟩ := hrel.out
  clear hrel
  have HA := Lib.hid ha
  have HG := Lib.hid hg
  have HF := Lib.hid hf
  clear ha hg hf
  by_cases hj : j < N
  · have hji : (j : Int) < (N : Int) := by omega
    have hjl : j < fs.length := by have := HN.out; omega
    obtain ⟨g, off, dv, mv, rfl, -, hgl, x0, x1, hdk, hmi⟩ := (HFR.out wr HF.out).at_ hjl
    have HT := Lib.hid (take_succ hjl)
    have HCX := Lib.hid (HC.out _ (List.getElem_mem hjl))
    obtain ⟨dA, dc, rfl, -⟩ := hdk.form
    obtain ⟨mA, mc, rfl, -⟩ := hmi.form
    generalize fs[j] = x at *
    have HLEN := Lib.hid hdk.lens
    have HI64 := Lib.hid hmi.i64s
    have HDK := Lib.hid (fun w' (f : Fr No wr w') => hdk.no f)
    have HMI := Lib.hid (fun w' (f : Fr No wr w') => hmi.no f)
    obtain ⟨dn, hdn⟩ : ∃ n, x.dims.length = n := ⟨_, rfl⟩
    obtain ⟨mn, hmn⟩ : ∃ n, x.meas.length = n := ⟨_, rfl⟩
    rw [hdn] at HDK x0
    rw [hmn] at HMI x1
    have HDN := Lib.hid hdn
    have HMN := Lib.hid hmn
    obtain ⟨y, hy⟩ : ∃ y, wr.heap.size = y := ⟨_, rfl⟩
    obtain ⟨wa, hwa⟩ : ∃ wa, wr.alloc (.cells #[.slice none 0 0, .slice none 0 0] 63) = wa := ⟨_, rfl⟩
    have fa : Fr No wr wa := by rw [← hwa]; exact (Fr.refl No wr).alloc _
    have hba : Blk wa y 63 #[.slice none 0 0, .slice none 0 0] := by rw [← hwa, ← hy]; exact Blk.new wr 63 _
    have HFA := Lib.hid fa
    have HBA := Lib.hid hba
    have HWA := Lib.hid hwa
    have HY := Lib.hid hy
    have HCL : Hid (∀ w', Fr No wr w' → w'.cell? ⟨g, off + j * 2, none⟩ = some (.slice dA dn dc) ∧ w'.cell? ⟨g, off + j * 2 + 1, none⟩ = some (.slice mA mn mc)) := Lib.hid fun w' f' => ⟨(cell_of_heap (f'.block g hgl id)).trans x0, (cell_of_heap (f'.block g hgl id)).trans x1⟩
    clear hdk hmi hdn hmn hy hwa fa hba x0 x1
    go_upto_region 6 with fail
    rw [HWA.out, HY.out]
    have HR1 : Hid (∀ W, Fr No wa W → ∃ A1 c1 w1, (∀ ty, (Builtin.append_ #[42, 42] ty #[.slice none 0 0, .slice dA dn dc]).run Tryz.prog W = .ok (.slice A1 dn c1) w1) ∧ w1.cell? ⟨y, 0, none⟩ = some (.slice none 0 0) ∧ w1.frozen? ⟨y, 0, none⟩ = false ∧ Hid (ownT wa.heap.size w1 (.slice A1 dn c1) x.dims ∧ Fr No wa w1)) := Lib.hid fun W fW => by
      obtain ⟨v', w1, r1, o1, f1⟩ := app_text (v := .slice none 0 0) (l := []) (Fr.refl No W) rfl ⟨by simp, .inl ⟨rfl, rfl⟩⟩ (HDK.out W (HFA.out.tr fW)) (by simp) HCX.out.1
      rw [List.nil_append] at o1
      obtain ⟨A1, c1, rfl⟩ : ∃ A1 c1, v' = .slice A1 dn c1 := by
        obtain ⟨A1, c1, e, _⟩ := o1.row HLEN.out
        exact ⟨A1, c1, by rw [e, HDN.out]⟩
      have hb := (HBA.out.no fW).no f1
      exact ⟨A1, c1, w1, r1, hb.cell 0, hb.frozen 0, Lib.hid ⟨own_base o1 fW.size, fW.tr f1⟩⟩
    obtain ⟨u0, -⟩ := HCL.out wa HFA.out
    have b0 := HBA.out.cell 0
    go_cut [] (fun wx => ∃ A1 c1 w1, Hid (ownT wa.heap.size w1 (.slice A1 dn c1) x.dims ∧ Fr No wa w1 ∧ wx = w1.setCell ⟨y, 0, none⟩ (.slice A1 dn c1)))
    case first =>
      go_region_law (first
        | (obtain ⟨A1, c1, w1, hrun, k0, k1, H1⟩ := HR1.out wa (Fr.refl _ _); refine step_add (by rfl) _ _ _ _ (by rfl) _ _ _ _ (by rfl) (by rfl) (hrun _) ?_)
        | (obtain ⟨A1, c1, w1, hrun, k0, k1, H1⟩ := HR1.out wa.drew (Fr.refl _ _).drew; refine step_add (by rfl) _ _ _ _ (by rfl) _ _ _ _ (by rfl) (by rfl) (hrun _) ?_))
      all_goals (go_simp; go_wp2_with fail)
      all_goals go_meet
      all_goals exact ⟨A1, c1, _, Lib.hid ⟨H1.out.1, H1.out.2, rfl⟩⟩
    case rest =>
      obtain ⟨A1, c1, w1, H1⟩ := hcut
      obtain ⟨wk, rfl⟩ : ∃ wk, wk = wc := ⟨_, rfl⟩
      have hsz : wa.heap.size = y + 1 := by rw [← HWA.out, ← HY.out]; simp
      have hfk : Fr No wr wk := by rw [H1.out.2.2]; exact (HFA.out.tr H1.out.2.1).set_new (by rw [HY.out]; exact Nat.le_refl _) _
      have hbk : Blk wk y 63 #[.slice A1 dn c1, .slice none 0 0] := by rw [H1.out.2.2]; exact (HBA.out.no H1.out.2.1).set_ 0 _
      have ho1 : ownT (y + 1) wk (.slice A1 dn c1) x.dims := by
        have h1 := H1.out.1
        rw [hsz] at h1
        rw [H1.out.2.2]
        exact own_of h1 fun k hk => Below.heap_setCell _ _ _ _ (by show k ≠ y; have := (h1.lt k hk).1; omega)
      have hyk : y + 1 ≤ wk.heap.size := by have := hbk.lt; omega
      have HFK := Lib.hid hfk
      have HBK := Lib.hid hbk
      have HO1 := Lib.hid ho1
      have HYK := Lib.hid hyk
      obtain ⟨-, u1⟩ := HCL.out wk hfk
      have b1 := hbk.cell 1
      have HR2 : Hid (∀ W, Fr No wk W → ∃ A2 c2 w2, (∀ ty, (Builtin.append_ #[61, 61] ty #[.slice none 0 0, .slice mA mn mc]).run Tryz.prog W = .ok (.slice A2 mn c2) w2) ∧ w2.cell? ⟨y, 1, none⟩ = some (.slice none 0 0) ∧ w2.frozen? ⟨y, 1, none⟩ = false ∧ Hid (ownI (y + 1) w2 (.slice A2 mn c2) x.meas ∧ Fr No wk w2)) := Lib.hid fun W fW => by
        obtain ⟨v', w2, r1, o1, f1⟩ := app_ints (v := .slice none 0 0) (l := []) (Fr.refl No W) rfl ⟨by simp, .inl ⟨rfl, rfl⟩⟩ (HMI.out W (HFK.out.tr fW)) (by simp) HCX.out.2
        rw [List.nil_append] at o1
        obtain ⟨A2, c2, rfl⟩ : ∃ A2 c2, v' = .slice A2 mn c2 := by
          obtain ⟨A2, c2, e, _⟩ := o1.row HI64.out
          exact ⟨A2, c2, by rw [e, HMN.out]⟩
        have hb := (HBK.out.no fW).no f1
        exact ⟨A2, c2, w2, r1, hb.cell 1, hb.frozen 1, Lib.hid ⟨own_base o1 (Nat.le_trans HYK.out fW.size), fW.tr f1⟩⟩
      clear hsz hfk hbk ho1 hyk u0 b0 HR1 H1 HBA
      go_upto_region 7 with fail
      go_cut [] (fun wx => ∃ A2 c2 w2, Hid (ownI (y + 1) w2 (.slice A2 mn c2) x.meas ∧ Fr No wk w2 ∧ wx = w2.setCell ⟨y, 1, none⟩ (.slice A2 mn c2)))
      case first =>
        go_region_law (first
          | (obtain ⟨A2, c2, w2, hrun, k0, k1, H2⟩ := HR2.out wk (Fr.refl _ _); refine step_add (by rfl) _ _ _ _ (by rfl) _ _ _ _ (by rfl) (by rfl) (hrun _) ?_)
          | (obtain ⟨A2, c2, w2, hrun, k0, k1, H2⟩ := HR2.out wk.drew (Fr.refl _ _).drew; refine step_add (by rfl) _ _ _ _ (by rfl) _ _ _ _ (by rfl) (by rfl) (hrun _) ?_))
        all_goals (go_simp; go_wp2_with fail)
        all_goals go_meet
        all_goals exact ⟨A2, c2, _, Lib.hid ⟨H2.out.1, H2.out.2, rfl⟩⟩
      case rest =>
        obtain ⟨A2, c2, w2, H2⟩ := hcut
        have hfd : Fr No wr wc := by rw [H2.out.2.2]; exact (HFK.out.tr H2.out.2.1).set_new (by rw [HY.out]; exact Nat.le_refl _) _
        have hbd : Blk wc y 63 #[.slice A1 dn c1, .slice A2 mn c2] := by rw [H2.out.2.2]; exact (HBK.out.no H2.out.2.1).set_ 1 _
        have ho1 : ownT (y + 1) wc (.slice A1 dn c1) x.dims := by
          have h1 := HO1.out.keep H2.out.2.1
          rw [H2.out.2.2]
          exact own_of h1 fun k hk => Below.heap_setCell _ _ _ _ (by show k ≠ y; have := (h1.lt k hk).1; omega)
        have ho2 : ownI (y + 1) wc (.slice A2 mn c2) x.meas := by
          have h1 := H2.out.1
          rw [H2.out.2.2]
          exact own_of h1 fun k hk => Below.heap_setCell _ _ _ _ (by show k ≠ y; have := (h1.lt k hk).1; omega)
        have hx : fcG (fun k => y + 1 ≤ k) wc x [.slice A1 dn c1, .slice A2 mn c2] := ⟨_, _, rfl, ho1.row HLEN.out, ho2.row HI64.out⟩
        have hlen : (fs.take j).length = j := by rw [List.length_take]; omega
        have hbw : B ≤ wc.heap.size := by have := HF.out.size; have := hfd.size; have := HB.out; omega
        obtain ⟨A3, c3, w3, hrun, hg3, hf3, -⟩ := (HG.out.keep fcG_elem hfd fun _ h _ => h.elim).add (bytes := 48) fcG_elem hbw 22 Tryz.underlying22 _ info63 rfl (by decide) x _ rfl (fcG_one _ _ _ _ hx) hx (fun k hk _ => ⟨by have := HF.out.size; have := HB.out; have := HY.out; omega, fun e => by have := (HG.out.lt k e).2; have := HY.out; omega⟩) (by rw [hlen]; omega) (by rw [hlen]; unfold maxLen; omega)
        rw [hlen] at hrun hg3
        have HRUN := Lib.hid hrun
        have HG3 := Lib.hid hg3
        have HF3 : Hid (Fr No w w3) := Lib.hid ((HF.out.tr hfd).trans hf3 fun k hk e => by have := (HG.out.lt k e).1; have := HB.out; omega)
        have d0 := hbd.cell 0
        have d1 := hbd.cell 1
        have hdl := hbd.lt
        have ha := HA.out
        subst ha
        clear hrun hg3 hf3 hfd hbd ho1 ho2 hx hlen hbw H2 HR2 u1 b1
        go_wp2_with (at_builtin; refine wpList_add rfl _ _ _ _ rfl _ _ _ _ rfl rfl (HRUN.out _) ?_)
        obtain ⟨g1, rfl⟩ : ∃ g1, gk = g1 + 1 := ⟨gk - 1, by omega⟩
        go_roundg g1
        case rel => exact Lib.hid ⟨a + 1, a + 1, A3, c3, by go_num, by omega, rfl, rfl, by rw [HT.out]; exact HG3.out, HF3.out⟩
        all_goals omega
  · have hji : (N : Int) ≤ (j : Int) := by omega
    have HT : Hid (fs.take j = fs) := Lib.hid (List.take_of_length_le (by have := HN.out; omega))
    have HE : Hid (FR (fun k => B ≤ k) wr (.slice A a c) fs) := Lib.hid (by
      have h1 := HG.out
      rw [HT.out] at h1
      exact (h1.grow fun k hk => hk).row fcG_elem)
    go_wp2_with fail
    go_ret
    exact ⟨A, a, c, rfl, by have := HA.out; have := HN.out; omega, HE.out, HF.out⟩
end Go.Proofs.YtlpglijikmnopaaGreatDoor
namespace Go.Proofs.YtlpglijikmnopaaGreatDoor
open Go.RowKit Go.Maps Go.Sort Go.Proofs
set_option linter.unusedVariables false

set_option maxRecDepth 100000 in
set_option maxHeartbeats 4000000 in
theorem sameFacts_any {K K2 : Nat → Prop} {fs : List Fc} {v v2 : Value} (w : World) (h : FR K w v fs) (h2 : FR K2 w v2 fs) : Calls Tryz.prog 17 #[v, v2] w (TellsB true w) := by
  obtain ⟨A, N, c, rfl, hN⟩ := row_form h
  obtain ⟨A2, N2, c2, rfl, hN2⟩ := row_form h2
  obtain rfl : N = N2 := by omega
  have hcm : N ≤ 9223372036854775807 := by
    obtain ⟨A', c', e, h1, h3, -⟩ := h
    injection e with e1 e2 e3
    unfold maxLen at h3
    omega
  have HA := Lib.hid (fun w' (f : Fr No w w') => h.no f)
  have HB := Lib.hid (fun w' (f : Fr No w w') => h2.no f)
  have HN := Lib.hid hN
  clear h h2 hN hN2
  go_enter Tryz.func17, Tryz.ntmps17
  go_upto_region 2 with fail
  go_loopg [5, 6, 7] N (fun gk r5 r6 r7 wr => Hid (∃ j : Nat, r5 = .int .i64 (j : Nat) ∧ j + gk = N ∧ Fr No w wr))
  case atStart => exact Lib.hid ⟨0, rfl, by omega, Fr.refl _ _⟩
  case round =>
  obtain ⟨j, rfl, hjk, hf⟩ := hrel.out
  clear hrel
  obtain ⟨wo, rfl⟩ : ∃ wo, wo = wr := ⟨_, rfl⟩
  have HF := Lib.hid hf
  clear hf
  by_cases hj : j < N
  · have hji : (j : Int) < (N : Int) := by omega
    have hjl : j < fs.length := by have := HN.out; omega
    obtain ⟨g, off, dv, mv, rfl, -, hg, x0, x1, hdk, hmi⟩ := (HA.out wo HF.out).at_ hjl
    obtain ⟨g', off', dv', mv', rfl, -, hg', y0, y1, hdk', hmi'⟩ := (HB.out wo HF.out).at_ hjl
    generalize fs[j] = x at *
    obtain ⟨dA, dc, rfl, hd1, hd2⟩ := hdk.form
    obtain ⟨mA, mc, rfl, hm1, hm2⟩ := hmi.form
    obtain ⟨dA', dc', rfl, -, -⟩ := hdk'.form
    obtain ⟨mA', mc', rfl, -, -⟩ := hmi'.form
    have HD := Lib.hid (fun w' (f : Fr No wo w') => hdk.no f)
    have HD' := Lib.hid (fun w' (f : Fr No wo w') => hdk'.no f)
    have HM := Lib.hid (fun w' (f : Fr No wo w') => hmi.no f)
    have HM' := Lib.hid (fun w' (f : Fr No wo w') => hmi'.no f)
    obtain ⟨dn, hdn⟩ : ∃ n, x.dims.length = n := ⟨_, rfl⟩
    obtain ⟨mn, hmn⟩ : ∃ n, x.meas.length = n := ⟨_, rfl⟩
    rw [hdn] at HD HD' x0 y0 hd1
    rw [hmn] at HM HM' x1 y1 hm1
    have HDN := Lib.hid hdn
    have HMN := Lib.hid hmn
    unfold maxLen at hd2 hm2
    have HCL : Hid (∀ w', Fr No wo w' → (w'.cell? ⟨g, off + j * 2, none⟩ = some (.slice dA dn dc) ∧ w'.cell? ⟨g, off + j * 2 + 1, none⟩ = some (.slice mA mn mc)) ∧ w'.cell? ⟨g', off' + j * 2, none⟩ = some (.slice dA' dn dc') ∧ w'.cell? ⟨g', off' + j * 2 + 1, none⟩ = some (.slice mA' mn mc')) := Lib.hid fun w' f' => ⟨⟨(cell_of_heap (f'.block g hg id)).trans x0, (cell_of_heap (f'.block g hg id)).trans x1⟩, (cell_of_heap (f'.block g' hg' id)).trans y0, (cell_of_heap (f'.block g' hg' id)).trans y1⟩
    clear hdk hmi hdk' hmi' hdn hmn x0 x1 y0 y1
    obtain ⟨g1, rfl⟩ : ∃ g1, gk = g1 + 1 := ⟨gk - 1, by omega⟩
    go_upto_region 5 with fail
    go_loopg [6] dn (fun k r6 wr => Hid (∃ i : Nat, r6 = .int .i64 (i : Nat) ∧ i + k = dn ∧ Fr No wo wr))
    case atStart => exact Lib.hid ⟨0, rfl, by omega, Fr.refl _ _⟩
    case round =>
    obtain ⟨i, rfl, hik, hf2⟩ := hrel.out
    clear hrel
    obtain ⟨wp, rfl⟩ : ∃ wp, wp = wr := ⟨_, rfl⟩
    have HF2 := Lib.hid hf2
    clear hf2
    obtain ⟨⟨x0, x1⟩, y0, y1⟩ := HCL.out wp HF2.out
    by_cases hi : i < dn
    · have hii : (i : Int) < (dn : Int) := by omega
      have hil : i < x.dims.length := by rw [HDN.out]; exact hi
      obtain ⟨g2, o2, rfl, -, -, t0, -⟩ := (HD.out wp HF2.out).at_ hil
      obtain ⟨g3, o3, rfl, -, -, t1, -⟩ := (HD'.out wp HF2.out).at_ hil
      generalize x.dims[i] = tx at *
      clear x1 y1
      go_upto_region 7 with fail
      go_quiet (fail)
      go_wp2_with fail
      obtain ⟨g2', rfl⟩ : ∃ g2, gk = g2 + 1 := ⟨gk - 1, by omega⟩
      go_roundg g2'
      case rel => exact Lib.hid ⟨i + 1, by go_num, by omega, HF2.out.drewN _⟩
      all_goals omega
    · have hii : (dn : Int) ≤ (i : Int) := by omega
      clear x1 y0 y1
      go_upto_region 10 with fail
      go_loopg [7] mn (fun k r7 wr => Hid (∃ i : Nat, r7 = .int .i64 (i : Nat) ∧ i + k = mn ∧ Fr No wo wr))
      case atStart => exact Lib.hid ⟨0, rfl, by omega, HF2.out⟩
      case round =>
      obtain ⟨i', rfl, hik', hf3⟩ := hrel.out
      clear hrel
      have HF3 := Lib.hid hf3
      clear hf3 x0
      obtain ⟨⟨x0, x1⟩, y0, y1⟩ := HCL.out wr HF3.out
      by_cases hi' : i' < mn
      · have hii' : (i' : Int) < (mn : Int) := by omega
        have hil : i' < x.meas.length := by rw [HMN.out]; exact hi'
        obtain ⟨g2, o2, rfl, -, -, t0, -⟩ := (HM.out wr HF3.out).at_ hil
        obtain ⟨g3, o3, rfl, -, -, t1, -⟩ := (HM'.out wr HF3.out).at_ hil
        generalize x.meas[i'] = tx at *
        clear x0 y0
        go_upto_region 12 with fail
        go_quiet (fail)
        go_wp2_with fail
        obtain ⟨g2', rfl⟩ : ∃ g2, gk = g2 + 1 := ⟨gk - 1, by omega⟩
        go_roundg g2'
        case rel => exact Lib.hid ⟨i' + 1, by go_num, by omega, HF3.out.drewN _⟩
        all_goals omega
      · have hii' : (mn : Int) ≤ (i' : Int) := by omega
        clear x0 y0
        go_wp2_with fail
        go_roundg g1
        case rel => exact Lib.hid ⟨j + 1, by go_num, by omega, HF.out.tr HF3.out⟩
        all_goals omega
  · have hji : (N : Int) ≤ (j : Int) := by omega
    go_wp2_with fail
    go_ret
    exact ⟨rfl, HF.out⟩
end Go.Proofs.YtlpglijikmnopaaGreatDoor
namespace Go.Proofs.YtlpglijikmnopaaGreatDoor
open Go.RowKit Go.Maps Go.Sort Go.Proofs
set_option linter.unusedVariables false

/-- What a writing over leaves: slices as they were, cells that stand. -/
structure Spo (b : Nat → Prop) (w W : World) : Prop where
  fr : Fr b w W
  sl : ∀ p A n c, w.cell? p = some (.slice A n c) → W.cell? p = some (.slice A n c)
  ce : ∀ p u, w.cell? p = some u → ∃ u', W.cell? p = some u'
  fz : ∀ p, W.frozen? p = w.frozen? p
theorem Spo.refl (b : Nat → Prop) (w : World) : Spo b w w := ⟨Fr.refl _ _, fun _ _ _ _ h => h, fun _ u h => ⟨u, h⟩, fun _ => rfl⟩
theorem Spo.step {b : Nat → Prop} {w W : World} {p : Addr} {u : Value} (h : Spo b w W) (hb : b p.block) (hp : w.cell? p = some u) (hu : ∀ A n c, u ≠ .slice A n c) (x : Value) : Spo b w (W.setCell p x) :=
  ⟨h.fr.setCell (fun _ => hb) x, fun q A n c hq => by
    have hne : p ≠ q := by
      rintro rfl
      rw [hp] at hq
      injection hq with hq
      exact hu A n c hq
    exact (World.cell?_setCell_other _ _ _ _ hne).trans (h.sl q A n c hq), fun q u' hq => by
    obtain ⟨v, hv⟩ := h.ce q u' hq
    exact cell?_setCell_some hv, fun q => (World.frozen?_setCell _ _ _ _).trans (h.fz q)⟩
theorem spo_key {b : Nat → Prop} {w : World} {A : Option Addr} {n c : Nat} {k : Ky} (h : KRz b w (.slice A n c) k) {i : Nat} (hi : i < k.length) :
    ∃ g o, A = some ⟨g, o, none⟩ ∧ ∀ W, Spo b w W → (∃ u, W.cell? ⟨g, o + i, none⟩ = some u) ∧ W.frozen? ⟨g, o + i, none⟩ = false ∧ ∀ x, Spo b w (W.setCell ⟨g, o + i, none⟩ x) := by
  have hf : n = k.length := by
    obtain ⟨A', c', e, _⟩ := h.form
    injection e
  obtain ⟨g, o, rfl, hK, hg, hc, -⟩ := KR.at_ h.1 hi
  have hz := h.2 _ _ _ rfl (by omega) (o + i)
  exact ⟨g, o, rfl, fun W hs => ⟨hs.ce _ _ hc, (hs.fz _).trans hz, fun x => hs.step hK hc (fun _ _ _ e => by cases e) x⟩⟩
theorem spo_part {b : Nat → Prop} {w : World} {A : Option Addr} {n c : Nat} {k : List Pt} (h : PRz b w (.slice A n c) k) {i : Nat} (hi : i < k.length) :
    ∃ g o, A = some ⟨g, o, none⟩ ∧ ∀ W, Spo b w W → (∃ u0 u1 u2 u3 u4, W.cell? ⟨g, o + i * 5, none⟩ = some u0 ∧ W.cell? ⟨g, o + i * 5 + 1, none⟩ = some u1 ∧ W.cell? ⟨g, o + i * 5 + 2, none⟩ = some u2 ∧ W.cell? ⟨g, o + i * 5 + 3, none⟩ = some u3 ∧ W.cell? ⟨g, o + i * 5 + 4, none⟩ = some u4) ∧ (∀ q, W.frozen? ⟨g, q, none⟩ = false) ∧
      ∀ x0 x1 x2 x3 x4, Spo b w (((((W.setCell ⟨g, o + i * 5, none⟩ x0).setCell ⟨g, o + i * 5 + 1, none⟩ x1).setCell ⟨g, o + i * 5 + 2, none⟩ x2).setCell ⟨g, o + i * 5 + 3, none⟩ x3).setCell ⟨g, o + i * 5 + 4, none⟩ x4) := by
  have hf : n = k.length := by
    obtain ⟨A', c', e, _⟩ := h.form
    injection e
  obtain ⟨g, o, rfl, hK, hg, h5⟩ := PR.at_ h.1 hi
  have hz := fun q => h.2 _ _ _ rfl (by omega) q
  obtain ⟨c0, c1, c2, c3, c4⟩ := h5 i hi
  refine ⟨g, o, rfl, fun W hs => ⟨?_, fun q => (hs.fz _).trans (hz q), fun x0 x1 x2 x3 x4 => ?_⟩⟩
  · obtain ⟨u0, d0⟩ := hs.ce _ _ c0
    obtain ⟨u1, d1⟩ := hs.ce _ _ c1
    obtain ⟨u2, d2⟩ := hs.ce _ _ c2
    obtain ⟨u3, d3⟩ := hs.ce _ _ c3
    obtain ⟨u4, d4⟩ := hs.ce _ _ c4
    exact ⟨u0, u1, u2, u3, u4, d0, d1, d2, d3, d4⟩
  · have s0 := hs.step hK c0 (fun _ _ _ e => by cases e) x0
    have s1 := s0.step (p := ⟨g, o + i * 5 + 1, none⟩) hK c1 (fun _ _ _ e => by cases e) x1
    have s2 := s1.step (p := ⟨g, o + i * 5 + 2, none⟩) hK c2 (fun _ _ _ e => by cases e) x2
    have s3 := s2.step (p := ⟨g, o + i * 5 + 3, none⟩) hK c3 (fun _ _ _ e => by cases e) x3
    exact s3.step (p := ⟨g, o + i * 5 + 4, none⟩) hK c4 (fun _ _ _ e => by cases e) x4
theorem rz_at {K K2 : Nat → Prop} {w : World} {A : Option Addr} {n c : Nat} {l : List Rw} (h : RowE K w 3 (rwU K2 w) (.slice A n c) l) {j : Nat} (hj : j < l.length) :
    ∃ g off A1 n1 c1 A2 n2 c2, A = some ⟨g, off, none⟩ ∧ w.cell? ⟨g, off + j * 3, none⟩ = some (.slice A1 n1 c1) ∧ w.cell? ⟨g, off + j * 3 + 2, none⟩ = some (.slice A2 n2 c2) ∧ KRz K2 w (.slice A1 n1 c1) l[j].key ∧ PRz K2 w (.slice A2 n2 c2) l[j].acc.parts ∧ (n1 = l[j].key.length ∧ n1 ≤ maxLen) ∧ n2 = l[j].acc.parts.length ∧ n2 ≤ maxLen := by
  obtain ⟨A', c', e, h1, h2, h3⟩ := h
  injection e with e1 e2 e3
  subst e1; subst e3
  obtain ⟨g, off, ea, hg, hgl, hel⟩ := h3 (by omega)
  obtain ⟨cs, hcl, hcs, kv, pv, rfl, hkr, hpr⟩ := hel j hj
  obtain ⟨A1, c1, rfl, hk1, hk2⟩ := hkr.form
  obtain ⟨A2, c2, rfl, hp1, hp2⟩ := hpr.form
  exact ⟨g, off, A1, _, c1, A2, _, c2, ea, hcs 0 (by decide), hcs 2 (by decide), hkr, hpr, ⟨rfl, Nat.le_trans hk1 hk2⟩, rfl, Nat.le_trans hp1 hp2⟩
set_option maxRecDepth 100000 in
set_option maxHeartbeats 4000000 in
theorem spoil_any {b : Nat → Prop} {l : List Rw} {v : Value} (w : World) (h : RRz b w v l) : Calls Tryz.prog 16 #[v] w (fun e w' => e = .returned (.tuple #[]) ∧ Fr b w w') := by
  obtain ⟨A, N, c, rfl, hN⟩ := row_form h
  have hcm : N ≤ 9223372036854775807 := by
    obtain ⟨A', c', e, h1, h3, -⟩ := h
    injection e with e1 e2 e3
    unfold maxLen at h3
    omega
  have HROW : Hid (∀ j, j < N → ∃ g off A1 n1 c1 A2 n2 c2, A = some ⟨g, off, none⟩ ∧ (∀ W, Spo b w W → W.cell? ⟨g, off + j * 3, none⟩ = some (.slice A1 n1 c1) ∧ W.cell? ⟨g, off + j * 3 + 2, none⟩ = some (.slice A2 n2 c2)) ∧ (n1 ≤ 9223372036854775807 ∧ n2 ≤ 9223372036854775807) ∧
      (∀ i, i < n1 → ∃ g o, A1 = some ⟨g, o, none⟩ ∧ ∀ W, Spo b w W → (∃ u, W.cell? ⟨g, o + i, none⟩ = some u) ∧ W.frozen? ⟨g, o + i, none⟩ = false ∧ ∀ x, Spo b w (W.setCell ⟨g, o + i, none⟩ x)) ∧
      (∀ i, i < n2 → ∃ g o, A2 = some ⟨g, o, none⟩ ∧ ∀ W, Spo b w W → (∃ u0 u1 u2 u3 u4, W.cell? ⟨g, o + i * 5, none⟩ = some u0 ∧ W.cell? ⟨g, o + i * 5 + 1, none⟩ = some u1 ∧ W.cell? ⟨g, o + i * 5 + 2, none⟩ = some u2 ∧ W.cell? ⟨g, o + i * 5 + 3, none⟩ = some u3 ∧ W.cell? ⟨g, o + i * 5 + 4, none⟩ = some u4) ∧ (∀ q, W.frozen? ⟨g, q, none⟩ = false) ∧
        ∀ x0 x1 x2 x3 x4, Spo b w (((((W.setCell ⟨g, o + i * 5, none⟩ x0).setCell ⟨g, o + i * 5 + 1, none⟩ x1).setCell ⟨g, o + i * 5 + 2, none⟩ x2).setCell ⟨g, o + i * 5 + 3, none⟩ x3).setCell ⟨g, o + i * 5 + 4, none⟩ x4))) := Lib.hid fun j hj => by
    obtain ⟨g, off, A1, n1, c1, A2, n2, c2, e, h0, h2, hk, hp, ⟨hn1, hm1⟩, hn2, hm2⟩ := rz_at h (j := j) (by omega)
    unfold maxLen at hm1 hm2
    exact ⟨g, off, A1, n1, c1, A2, n2, c2, e, fun W hs => ⟨hs.sl _ _ _ _ h0, hs.sl _ _ _ _ h2⟩, ⟨by omega, by omega⟩, fun i hi => spo_key hk (by omega), fun i hi => spo_part hp (by omega)⟩
  clear h hN
  go_enter Tryz.func16, Tryz.ntmps16
  go_upto_region 1 with fail
  go_loopg [2, 3, 4] N (fun gk r2 r3 r4 wr => Hid (∃ j : Nat, r2 = .int .i64 (j : Nat) ∧ j + gk = N ∧ Spo b w wr))
  case atStart => exact Lib.hid ⟨0, rfl, by omega, Spo.refl _ _⟩
  case round =>
  obtain ⟨j, rfl, hjk, hf⟩ := hrel.out
  clear hrel
  obtain ⟨wo, rfl⟩ : ∃ wo, wo = wr := ⟨_, rfl⟩
  have HF := Lib.hid hf
  clear hf
  by_cases hj : j < N
  · have hji : (j : Int) < (N : Int) := by omega
    obtain ⟨g, off, A1, n1, c1, A2, n2, c2, rfl, hcl, ⟨hm1, hm2⟩, hkey, hpart⟩ := HROW.out j hj
    have HCL := Lib.hid hcl
    have HKEY := Lib.hid hkey
    have HPART := Lib.hid hpart
    clear hcl hkey hpart
    obtain ⟨g1, rfl⟩ : ∃ g1, gk = g1 + 1 := ⟨gk - 1, by omega⟩
    go_upto_region 4 with fail
    go_loopg [3] n1 (fun k r3 wr => Hid (∃ i : Nat, r3 = .int .i64 (i : Nat) ∧ i + k = n1 ∧ Spo b w wr))
    case atStart => exact Lib.hid ⟨0, rfl, by omega, HF.out⟩
    case round =>
    obtain ⟨i, rfl, hik, hf2⟩ := hrel.out
    clear hrel
    obtain ⟨wp, rfl⟩ : ∃ wp, wp = wr := ⟨_, rfl⟩
    have HF2 := Lib.hid hf2
    clear hf2
    obtain ⟨x0, x2⟩ := HCL.out wp HF2.out
    by_cases hi : i < n1
    · have hii : (i : Int) < (n1 : Int) := by omega
      obtain ⟨g2, o2, rfl, hW⟩ := HKEY.out i hi
      obtain ⟨⟨u, t0⟩, z0, hs⟩ := hW wp HF2.out
      have HS := Lib.hid hs
      clear hs hW x2
      obtain ⟨g2', rfl⟩ : ∃ g2, gk = g2 + 1 := ⟨gk - 1, by omega⟩
      go_wp2_with fail
      go_roundg g2'
      case rel => exact Lib.hid ⟨i + 1, by go_num, by omega, HS.out _⟩
      all_goals omega
    · have hii : (n1 : Int) ≤ (i : Int) := by omega
      clear x2
      go_upto_region 8 with fail
      go_loopg [4] n2 (fun k r4 wr => Hid (∃ i : Nat, r4 = .int .i64 (i : Nat) ∧ i + k = n2 ∧ Spo b w wr))
      case atStart => exact Lib.hid ⟨0, rfl, by omega, HF2.out⟩
      case round =>
      obtain ⟨i', rfl, hik', hf3⟩ := hrel.out
      clear hrel x0
      have HF3 := Lib.hid hf3
      clear hf3
      obtain ⟨x0, x2⟩ := HCL.out wr HF3.out
      by_cases hi' : i' < n2
      · have hii' : (i' : Int) < (n2 : Int) := by omega
        obtain ⟨g2, o2, rfl, hW⟩ := HPART.out i' hi'
        obtain ⟨⟨u0, u1, u2, u3, u4, t0, t1, t2, t3, t4⟩, z0, hs⟩ := hW wr HF3.out
        have HS := Lib.hid hs
        clear hs hW x0
        obtain ⟨g2', rfl⟩ : ∃ g2, gk = g2 + 1 := ⟨gk - 1, by omega⟩
        go_wp2_with fail
        go_roundg g2'
        case rel => exact Lib.hid ⟨i' + 1, by go_num, by omega, HS.out _ _ _ _ _⟩
        all_goals omega
      · have hii' : (n2 : Int) ≤ (i' : Int) := by omega
        clear x0
        go_wp2_with fail
        go_roundg g1
        case rel => exact Lib.hid ⟨j + 1, by go_num, by omega, HF3.out⟩
        all_goals omega
  · have hji : (N : Int) ≤ (j : Int) := by omega
    go_wp2_with fail
    exact bodyPost_end (v := .tuple #[]) (results_none rfl _ _ _) rfl ⟨rfl, HF.out.fr⟩
end Go.Proofs.YtlpglijikmnopaaGreatDoor
namespace Go.Proofs.YtlpglijikmnopaaGreatDoor
open Go.RowKit Go.Maps Go.Sort Go.Proofs
set_option linter.unusedVariables false

theorem meant_ref {t : Bd.Ts} {v : Value} {b : Nat} {w0 : World} (h : Bd.TsAt (fun k => k < b) w0 t v) : MeantC v (refM t) b w0 := by
  by_cases hn : t = .none
  · subst hn
    obtain rfl : v = .pointer none := h
    have e : refM .none = fun _ => true := by funext f; unfold refM; rw [if_pos rfl]
    rw [e]
    exact meant_nil _ _
  · have e : refM t = testM t := by funext f; unfold refM; rw [if_neg hn]
    rw [e]
    exact meant_test h hn
theorem FR.keepK {K : Nat → Prop} {w w' : World} {v : Value} {l : List Fc} (h : FR K w v l) (f : ∀ k, K k → k < w.heap.size → w'.heap[k]? = w.heap[k]?) : FR K w' v l :=
  RowE.mono h (fun k hk hl => ⟨hk, f k hk hl⟩) fun x cs hx => fcG_elem.mono _ _ _ _ _ _ hx fun k hk hl => ⟨hk, f k hk hl⟩
theorem RR.keepK {K : Nat → Prop} {w w' : World} {v : Value} {l : List Rw} (h : RR K w v l) (f : ∀ k, K k → k < w.heap.size → w'.heap[k]? = w.heap[k]?) : RR K w' v l :=
  RowE.mono h (fun k hk hl => ⟨hk, f k hk hl⟩) fun x cs hx => rwG_elem.mono _ _ _ _ _ _ hx fun k hk hl => ⟨hk, f k hk hl⟩
theorem RRz.keepK {K : Nat → Prop} {w w' : World} {v : Value} {l : List Rw} (h : RRz K w v l) (f : ∀ k, K k → k < w.heap.size → w'.heap[k]? = w.heap[k]?) : RRz K w' v l :=
  RowE.mono h (fun k hk hl => ⟨hk, f k hk hl⟩) fun x cs hx => rwU_elem.mono _ _ _ _ _ _ hx fun k hk hl => ⟨hk, f k hk hl⟩
theorem RRz.upto {K : Nat → Prop} {w : World} {v : Value} {l : List Rw} (h : RRz K w v l) : RRz (fun k => K k ∧ k < w.heap.size) w v l :=
  RowE.mono h (fun k hk hl => ⟨⟨hk, hl⟩, rfl⟩) fun x cs hx => rwU_elem.mono _ _ _ _ _ _ hx fun k hk hl => ⟨⟨hk, hl⟩, rfl⟩
set_option maxRecDepth 100000 in
set_option maxHeartbeats 4000000 in
theorem groupWays_any {fs : List Fc} {v wv : Value} {t : Bd.Ts} {s meas : Int} (w : World) (h : FR (fun k => k < w.heap.size) w v fs) (hok : ∀ f ∈ fs, Fok f) (hc : Cps fs) (hl : fs.length < 4000000) (hp : Pv w) (ht : Bd.TsAt (fun k => k < w.heap.size) w t wv) : Calls Tryz.prog 3 #[v, .agg #[wv, .int .i64 s, .int .i64 meas]] w (TellsB true w) := by
  obtain ⟨w0, hw0⟩ : ∃ w0, w.alloc (.cells #[wv, .int .i64 s, .int .i64 meas] 25) = w0 := ⟨_, rfl⟩
  obtain ⟨y, hy⟩ : ∃ y, w.heap.size = y := ⟨_, rfl⟩
  have f0 : Fr No w w0 := by rw [← hw0]; exact (Fr.refl No w).alloc _
  have hb0 : Blk w0 y 25 #[wv, .int .i64 s, .int .i64 meas] := by rw [← hw0, ← hy]; exact Blk.new w 25 _
  obtain ⟨R, hR⟩ : ∃ R, grpL takeA (newA meas) (keyedL (refM t) (listB s) fs) = R := ⟨_, rfl⟩
  have HA := Lib.hid (awake_any w0 (hp.no f0))
  have HC := Lib.hid (fun (w' : World) (f : Fr No w w') => copied_any w' (h.no f) hc hl)
  have HG := Lib.hid (fun (w' : World) (f : Fr No w w') => rgroup_any (s := s) (meas := meas) w' rfl (h.no_lt f) (test_no ht f) hok hl)
  have HH := Lib.hid (fun (w' : World) (v' : Value) (f : Fr No w w') (h' : FR (fun k => k < w'.heap.size) w' v' fs) => hash_any (s := s) (meas := meas) w' rfl h' (meant_ref (test_no ht f)) (test_ptr ht) hok hl (hp.no f))
  have HS := Lib.hid (fun (w' : World) (v' : Value) (f : Fr No w w') (h' : FR (fun k => k < w'.heap.size) w' v' fs) => sort_any (s := s) (meas := meas) w' rfl h' (meant_ref (test_no ht f)) (test_ptr ht) hok hl)
  rw [hR] at HG HH HS
  have HSa := Lib.hid (fun (w' : World) (v' u' : Value) (K K2 : Nat → Prop) (i1 : RR K w' v' R) (i2 : RR K2 w' u' R) => rsameR_any w' i1 i2)
  rw [(sameRs_iff _ _).2 rfl] at HSa
  have HSp := Lib.hid (fun (w' : World) (v' : Value) (K : Nat → Prop) (i1 : RRz K w' v' R) => spoil_any w' i1)
  have HSF := Lib.hid (fun (w' : World) (v' u' : Value) (K K2 : Nat → Prop) (i1 : FR K w' v' fs) (i2 : FR K2 w' u' fs) => sameFacts_any w' i1 i2)
  have HIN0 := Lib.hid h
  obtain ⟨A0, nn, c0, rfl, -⟩ := row_form h
  obtain ⟨pw, rfl⟩ := test_ptr ht
  have HBK := Lib.hid hb0
  have HF0 := Lib.hid f0
  have HW0 := Lib.hid hw0
  have HY := Lib.hid hy
  clear h hok hc hl hp ht hw0 hy f0 hb0 hR
  go_enter Tryz.func3, Tryz.ntmps3
  go_upto_region 1 with fail
  rw [HW0.out, HY.out]
  go_upto_region 2 with (go_at_call 10; refine HA.out.mono ?_; rintro e1 w1 ⟨rfl, f1⟩; have H1 := Lib.hid f1; clear f1)
  go_upto_region 3 with (go_at_call 11; refine (HC.out _ (HF0.out.tr H1.out)).mono ?_; rintro e1 w2 ⟨A2, n2, c2, rfl, hn2, hin, f2⟩; have H2 := Lib.hid (H1.out.tr f2); have HIN := Lib.hid hin.lt_; clear hn2 hin f2)
  have q0 := (HBK.out.no H2.out).cell 0
  have q1 := (HBK.out.no H2.out).cell 1
  have q2 := (HBK.out.no H2.out).cell 2
  go_upto_region 4 with (go_at_call 12; refine (HG.out _ (HF0.out.tr H2.out)).mono ?_; rintro e1 w3 ⟨A3, n3, c3, rfl, hn3, hwt, f3⟩; have H3 := Lib.hid (H2.out.tr f3); have HF3 := Lib.hid f3; have HWT := Lib.hid hwt.lt_; clear hn3 hwt f3)
  clear q0 q1 q2
  have q0 := (HBK.out.no H3.out).cell 0
  have q1 := (HBK.out.no H3.out).cell 1
  have q2 := (HBK.out.no H3.out).cell 2
  have HIN3 := Lib.hid (HIN.out.no_lt HF3.out)
  go_upto_region 5 with (go_at_call 13; refine (HH.out _ _ (HF0.out.tr H3.out) HIN3.out).mono ?_; rintro e1 w4 ⟨A4, n4, c4, rfl, hn4, hl4, f4⟩; have H4 := Lib.hid (H3.out.tr f4); have HF4 := Lib.hid f4; have HL4 := Lib.hid (RRz.upto hl4); clear hn4 hl4 f4)
  clear q0 q1 q2
  have q0 := (HBK.out.no H4.out).cell 0
  have q1 := (HBK.out.no H4.out).cell 1
  have q2 := (HBK.out.no H4.out).cell 2
  have HIN4 := Lib.hid (HIN3.out.no_lt HF4.out)
  go_upto_region 6 with (go_at_call 14; refine (HS.out _ _ (HF0.out.tr H4.out) HIN4.out).mono ?_; rintro e1 w5 ⟨A5, n5, c5, rfl, hn5, hm5, f5⟩; have H5 := Lib.hid (H4.out.tr f5); have HF5 := Lib.hid f5; have HM5 := Lib.hid (RRz.upto hm5); clear hn5 hm5 f5)
  clear q0 q1 q2
  have HL5 := Lib.hid (HL4.out.keepK fun k hk hlt => HF5.out.block k hlt id)
  have HWT5 := Lib.hid (HWT.out.keepK fun k hk hlt => (HF4.out.tr HF5.out).block k hlt id)
  go_upto_region 7 with (go_at_call 15; refine (HSa.out _ _ _ _ _ (RRz.rr HL5.out) HWT5.out).mono ?_; rintro e1 w6 ⟨rfl, f6⟩; have HF6 := Lib.hid f6; clear f6)
  have HM6 := Lib.hid (HM5.out.keepK fun k hk hlt => HF6.out.block k hlt id)
  have HWT6 := Lib.hid (HWT5.out.keepK fun k hk hlt => HF6.out.block k hlt id)
  go_upto_region 8 with (go_at_call 15; refine (HSa.out _ _ _ _ _ (RRz.rr HM6.out) HWT6.out).mono ?_; rintro e1 w7 ⟨rfl, f7⟩; have HF7 := Lib.hid f7; clear f7)
  have HL7 := Lib.hid (HL5.out.keepK fun k hk hlt => (HF6.out.tr HF7.out).block k hlt id)
  have HM7 := Lib.hid (HM6.out.keepK fun k hk hlt => HF7.out.block k hlt id)
  have HWT7 := Lib.hid (HWT6.out.keepK fun k hk hlt => HF7.out.block k hlt id)
  have HIN7 := Lib.hid (HIN4.out.keepK fun k hk hlt => (HF5.out.tr (HF6.out.tr HF7.out)).block k hlt id)
  have H7 := Lib.hid (H5.out.tr (HF6.out.tr HF7.out))
  go_upto_region 9 with (go_at_call 16; refine (HSp.out _ _ _ HL7.out).mono ?_; rintro e1 w8 ⟨rfl, f8⟩; have HF8 := Lib.hid f8; clear f8)
  have HM8 := Lib.hid (HM7.out.keepK fun k hk hlt => HF8.out.block k hlt fun h => absurd h.2 (by omega))
  have HWT8 := Lib.hid (HWT7.out.keepK fun k hk hlt => HF8.out.block k hlt fun h => by have := HF3.out.size; omega)
  go_upto_region 10 with (go_at_call 15; refine (HSa.out _ _ _ _ _ (RRz.rr HM8.out) HWT8.out).mono ?_; rintro e1 w9 ⟨rfl, f9⟩; have HF9 := Lib.hid f9; clear f9)
  have HM9 := Lib.hid (HM8.out.keepK fun k hk hlt => HF9.out.block k hlt id)
  go_upto_region 11 with (go_at_call 16; refine (HSp.out _ _ _ HM9.out).mono ?_; rintro e1 w10 ⟨rfl, f10⟩; have HF10 := Lib.hid f10; clear f10)
  have hz3 : w3.heap.size ≤ w4.heap.size := HF4.out.size
  have hz1 : w.heap.size ≤ w3.heap.size := (HF0.out.tr H3.out).size
  have HALL : Hid (Fr (fun k => w3.heap.size ≤ k) w7 w10) := Lib.hid (((HF8.out.mono fun k _ hk => hk.1).trans HF9.out.any fun _ _ h => h).trans HF10.out fun k _ hk => Nat.le_trans hz3 hk.1)
  have HIN10 := Lib.hid (HIN3.out.keepK (w' := w7) (fun k hk hlt => (HF4.out.tr (HF5.out.tr (HF6.out.tr HF7.out))).block k hlt id))
  have HIN11 := Lib.hid (HIN10.out.keepK (w' := w10) fun k hk hlt => HALL.out.block k hlt (by omega))
  have HV7 := Lib.hid (HIN0.out.keepK (w' := w7) fun k hk hlt => (HF0.out.tr H7.out).block k hlt id)
  have HV10 := Lib.hid (HV7.out.keepK (w' := w10) fun k hk hlt => HALL.out.block k hlt (by omega))
  have HFIN : Hid (Fr No w w10) := Lib.hid (by
    have f1 : Fr (fun k => w3.heap.size ≤ k) w w10 := (HF0.out.tr H7.out).any.trans HALL.out fun _ _ h => h
    exact ⟨f1.os, f1.tape, f1.output, f1.size, fun k hk _ => f1.block k hk (by omega)⟩)
  go_wp2_with (go_at_call 17; refine (HSF.out _ _ _ _ _ HIN11.out HV10.out).mono ?_; rintro e1 w11 ⟨rfl, f11⟩; have HF11 := Lib.hid f11; clear f11)
  go_ret
  exact ⟨rfl, HFIN.out.tr HF11.out⟩
end Go.Proofs.YtlpglijikmnopaaGreatDoor
namespace Go.Proofs.YtlpglijikmnopaaGreatDoor
open Go.RowKit Go.ChangeShapes Go.WideShapes Go.ChangeAt
set_option linter.unusedVariables false
section
variable {H : Type} {enc : TypeId × Value → H} {W : World}
def wgT (t : Tx) : Nat := t.length + 1
def wgI (_ : Int) : Nat := 1
theorem open_strW2 (fuel : Nat) (cs : List Value) (x : DataW H × List MemPlace) (hl : cs.length = 1) (h : DataW.trod enc Tryz.prog W 0 (fun _ => true) true fuel 9 cs = some x) : ∃ y, strG (Lo W) W y cs ∧ wgT y ≤ Rows.uptoBulk x.1 := by
  obtain ⟨s, e4, rfl, w4⟩ := DataW.trod_string Tryz.underlying9 h
  refine ⟨s.data.toList, ⟨e4, (Array.length_toList (xs := s.data)).symm ▸ w4⟩, ?_⟩
  unfold wgT
  simp only [Rows.uptoBulk]
  omega
theorem open_intW2 (fuel : Nat) (cs : List Value) (x : DataW H × List MemPlace) (hl : cs.length = 1) (h : DataW.trod enc Tryz.prog W 0 (fun _ => true) true fuel 2 cs = some x) : ∃ y, intG (Lo W) W y cs ∧ wgI y ≤ Rows.uptoBulk x.1 := by
  obtain ⟨n, e, rfl, w⟩ := DataW.trod_int Tryz.underlying2 h
  refine ⟨n, ⟨e, wf_i64_bd w⟩, ?_⟩
  unfold wgI
  simp only [Rows.uptoBulk]
  omega
def wgF2 (f : Fc) : Nat := (f.dims.map wgT).sum + (f.meas.map wgI).sum + 1
set_option maxRecDepth 100000 in
theorem open_factW2 (fuel : Nat) (cs : List Value) (x : DataW H × List MemPlace) (hl : cs.length = 2) (h : DataW.trod enc Tryz.prog W 0 (fun _ => true) true fuel 63 cs = some x) : ∃ y, fcG (Lo W) W y cs ∧ wgF2 y ≤ Rows.uptoBulk x.1 := by
  obtain ⟨xs, n, _, rfl, hlen, hxl, hg⟩ := DataW.trod_struct Tryz.underlying63 h
  obtain ⟨a, b, rfl⟩ := len2 hl
  have hx3 : xs.length = 2 := hxl
  match xs, hx3 with
  | [x0, x1], _ =>
    have g0 : DataW.trod enc Tryz.prog W 0 (fun _ => true) true n 42 (([a, b].drop 0).take (Tryz.prog.cellsOf 42)) = some x0 := hg 0 _ rfl
    have g1 : DataW.trod enc Tryz.prog W 0 (fun _ => true) true n 61 (([a, b].drop 1).take (Tryz.prog.cellsOf 61)) = some x1 := hg 1 _ rfl
    rw [c42] at g0
    rw [c61] at g1
    obtain ⟨v0, l0, e0, r0, w0⟩ := open_rowB (strG (Lo W) W) wgT 42 9 1 Tryz.underlying42 c9 (by omega) open_strW2 g0
    obtain ⟨v1, l1, e1, r1, w1⟩ := open_rowB (intG (Lo W) W) wgI 61 2 1 Tryz.underlying61 c2 (by omega) open_intW2 g1
    obtain rfl := one_eq e0
    obtain rfl := one_eq e1
    refine ⟨⟨l0, l1⟩, ⟨_, _, rfl, r0, r1⟩, ?_⟩
    simp only [List.map_cons, List.map_nil, Rows.uptoBulk, Rows.uptoBulkAll]
    unfold wgF2
    simp only
    omega
set_option maxRecDepth 100000 in
/-- An argument []Fact, and what it weighs. -/
theorem open_factsA2 {v : Value} {d : DataW H} {ps : List MemPlace} (hval : Value.okWide Tryz.prog W .any 0 22 v) (h : DataW.Trod enc Tryz.prog W 0 (fun _ => true) true 22 v d ps) :
    ∃ l, FR (Lo W) W v l ∧ (l.map wgF2).sum + 1 ≤ Rows.uptoBulk d := by
  obtain ⟨a0, len, cap, rfl⟩ := okWide_slice Tryz.underlying22 hval
  obtain ⟨fuel, hf⟩ := h
  obtain ⟨v', l, e1, hr, hw⟩ := open_rowB (fcG (Lo W) W) wgF2 22 63 2 Tryz.underlying22 c63 (by omega) open_factW2 hf
  have e2 : v' = .slice a0 len cap := by simpa [Value.cells] using e1.symm
  subst e2
  exact ⟨l, hr, hw⟩
theorem facts_small2 {fs : List Fc} {M : Nat} (h : (fs.map wgF2).sum + 1 ≤ M) (hM : M ≤ 1048576) : (∀ f ∈ fs, Fok f) ∧ fs.length < 4000000 ∧ Cps fs := by
  refine ⟨fun f hf t ht => ?_, ?_, fun f hf => ?_⟩
  · have h1 : wgF2 f ≤ (fs.map wgF2).sum := sum_mem wgF2 hf
    have h2 : wgT t ≤ (f.dims.map wgT).sum := sum_mem wgT ht
    have e : wgF2 f = (f.dims.map wgT).sum + (f.meas.map wgI).sum + 1 := rfl
    have e2 : wgT t = t.length + 1 := rfl
    rw [e] at h1
    omega
  · have := sum_length wgF2 (fun f => by unfold wgF2; omega) fs
    omega
  · have h1 : wgF2 f ≤ (fs.map wgF2).sum := sum_mem wgF2 hf
    have h2 := sum_length wgT (fun f => by unfold wgT; omega) f.dims
    have h3 := sum_length wgI (fun f => by unfold wgI; omega) f.meas
    have e : wgF2 f = (f.dims.map wgT).sum + (f.meas.map wgI).sum + 1 := rfl
    rw [e] at h1
    omega
end
end Go.Proofs.YtlpglijikmnopaaGreatDoor
