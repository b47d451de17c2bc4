/- The fact of a key. -/
import Derived.Test.YtlpglijikmnopaaGreatDoorUM4
import Derived.Deep.Light
namespace Go.Proofs.YtlpglijikmnopaaGreatDoor
open Go.RowKit Go.Maps Go.Sort Go.Proofs
set_option linter.unusedVariables false

/-- Six texts, those of a key at their dimensions. -/
def factJ (key : Ky) (dims : List Nat) (j : Nat) : List Tx := ((key.zip dims).take j).foldl (fun L p => L.set p.2 p.1) (List.replicate 6 [])
theorem factJ_len (key : Ky) (dims : List Nat) (j : Nat) : (factJ key dims j).length = 6 := by
  unfold factJ
  generalize (key.zip dims).take j = l
  have : ∀ (l : List (Tx × Nat)) (L : List Tx), (l.foldl (fun L p => L.set p.2 p.1) L).length = L.length := by
    intro l
    induction l with
    | nil => intro L; rfl
    | cons p l ih => intro L; rw [List.foldl_cons, ih, List.length_set]
  rw [this, List.length_replicate]
theorem factJ_step {key : Ky} {dims : List Nat} {j : Nat} (h1 : j < key.length) (h2 : j < dims.length) : factJ key dims (j + 1) = (factJ key dims j).set dims[j] key[j] := by
  have hz : j < (key.zip dims).length := by rw [List.length_zip]; omega
  unfold factJ
  rw [take_succ hz, List.foldl_append, List.getElem_zip]
  rfl
theorem factJ_mem {key : Ky} {dims : List Nat} {j : Nat} : ∀ t ∈ factJ key dims j, t = [] ∨ t ∈ key := by
  have : ∀ (l : List (Tx × Nat)) (L : List Tx), ∀ t ∈ l.foldl (fun L p => L.set p.2 p.1) L, t ∈ L ∨ ∃ p ∈ l, p.1 = t := by
    intro l
    induction l with
    | nil => intro L t ht; exact .inl ht
    | cons p l ih =>
      intro L t ht
      rcases ih _ t ht with h | ⟨q, hq, e⟩
      · rcases List.mem_or_eq_of_mem_set h with h | h
        · exact .inl h
        · exact .inr ⟨p, List.mem_cons_self, h.symm⟩
      · exact .inr ⟨q, List.mem_cons_of_mem _ hq, e⟩
  intro t ht
  rcases this _ _ t ht with h | ⟨p, hp, e⟩
  · exact .inl (List.mem_replicate.1 h).2
  · right
    rw [← e]
    exact (List.of_mem_zip (List.mem_of_mem_take hp)).1
def factD (key : Ky) (dims : List Nat) : List Tx := factJ key dims (min key.length dims.length)
theorem row_of_blk {w : World} {g : Nat} {L : List Tx} (h : Blk w g 9 (L.map sv).toArray) (hl : ∀ t ∈ L, t.length ≤ maxLen) (h6 : L.length = 6) : KR (fun k => k = g) w (.slice (some ⟨g, 0, none⟩) 6 6) L := by
  refine ⟨some ⟨g, 0, none⟩, 6, by rw [h6], by omega, by decide, fun _ => ⟨g, 0, rfl, rfl, h.lt, fun j hj => ⟨[sv L[j]], rfl, fun i hi => ?_, rfl, hl _ (List.getElem_mem hj)⟩⟩⟩
  obtain rfl : i = 0 := by omega
  have h2 := h.cell (0 + j * 1 + 0)
  rw [h2]
  have e : 0 + j * 1 + 0 = j := by omega
  rw [e]
  simp [hj]
theorem make42 (w : World) : (Instr.makeSlice 42 (.int .i64 6) (.int .i64 6)).run Tryz.prog w = .ok (.slice (some ⟨w.heap.size, 0, none⟩) 6 6) (w.alloc (.cells ((List.replicate 6 ([] : Tx)).map sv).toArray 9)) := by
  obtain ⟨i, hi, hz0, hz1, hz2⟩ := info_parts info9
  have h := run_make (P := Tryz.prog) w 42 9 i _ Tryz.underlying42 hi hz0 .i64 .i64 6 6 (by omega) (Int.le_refl _) (by rw [hz2]; omega) (by omega)
  rw [h, hz1]
  have e : madeCells (Value.string ⟨#[]⟩).cells (Int.toNat 6 * 1) = ((List.replicate 6 ([] : Tx)).map sv).toArray := by
    unfold madeCells
    apply Array.ext_getElem?
    intro i
    rcases Nat.lt_or_ge i 6 with h | h
    · have : i = 0 ∨ i = 1 ∨ i = 2 ∨ i = 3 ∨ i = 4 ∨ i = 5 := by omega
      rcases this with rfl | rfl | rfl | rfl | rfl | rfl <;> simp [Value.cells]
    · rw [Array.getElem?_eq_none (by simpa using h), Array.getElem?_eq_none (by simpa using h)]
  rw [e]
  rfl
def TellsFa (l : List Tx) (w : World) (e : Ending) (w' : World) : Prop := ∃ A c, e = .returned (.agg #[.slice A 6 c, .slice none 0 0]) ∧ KR (fun k => w.heap.size ≤ k) w' (.slice A 6 c) l ∧ Fr No w w'
set_option maxRecDepth 100000 in
set_option maxHeartbeats 2000000 in
theorem factOf_any {K K2 : Nat → Prop} {key : Ky} {d : List Nat} {v dv : Value} (w : World) (h : KR K w v key) (hd : RowE K2 w 1 (natG K2 w) dv d) (h6 : ∀ x ∈ d, x < 6) : Calls Tryz.prog 55 #[v, dv] w (TellsFa (factD key d) w) := by
  obtain ⟨A, c, rfl, hlc, hcm⟩ := h.form
  obtain ⟨A2, m, c2, rfl, hm⟩ := row_form hd
  obtain ⟨n, hn⟩ : ∃ n, key.length = n := ⟨_, rfl⟩
  have HKL : Hid (∀ t ∈ key, t.length ≤ maxLen) := Lib.hid fun t ht => by
    obtain ⟨j, hj, rfl⟩ := List.getElem_of_mem ht
    obtain ⟨_, _, _, _, _, _, h5⟩ := KR.at_ h hj
    exact h5
  rw [hn] at hlc h ⊢
  have HN := Lib.hid hn
  have HM := Lib.hid hm
  have HK := Lib.hid h
  have HD := Lib.hid hd
  have H6 := Lib.hid h6
  obtain ⟨b, hb⟩ : ∃ b, w.heap.size = b := ⟨_, rfl⟩
  obtain ⟨w1, hw1⟩ : ∃ x, w.alloc (.cells #[.slice none 0 0, .slice none 0 0] 63) = x := ⟨_, rfl⟩
  obtain ⟨w2, hw2⟩ : ∃ x, w1.alloc (.cells ((List.replicate 6 ([] : Tx)).map sv).toArray 9) = x := ⟨_, rfl⟩
  have f1 : Fr No w w1 := by rw [← hw1]; exact (Fr.refl No w).alloc _
  have f2 : Fr No w1 w2 := by rw [← hw2]; exact (Fr.refl No w1).alloc _
  have hs1 : w1.heap.size = b + 1 := by rw [← hw1, ← hb]; simp
  have hbx : Blk w2 b 63 #[.slice none 0 0, .slice none 0 0] := Blk.no (by rw [← hw1, ← hb]; exact Blk.new w 63 _) f2
  have hbg : Blk w2 (b + 1) 9 ((factJ key d 0).map sv).toArray := by rw [← hw2, ← hs1]; exact Blk.new w1 9 _
  have hmk := make42 w1
  rw [hs1, hw2] at hmk
  have HMK := Lib.hid hmk
  have HB := Lib.hid hb
  have HW1 := Lib.hid hw1
  have HBX := Lib.hid hbx
  have HBG := Lib.hid hbg
  have HF2 := Lib.hid (f1.trans f2 fun _ _ h => h)
  unfold maxLen at hcm
  clear hn hm h hd h6 hb hw1 hw2 f1 f2 hs1 hbx hbg hmk
  go_enter Tryz.func55, Tryz.ntmps55
  go_upto_region 1 with fail
  rw [HB.out, HW1.out]
  have hmk := HMK.out
  go_wp2_with fail
  clear hmk
  obtain ⟨N, hN⟩ : ∃ N, min n m = N := ⟨_, rfl⟩
  have HNM := Lib.hid hN
  have hmin : min (n : Int) (m : Int) = (N : Int) := by omega
  rw [hmin]
  have HGL : Hid (∀ j, (factJ key d j).length = 6) := Lib.hid fun j => factJ_len key d j
  have hNm : N ≤ n ∧ N ≤ m := by omega
  clear hN hmin
  go_loopg [6, 13] N (fun k r6 r13 wr => Hid (∃ j : Nat, r13 = .int .i64 (j : Nat) ∧ j + k = N ∧ Blk wr (b + 1) 9 ((factJ key d j).map sv).toArray ∧ Fr (fun k => k = b + 1) w2 wr))
  case atStart => exact Lib.hid ⟨0, rfl, by omega, HBG.out, Fr.refl _ _⟩
  case round =>
    obtain ⟨j, rfl, hjk, hbg, hf⟩ := hrel.out
    clear hrel
    by_cases hj : j < N
    · have hji : (j : Int) < (N : Int) := by omega
      have hjn : (j : Int) < (n : Int) := by omega
      have hjm : (j : Int) < (m : Int) := by omega
      have hjl : j < key.length := by have := HN.out; omega
      have hjd : j < d.length := by have := HM.out; omega
      have f02 := HF2.out
      have hbb : w.heap.size = b := HB.out
      have hkr : KR K w2 (.slice A n c) key := HK.out.no f02
      have hdr : RowE K2 w2 1 (natG K2 w2) (.slice A2 m c2) d := RowE.at_ natG_elem HD.out f02
      obtain ⟨g1, o1, rfl, hk1, -, -, -⟩ := KR.at_ HK.out hjl
      obtain ⟨A0, c0, e0, hmc, hcm2, hrow2⟩ := HD.out
      injection e0 with e1 e2 e3
      subst e1 e3
      obtain ⟨g2, o2, rfl, hk2, hgl2, hel⟩ := hrow2 (by omega)
      obtain ⟨g1', o1', e4, -, hgl1, h5, hlen⟩ := KR.at_ HK.out hjl
      injection e4 with e4
      injection e4 with e4 e5
      subst e4 e5
      obtain ⟨cs, hcl, hcs, hE⟩ := hel j hjd
      have hd2 : w.cell? ⟨g2, o2 + j, none⟩ = some (.int .i64 (d[j] : Nat)) := by have := hcs 0 (by decide); rw [hE] at this; simpa using this
      have fall : Fr (fun k => k = b + 1) w wr := (f02.any (G := fun k => k = b + 1)).trans hf fun _ _ h => h
      have x1 := (cell_of_heap (fall.block g1 hgl1 (by omega)) (o := o1 + j)).trans h5
      have x2 := (cell_of_heap (fall.block g2 hgl2 (by omega)) (o := o2 + j)).trans hd2
      have hx6 := H6.out d[j] (List.getElem_mem _)
      have HSTEP : Hid (factJ key d (j + 1) = (factJ key d j).set d[j] key[j]) := Lib.hid (factJ_step hjl hjd)
      obtain ⟨x, hx⟩ : ∃ x, d[j] = x := ⟨_, rfl⟩
      obtain ⟨t, ht⟩ : ∃ x, key[j] = x := ⟨_, rfl⟩
      rw [hx] at x2 hx6 HSTEP
      rw [ht] at x1 HSTEP
      have hx6i : (x : Int) < 6 := by omega
      have hcx := hbg.cell x
      obtain ⟨u, hu⟩ : ∃ u, ((factJ key d j).map sv).toArray[x]? = some u := by
        refine ⟨sv ((factJ key d j)[x]'(by rw [factJ_len]; exact hx6)), ?_⟩
        simp [factJ_len, hx6]
      rw [hu] at hcx
      have hz := hbg.frozen x
      have hlt := hbg.lt
      have HEND : Hid (Blk ((wr.setCell ⟨b + 1, x, none⟩ (sv t)).drew) (b + 1) 9 ((factJ key d (j + 1)).map sv).toArray ∧ Fr (fun k => k = b + 1) w2 ((wr.setCell ⟨b + 1, x, none⟩ (sv t)).drew)) := Lib.hid ⟨by
        have h1 := (hbg.set_ x (sv t)).no (Fr.refl _ _).drew
        rw [HSTEP.out, List.map_set]
        simpa using h1, (hf.setCell (p := ⟨b + 1, x, none⟩) (fun _ => rfl) _).drew⟩
      clear hbg hf hkr hdr hk1 hk2 hel hcs hE hcl hd2 fall hx ht hrow2 e2 hmc hcm2 hu h5 hlen hbb f02
      go_upto_region 5 with fail
      go_region
      go_wp2_with fail
      obtain ⟨g3, rfl⟩ : ∃ g3, gk = g3 + 1 := ⟨gk - 1, by omega⟩
      go_roundg g3
      case rel => exact Lib.hid ⟨j + 1, by go_num, by omega, HEND.out.1, HEND.out.2⟩
      all_goals omega
    · have hji : (N : Int) ≤ (j : Int) := by omega
      have hjN : j = N := by omega
      have hbxr := HBX.out.of (hf.block b HBX.out.lt (by omega))
      have z0 := hbxr.frozen 0
      have z1 := hbxr.frozen 1
      have y0 := hbxr.cell 0
      have y1 := hbxr.cell 1
      have hbl := hbxr.lt
      have HEND : Hid (TellsFa (factD key d) w (.returned (.agg #[.slice (some ⟨b + 1, 0, none⟩) 6 6, .slice none 0 0])) ((wr.setCell ⟨b, 0, none⟩ (.slice (some ⟨b + 1, 0, none⟩) 6 6)).setCell ⟨b, 1, none⟩ (.slice none 0 0))) := Lib.hid (by
        have hb := HB.out
        have hfd : factJ key d j = factD key d := by unfold factD; rw [hjN]; congr 1; have := HNM.out; have := HN.out; have := HM.out; omega
        rw [hfd] at hbg
        obtain ⟨wz, hwz⟩ : ∃ x, (wr.setCell ⟨b, 0, none⟩ (.slice (some ⟨b + 1, 0, none⟩) 6 6)).setCell ⟨b, 1, none⟩ (.slice none 0 0) = x := ⟨_, rfl⟩
        have fz : Fr (fun k => k = b) wr wz := by rw [← hwz]; exact ((Fr.refl (fun k => k = b) wr).setCell (p := ⟨b, 0, none⟩) (fun _ => rfl) _).setCell (p := ⟨b, 1, none⟩) (fun _ => rfl) _
        rw [hwz]
        have hbz := hbg.of (fz.block (b + 1) hbg.lt (by omega))
        refine ⟨some ⟨b + 1, 0, none⟩, 6, rfl, (row_of_blk hbz (fun t ht => ?_) (factJ_len _ _ _)).mono (fun k hk _ => ⟨by omega, rfl⟩) (fun _ _ h => h), ?_⟩
        · rcases factJ_mem t ht with rfl | h
          · simp
          · exact HKL.out t h
        · have f1 : Fr (fun k => b ≤ k) w wz := ((HF2.out.any (G := fun k => b ≤ k)).trans hf fun k _ h => by omega).trans fz fun k _ h => by omega
          exact ⟨f1.os, f1.tape, f1.output, f1.size, fun k hk _ => f1.block k hk (by omega)⟩)
      have hfin := (hbxr.set_ 0 (.slice (some ⟨b + 1, 0, none⟩) 6 6)).set_ 1 (.slice none 0 0)
      have v0 := hfin.cell 0
      have v1 := hfin.cell 1
      clear hbg hf hbxr hjN hfin
      go_wp2_with fail
      refine bodyPost_ret (v := .agg #[.slice (some ⟨b + 1, 0, none⟩) 6 6, .slice none 0 0]) ?_ rfl HEND.out
      simp [results, Tryz.f55, go_sem, v0, v1]
end Go.Proofs.YtlpglijikmnopaaGreatDoor
