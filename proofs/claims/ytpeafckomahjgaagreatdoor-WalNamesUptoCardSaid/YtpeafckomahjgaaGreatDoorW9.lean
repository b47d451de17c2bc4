/- Opening a log: what fits a number, and what is behind it. -/
import Derived.Test.YtpeafckomahjgaaGreatDoorW8
namespace Go.Proofs.YtpeafckomahjgaaGreatDoor
open Go.RowKit Go.Maps
set_option linter.unusedVariables false

theorem Grow.recAt {b : Nat} {w : World} {A : Option Addr} {n c : Nat} {rs : List RcP} (h : Grow b 52 2 recG w (.slice A n c) rs) (j : Nat) (hj : j < rs.length) :
    ∃ g, A = some ⟨g, 0, none⟩ ∧ n = rs.length ∧ g < w.heap.size ∧ ∀ w' : World, w'.heap[g]? = w.heap[g]? → w'.cell? ⟨g, j * 2, none⟩ = some (.int .i64 rs[j].seq) ∧ w'.cell? ⟨g, j * 2 + 1, none⟩ = some (sv rs[j].data) := by
  obtain ⟨K, xs, ho, hel, hK⟩ := h
  rcases ho.2 with ⟨e1, h0⟩ | ⟨g, cap, cur, e1, hg, hh, hn, hcm, hcs, htk⟩
  · omega
  · injection e1 with e1 e3 e2
    subst e1; subst e2
    refine ⟨g, rfl, e3, (World.ownsRow.lt ho g rfl).2, fun w' hw => ?_⟩
    obtain ⟨cs, h1, h2, h3, _⟩ := hel j hj
    have hlt : ∀ i, i < 2 → j * 2 + i < rs.length * 2 := fun i hi => by omega
    constructor
    · rw [cell_of_row w' g _ cur 52 (0, 0) (hw.trans hh)]
      have h4 := h2 0 (by omega)
      rw [← htk, List.getElem?_take, if_pos (hlt 0 (by omega))] at h4
      rw [h3] at h4
      simpa [RcP.cells] using h4
    · rw [cell_of_row w' g _ cur 52 (0, 0) (hw.trans hh)]
      have h4 := h2 1 (by omega)
      rw [← htk, List.getElem?_take, if_pos (hlt 1 (by omega))] at h4
      rw [h3] at h4
      simpa [RcP.cells] using h4

def fitsW (rs : List RcP) (from_ : Int) : Bool :=
  match rs.head?, rs.getLast? with
  | some p, some q => decide (p.seq - 1 ≤ from_) && decide (from_ ≤ q.seq)
  | _, _ => true
set_option maxRecDepth 100000 in
set_option maxHeartbeats 2000000 in
theorem fits_any {b : Nat} {w : World} {A : Option Addr} {n c : Nat} {rs : List RcP} (m : Int) (h : Grow b 52 2 recG w (.slice A n c) rs) (hpos : ∀ r ∈ rs, 1 ≤ r.seq ∧ r.seq ≤ 9223372036854775807) (hn : rs.length ≤ 1000000000) :
    Calls Tryz.prog 54 #[.slice A n c, .int .i64 m] w fun e w' => e = .returned (.bool (fitsW rs m)) ∧ Fr No w w' := by
  have hn0 : n = rs.length := by
    obtain ⟨A', c', e⟩ := h.len
    injection e
  by_cases h0 : rs.length = 0
  · obtain rfl : rs = [] := List.eq_nil_of_length_eq_zero h0
    subst hn0
    have HE : Hid (fitsW [] m = true) := Lib.hid rfl
    clear h hpos
    go_enter Tryz.func54, Tryz.ntmps54
    go_wp2_with fail
    go_ret
    exact ⟨by rw [HE.out]; rfl, Fr.refl _ w⟩
  · obtain ⟨g, rfl, -, hg, hc0⟩ := h.recAt 0 (by omega)
    obtain ⟨g', hg', -, -, hc1⟩ := h.recAt (rs.length - 1) (by omega)
    obtain rfl : g = g' := by injection hg' with e; injection e
    have x0 := (hc0 w rfl).1
    have x1 := (hc1 w rfl).1
    have hp0 := hpos rs[0] (List.getElem_mem _)
    have HE : Hid (fitsW rs m = (decide (rs[0].seq - 1 ≤ m) && decide (m ≤ rs[rs.length - 1].seq))) := Lib.hid (by
      unfold fitsW
      rw [List.head?_eq_getElem?, List.getLast?_eq_getElem?, List.getElem?_eq_getElem (by omega), List.getElem?_eq_getElem (by omega)])
    obtain ⟨p, hp⟩ : ∃ p, rs[0].seq = p := ⟨_, rfl⟩
    obtain ⟨q, hq⟩ : ∃ q, rs[rs.length - 1].seq = q := ⟨_, rfl⟩
    obtain ⟨k, hk⟩ : ∃ k, rs.length = k := ⟨_, rfl⟩
    obtain ⟨j, hj⟩ : ∃ j, rs.length - 1 = j := ⟨_, rfl⟩
    rw [hp] at x0 hp0
    rw [hq] at x1
    rw [hp, hq] at HE
    rw [hj] at x1
    rw [Nat.zero_mul] at x0
    rw [hn0, hk]
    have hkl : k ≤ 1000000000 := by omega
    have hk0 : k ≠ 0 := by omega
    have hwk : IntKind.i64.wrap ((k : Int) - 1) = (j : Int) := by rw [show (k : Int) - 1 = (j : Int) by omega]; exact IntWalk.i64_in _ (by omega)
    have hwp : IntKind.i64.wrap (p - 1) = p - 1 := IntWalk.i64_in _ (by omega)
    have b1 : (0 : Int) ≤ (j : Int) := by omega
    have b2 : (j : Int) < (k : Int) := by omega
    have b3 : (0 : Int) < (k : Int) := by omega
    have t0 : ((k : Int) == 0) = false := by rw [beq_eq_false_iff_ne]; omega
    clear h hg hc0 hc1 hg' hp hq hk hj hn0 h0 hpos hn
    by_cases ha : p - 1 ≤ m
    · have hd : decide (p - 1 ≤ m) = true := by simpa using ha
      have HE2 : Hid (fitsW rs m = decide (m ≤ q)) := Lib.hid (by rw [HE.out, hd]; rfl)
      clear ha
      go_enter Tryz.func54, Tryz.ntmps54
      go_upto_region 3 with fail
      go_quiet (fail)
      go_wp2
      go_ret
      exact ⟨by rw [HE2.out]; rfl, (Fr.refl _ w).drewN _⟩
    · have hd : decide (p - 1 ≤ m) = false := by simpa using ha
      have HE2 : Hid (fitsW rs m = false) := Lib.hid (by rw [HE.out, hd]; rfl)
      clear ha
      go_enter Tryz.func54, Tryz.ntmps54
      go_upto_region 3 with fail
      go_quiet (fail)
      go_wp2
      go_ret
      exact ⟨by rw [HE2.out]; rfl, (Fr.refl _ w).drewN _⟩

/-! ### behind -/
def behindW (rs : List RcP) (m : Int) : List RcP := rs.filter fun r => decide (m < r.seq)
theorem behindW_snoc (rs : List RcP) (m : Int) (j : Nat) (h : j < rs.length) : behindW (rs.take (j + 1)) m = if m < rs[j].seq then behindW (rs.take j) m ++ [rs[j]] else behindW (rs.take j) m := by
  unfold behindW
  rw [List.take_succ_eq_append_getElem h, List.filter_append]
  by_cases hd : m < rs[j].seq
  · rw [if_pos hd]; simp [hd]
  · rw [if_neg hd]; simp [hd]
theorem behindW_len (rs : List RcP) (m : Int) : (behindW rs m).length ≤ rs.length := List.length_filter_le _ _
set_option maxRecDepth 100000 in
set_option maxHeartbeats 2000000 in
theorem behind_any {b : Nat} {w : World} {A : Option Addr} {n c : Nat} {rs : List RcP} (m : Int) (h : Grow b 52 2 recG w (.slice A n c) rs) (hn : rs.length ≤ 1000000000) (hok : ∀ r ∈ rs, r.Ok) :
    Calls Tryz.prog 56 #[.slice A n c, .int .i64 m] w fun e w' => ∃ A' c', e = .returned (.slice A' (behindW rs m).length c') ∧ Grow w.heap.size 52 2 recG w' (.slice A' (behindW rs m).length c') (behindW rs m) ∧ Fr No w w' := by
  have hn0 : n = rs.length := by
    obtain ⟨A', c', e⟩ := h.len
    injection e
  subst hn0
  obtain ⟨bb, hbb⟩ : ∃ b, w.heap.size = b := ⟨_, rfl⟩
  obtain ⟨w0, hw0⟩ : ∃ w0, w.alloc (.cells #[] 52) = w0 := ⟨_, rfl⟩
  have hg0 : Grow bb 52 2 recG w0 (.slice (some ⟨bb, 0, none⟩) 0 0) [] := by rw [← hw0, ← hbb]; exact Grow.nil w.heap.size 52 2 recG w (Nat.le_refl _)
  have f0 : Fr No w w0 := by rw [← hw0]; exact (Fr.refl _ w).alloc _
  have HG0 := Lib.hid hg0
  have F0 := Lib.hid f0
  have H := Lib.hid h
  have HOK := Lib.hid hok
  have HBS := Lib.hid (show bb = w.heap.size from hbb.symm)
  have HW0 := Lib.hid hw0
  obtain ⟨n, hnn⟩ : ∃ n, rs.length = n := ⟨_, rfl⟩
  have HN := Lib.hid hnn
  rw [hnn] at hn ⊢
  clear hg0 f0 h hok hbb hw0 hnn
  go_enter Tryz.func56, Tryz.ntmps56
  go_wp2_with fail
  rw [HW0.out, ← HBS.out]
  go_loopw [5, 11] (fun v i wr => ∃ j : Nat, ∃ A' c', j ≤ n ∧ i = .int .i64 j ∧ v = .slice A' (behindW (rs.take j) m).length c' ∧ Grow bb 52 2 recG wr (.slice A' (behindW (rs.take j) m).length c') (behindW (rs.take j) m) ∧ Fr No w wr) (fun _ i _ => n - (intOf i).toNat)
  case atStart => exact ⟨0, _, _, by omega, rfl, rfl, HG0.out, F0.out⟩
  case round =>
    obtain ⟨j, A', c', hj, rfl, rfl, hg, hf⟩ := hrel
    have HG := Lib.hid hg
    have HF := Lib.hid hf
    clear hg hf
    by_cases hlt : j < n
    · have hjl : j < rs.length := by rw [HN.out]; exact hlt
      obtain ⟨gn, rfl, -, hgn, hcell⟩ := H.out.recAt j hjl
      obtain ⟨x0, x1⟩ := hcell wr (HF.out.block gn hgn id)
      have HS := Lib.hid (behindW_snoc rs m j hjl)
      have HLn := Lib.hid (behindW_len (rs.take j) m)
      have HTL : Hid ((rs.take j).length ≤ n) := Lib.hid (by rw [List.length_take]; omega)
      have hrok := HOK.out rs[j] (List.getElem_mem _)
      obtain ⟨r, hr⟩ : ∃ r, rs[j] = r := ⟨_, rfl⟩
      obtain ⟨q, dt⟩ := r
      rw [hr] at HS hrok x0 x1
      simp only at x0 x1 HS
      have HROK := Lib.hid hrok
      obtain ⟨w3, hw3⟩ : ∃ w3, wr.alloc (.cells #[.int .i64 q, .string ⟨dt.toArray⟩] 52) = w3 := ⟨_, rfl⟩
      have hw3s : w3.heap.size = wr.heap.size + 1 := by rw [← hw3]; simp
      have f3 : Fr No wr w3 := by rw [← hw3]; exact (Fr.refl _ wr).alloc _
      have HF3 := Lib.hid (HF.out.trans f3 fun _ _ h => h)
      have HG3 := Lib.hid (HG.out.keep recG_elem f3 fun k hk => hk.elim)
      clear hcell hgn hjl hr hrok f3
      by_cases hp : m < q
      · have hd : decide (m < q) = true := by simpa using hp
        obtain ⟨A2, c2, w4, hap, hg4, f4, hlt4, ho4⟩ := HG3.out.more2 recG_elem (w0 := w3) (by rw [HBS.out]; exact HF3.out.size) (Nat.le_refl _) (fun x hx => (HG3.out.lt x hx).2) 43 Tryz.underlying43 (.agg #[.int .i64 0, .string ⟨#[]⟩]) info52 rfl (by omega) ⟨q, dt⟩ [.int .i64 q, sv dt] rfl (by simp [Value.oneCell']) ⟨rfl, HROK.out⟩ (by have := HLn.out; have := HTL.out; omega) (by have := HLn.out; have := HTL.out; unfold maxLen; omega)
        rw [hw3s] at hap
        have HAP := Lib.hid hap
        have HG4 : Hid (Grow bb 52 2 recG w4 (.slice A2 ((behindW (rs.take j) m).length + 1) c2) (behindW (rs.take (j + 1)) m)) := Lib.hid (by rw [HS.out, if_pos hp]; exact hg4)
        have HF4 : Hid (Fr No w w4) := Lib.hid (HF3.out.trans f4 fun x hlx hx => by have := (HG3.out.lt x hx).1; have := HBS.out; omega)
        have HE : Hid ((behindW (rs.take (j + 1)) m).length = (behindW (rs.take j) m).length + 1) := Lib.hid (by rw [HS.out, if_pos hp]; simp)
        rw [← hw3] at HAP
        clear hap hg4 f4 hlt4 ho4 hp hw3s hw3
        go_wp2_with (at_builtin; refine wpList_add rfl _ _ _ _ rfl _ _ _ _ rfl rfl (HAP.out _) ?_)
        refine ⟨⟨j + 1, A2, c2, by omega, by go_num, by rw [HE.out], by rw [HE.out]; exact HG4.out, HF4.out⟩, ?_⟩
        simp [intOf]; omega
      · have hd : decide (m < q) = false := by simpa using hp
        have HE : Hid (behindW (rs.take (j + 1)) m = behindW (rs.take j) m) := Lib.hid (by rw [HS.out, if_neg hp])
        clear hp
        rw [← hw3] at HF3 HG3
        clear hw3s hw3
        go_wp2
        refine ⟨⟨j + 1, A', c', by omega, by go_num, by rw [HE.out], by rw [HE.out]; exact HG3.out, HF3.out⟩, ?_⟩
        simp [intOf]; omega
    · obtain rfl : j = n := by omega
      have HE : Hid (behindW (rs.take j) m = behindW rs m) := Lib.hid (by rw [List.take_of_length_le (by rw [HN.out]; omega)])
      go_wp2
      go_ret
      exact ⟨A', c', by rw [HE.out]; rfl, by have := HG.out; rw [HE.out, HBS.out] at this; exact this, HF.out⟩
end Go.Proofs.YtpeafckomahjgaaGreatDoor
