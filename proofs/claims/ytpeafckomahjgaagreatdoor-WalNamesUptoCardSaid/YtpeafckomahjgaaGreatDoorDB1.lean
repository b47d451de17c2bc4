/- How many bytes the files have. -/
import Derived.Test.YtpeafckomahjgaaGreatDoorDA9
namespace Go.Proofs.YtpeafckomahjgaaGreatDoor
open Go.RowKit Go.Maps
set_option linter.unusedVariables false

/-- How long the file is that an entry of a table of names stands for. -/
def flen (f : Int → Option FR) (p : Lit × DU) : Int :=
  match p.2 with
  | .lit (.int .i64 n) => match f n with | some r => r.bytes.length | none => 0
  | _ => 0
def usedOf (f : Int → Option FR) (D : DU) : Int :=
  match D with
  | .map es => (es.map (flen f)).sum
  | _ => 0
def leftSum (f : Int → Option FR) (D : DU) (left : Lit → Bool) : Int :=
  match D with
  | .map es => ((es.filter fun p => left p.1).map (flen f)).sum
  | _ => 0

theorem flen_nonneg (f : Int → Option FR) (p : Lit × DU) : 0 ≤ flen f p := by
  unfold flen; split
  · split <;> omega
  · omega
theorem sum_nonneg (f : Int → Option FR) : ∀ l : List (Lit × DU), 0 ≤ (l.map (flen f)).sum
  | [] => by simp
  | p :: l => by have := sum_nonneg f l; have := flen_nonneg f p; simp; omega
theorem sum_le {f : Int → Option FR} {M : Int} (h : ∀ n r, f n = some r → (r.bytes.length : Int) ≤ M) (hM : 0 ≤ M) : ∀ l : List (Lit × DU), (l.map (flen f)).sum ≤ l.length * M
  | [] => by simp
  | p :: l => by
    have h1 := sum_le h hM l
    have h2 : flen f p ≤ M := by
      unfold flen; split
      · split
        · rename_i hr; exact h _ _ hr
        · exact hM
      · exact hM
    simp only [List.map_cons, List.sum_cons, List.length_cons]
    have : ((l.length + 1 : Nat) : Int) * M = l.length * M + M := by push_cast; rw [Int.add_mul]; omega
    omega

theorem sum_take (f : Int → Option FR) (left : Lit → Bool) (kl : Lit) (hk : WideAt.IsKeyLit kl) (hl : left kl = true) : ∀ es : List (Lit × DU), es.Pairwise (fun p q => p.1 ≠ q.1) → ∀ p ∈ es, p.1 = kl →
    ((es.filter fun p => left p.1).map (flen f)).sum = flen f p + ((es.filter fun p => left p.1 && !p.1.sameKey kl).map (flen f)).sum
  | [], _, _, hp, _ => by cases hp
  | x :: es, hd, p, hp, he => by
    obtain ⟨h1, h2⟩ := List.pairwise_cons.1 hd
    by_cases hx : x.1 = kl
    · have hpx : p = x := by
        rcases List.mem_cons.1 hp with h | h
        · exact h
        · exact absurd (hx.trans he.symm) (h1 p h)
      subst hpx
      have hrest : es.filter (fun p => left p.1 && !p.1.sameKey kl) = es.filter fun p => left p.1 := by
        apply List.filter_congr
        intro q hq
        rw [sameKey_ne (a := q.1) (b := kl) (fun e => h1 q hq (he.trans e.symm))]
        simp
      rw [List.filter_cons_of_pos (by rw [he]; exact hl), List.filter_cons_of_neg (by rw [he, WideAt.sameKey_self hk]; simp), hrest]
      simp
    · have hp' : p ∈ es := by
        rcases List.mem_cons.1 hp with h | h
        · subst h; exact absurd he hx
        · exact h
      have ih := sum_take f left kl hk hl es h2 p hp' he
      by_cases hlx : left x.1 = true
      · rw [List.filter_cons_of_pos (by exact hlx), List.filter_cons_of_pos (by rw [hlx, sameKey_ne hx]; rfl)]
        simp only [List.map_cons, List.sum_cons]
        omega
      · rw [List.filter_cons_of_neg (by simpa using hlx), List.filter_cons_of_neg (by simp [hlx])]
        exact ih

theorem leftSum_step (f : Int → Option FR) {D : DU} (ht : Tidy D) (left : Lit → Bool) (kl : Lit) (hk : WideAt.IsKeyLit kl) (hl : left kl = true) {n : Int} (hat : ∀ z, D.atKey kl z = .lit (.int .i64 n)) {r : FR} (hr : f n = some r) :
    leftSum f D left = r.bytes.length + leftSum f D (fun z => left z && !z.sameKey kl) := by
  obtain ⟨es, rfl, hp⟩ := ht
  have hh := has_true_of_atKey hat
  rw [has_eq, List.any_eq_true] at hh
  obtain ⟨p, hpm, hs⟩ := hh
  have hpk : p.1 = kl := by
    by_cases e : p.1 = kl
    · exact e
    · rw [sameKey_ne e] at hs; cases hs
  have hv : p.2 = .lit (.int .i64 n) := by
    have h1 := hat .nil
    simp only [DataW.atKey] at h1
    cases hf : es.find? (fun p => p.1.sameKey kl) with
    | none => rw [List.find?_eq_none] at hf; exact absurd hs (hf p hpm)
    | some q =>
      rw [hf] at h1
      have hq := List.mem_of_find?_eq_some hf
      have hqs := List.find?_some hf
      have hqk : q.1 = kl := by
        by_cases e : q.1 = kl
        · exact e
        · rw [sameKey_ne e] at hqs; cases hqs
      have : p = q := by
        have hpw := hp
        by_cases e : p = q
        · exact e
        · exact absurd (hpk.trans hqk.symm) (by
            intro he
            rcases List.getElem_of_mem hpm with ⟨i, hi, rfl⟩
            rcases List.getElem_of_mem hq with ⟨j, hj, rfl⟩
            have hij : i ≠ j := fun h => e (by subst h; rfl)
            rcases Nat.lt_or_gt_of_ne hij with h | h
            · exact List.pairwise_iff_getElem.1 hpw i j hi hj h he
            · exact List.pairwise_iff_getElem.1 hpw j i hj hi h he.symm)
      rw [this]; exact h1
  have := sum_take f left kl hk hl es hp p hpm hpk
  unfold leftSum
  simp only
  rw [this]
  congr 1
  unfold flen
  rw [hv]
  simp only [hr]

theorem leftSum_start (f : Int → Option FR) {D : DU} (ht : Tidy D) (hk : ∀ es, D = .map es → ∀ p ∈ es, WideAt.IsKeyLit p.1) : leftSum f D (has D) = usedOf f D := by
  obtain ⟨es, rfl, hp⟩ := ht
  unfold leftSum usedOf
  simp only
  congr 2
  rw [List.filter_eq_self]
  intro p hpm
  rw [has_eq, List.any_eq_true]
  exact ⟨p, hpm, WideAt.sameKey_self (hk es rfl p hpm)⟩
theorem leftSum_end (f : Int → Option FR) (D : DU) {left : Lit → Bool} (h : ∀ k, left k = false) : leftSum f D left = 0 := by
  unfold leftSum
  cases D with
  | map es =>
    have : es.filter (fun p => left p.1) = [] := by rw [List.filter_eq_nil_iff]; intro p _; simp [h]
    simp only [this]; rfl
  | _ => rfl
theorem leftSum_nonneg (f : Int → Option FR) (D : DU) (left : Lit → Bool) : 0 ≤ leftSum f D left := by
  unfold leftSum
  cases D with
  | map es => exact sum_nonneg f _
  | _ => simp
theorem usedOf_le {f : Int → Option FR} {M : Int} (h : ∀ n r, f n = some r → (r.bytes.length : Int) ≤ M) (hM : 0 ≤ M) (D : DU) : usedOf f D ≤ Maps.size D * M := by
  unfold usedOf
  cases D with
  | map es => exact sum_le h hM es
  | _ => simp [Maps.size]


theorem used_nil (w : World) : Calls Tryz.prog 38 #[.pointer none] w fun e w' => e = .returned (.int .i64 0) ∧ w = w' := by
  go_enter Tryz.func38, Tryz.ntmps38
  go_wp2
  go_ret
  exact ⟨rfl, rfl⟩

theorem key_string {x : Value} {kl : Lit} (h : keyOf Tryz.prog 9 x = some kl) : ∃ s, kl = .string s := by
  obtain ⟨s, _, e, _⟩ := Maps.keyOf_str Tryz.underlying9 h
  exact ⟨s, e⟩

set_option maxRecDepth 100000 in
set_option maxHeartbeats 1000000 in
theorem used_any (d : Nat) (R : Rp) (S : AS) (b : Nat) (w : World) (h : At w d R S) (hW : WF S) (hnm : R.nm = some b) (hsz : Maps.size S.names ≤ 1000000) :
    Calls Tryz.prog 38 #[.pointer (some ⟨d, 0, none⟩)] w fun e w' => e = .returned (.int .i64 (usedOf S.file S.names)) ∧ Fr No w w' := by
  have c5 := (cells_all h).2.2.2.2.2.1
  rw [hnm] at c5
  have hown := h.names
  rw [hnm] at hown
  have hown' : w.ownsMap Tryz.prog 9 (plainElem Tryz.prog 3) b (Maps.size S.names) S.names := hown
  clear hown
  have hU : usedOf S.file S.names ≤ 16777216000000 := by
    have := usedOf_le (f := S.file) (M := 16777216) (fun n r hr => by have := (hW.file n r hr).2.2.2; omega) (by omega) S.names
    omega
  go_enter Tryz.func38, Tryz.ntmps38
  go_wp2_with (first
    | (at_range; refine wpList_range_own _ rfl _ 75 rfl 9 3 law9 Tryz.underlying75 (plainElem Tryz.prog 3) b _ _ rfl hown' ?_; intro w0 hrg0 hg0 hs0)
    | go_in)
  go_frame
  go_loopw [3] (fun u wr => ∃ (left : Lit → Bool) (cnt : Nat) (acc : Int), u = .int .i64 acc ∧ wr.ranges Tryz.prog 9 (plainElem Tryz.prog 3) b w.heap.size (Maps.size S.names) S.names left cnt ∧ Fr No w wr ∧ acc + leftSum S.file S.names left = usedOf S.file S.names ∧ 0 ≤ acc)
    (fun _ wr => wr.rangeLeft b w.heap.size)
  case atStart =>
    obtain ⟨es, he, hp, hk⟩ := hown'.canon law9
    exact ⟨_, _, 0, rfl, hrg0, (Fr.refl _ w).grown hg0 (fun k hk => by cases hk), by
      rw [leftSum_start S.file (hown'.tidy law9) (fun es' e' => by rw [he] at e'; cases e'; exact hk)]; omega, by omega⟩
  case round =>
    obtain ⟨left, cnt, acc, rfl, hrg, hfr, hacc, h0⟩ := hrel
    have HW := Lib.hid hown'
    have H := Lib.hid h
    have HWF := Lib.hid hW
    have HC := Lib.hid hacc
    have HF := Lib.hid hfr
    have HE := Lib.hid hnm
    clear hown' h hW hacc hfr hnm c5 hg0 hrg0
    go_wp2_with (first
      | (at_next; refine wpList_next_ranges _ rfl _ rfl 9 law9 (plainElem Tryz.prog 3) id (Value.int .i64) (fun key _ _ => ⟨key, rfl⟩) (fun v y hv => by obtain ⟨c, rfl, _⟩ := plainElem_int_inv Tryz.underlying3 hv; exact ⟨c, rfl⟩) b w.heap.size _ _ _ _ rfl hrg ?_ ?_)
      | go_in)
    · intro hc0 hl0
      go_wp2
      go_ret
      have hacc := HC.out
      rw [leftSum_end _ _ hl0] at hacc
      exact ⟨ret_int (by omega), HF.out⟩
    · intro x c kl yl yp w1 cnt1 hkey hlx hv hat hrg1 hlt hg1 hs1 hen
      have hfr1 : Fr No w w1 := HF.out.grown hg1 (fun k hk hlt => by cases hk; omega)
      have h1 := H.out.keep hfr1
      obtain ⟨c', ec, ey, hwc⟩ := plainElem_int_inv Tryz.underlying3 hv
      cases ec
      cases ey
      obtain ⟨sk, rfl⟩ := key_string hkey
      have hlk : look S.names sk = some c := by unfold look; rw [hat .nil]
      obtain ⟨r, hr⟩ := HWF.out.ref sk c hlk
      have hfd := h1.fd c
      rw [hr] at hfd
      obtain ⟨hfa, hfb, hfo⟩ := hfd
      obtain ⟨fb, hfbe⟩ := H.out.fbs hr
      have hfl := h1.files
      rw [hfbe] at hfl
      have hrun2 := run_file (b := fb) hfl hwc hfa
      have c5 := (cells_all h1).2.2.2.2.2.1
      have c8 := (cells_all h1).2.2.2.2.2.2.2.2.1
      rw [hfbe] at c8
      obtain ⟨A, cp, hav⟩ := row_len hfo
      have c0 : w1.cell? ⟨(R.rc c).1, 0, none⟩ = some (R.rc c).2 := hfb.cell 0
      rw [hav] at c0
      have hstep := leftSum_step S.file (H.out.names.tidy law9) left _ (isKey sk) hlx hat hr
      have hnn := leftSum_nonneg S.file S.names (fun z => left z && !z.sameKey (.string sk))
      have hbd : acc + (r.bytes.length : Int) ≤ 16777216000000 := by have := HC.out; omega
      have HS := Lib.hid hstep
      have HR1 := Lib.hid hrg1
      have HF1 := Lib.hid hfr1
      have HRG := Lib.hid hrg
      clear hstep hrg1 hfr1 hrg h1 hfa hfb hfo hfl hav hfbe hr hlk hv hat hkey hlx hg1 hs1 hwc hnn
      go_wp2
      go_roundw
      case rel => exact ⟨_, _, _, rfl, HR1.out, HF1.out, by have := HC.out; have := HS.out; omega, by omega⟩
      case measure => rw [HR1.out.left_eq, HRG.out.left_eq]; exact hlt

end Go.Proofs.YtpeafckomahjgaaGreatDoor
