/- Trim. -/
import Derived.Test.YtccjkolcmdhliaaGreatDoorM7
import Derived.Test.YtccjkolcmdhliaaGreatDoorM5
import Derived.Deep.QuietTactic
import Derived.Deep.DeepCutAuto
namespace Go.Proofs.YtccjkolcmdhliaaGreatDoor
open Go.RowKit Go.Maps
set_option linter.unusedVariables false

def segG (_ : Nat → Prop) (_ : World) (s : SegP) (cs : List Value) : Prop := cs = s.cells
theorem segG_elem : Elem segG := ⟨fun _ _ _ _ _ _ h _ => h⟩
/-- What is kept, and what is removed on the way: up to the first error. -/
def trimLoop (L : LS) (upto : Int) : AS → List SegP → List SegP → AS × List SegP × Int
  | S, kept, [] => (S, kept, 0)
  | S, kept, s :: ss =>
    if s.n = L.number ∨ upto < s.last then trimLoop L upto S (kept ++ [s]) ss
    else if (S.remove (nameW s.n)).2 ≠ 0 then ((S.remove (nameW s.n)).1, kept, (S.remove (nameW s.n)).2)
    else trimLoop L upto (S.remove (nameW s.n)).1 kept ss
def trimL (S : AS) (L : LS) (upto : Int) : AS × LS × Int :=
  if L.fault ≠ 0 then (S, L, L.fault)
  else if L.firm < upto then (S, L, 1)
  else if (trimLoop L upto S [] L.files).2.2 ≠ 0 then ((trimLoop L upto S [] L.files).1, L.said (trimLoop L upto S [] L.files).2.2, (trimLoop L upto S [] L.files).2.2)
  else if (trimLoop L upto S [] L.files).2.1.length = L.files.length then ((trimLoop L upto S [] L.files).1, L, 0)
  else settleL (trimLoop L upto S [] L.files).1 { L with files := (trimLoop L upto S [] L.files).2.1 }
theorem trimLoop_len (L : LS) (upto : Int) : ∀ (fs : List SegP) (S : AS) (kept : List SegP), (trimLoop L upto S kept fs).2.1.length ≤ kept.length + fs.length
  | [], S, kept => by simp [trimLoop]
  | s :: ss, S, kept => by
    rw [trimLoop]
    split
    · have := trimLoop_len L upto ss S (kept ++ [s])
      simp at this ⊢; omega
    · split
      · simp only; simp only [List.length_cons]; omega
      · have := trimLoop_len L upto ss (S.remove (nameW s.n)).1 kept
        simp only [List.length_cons]; omega
/-- The last segment stays. -/
theorem trimLoop_last (L : LS) (upto : Int) {s : SegP} (hs : s.n = L.number) : ∀ (fs : List SegP) (S : AS) (kept : List SegP), (trimLoop L upto S kept (fs ++ [s])).2.2 = 0 → numOf (trimLoop L upto S kept (fs ++ [s])).2.1 = s.n
  | [], S, kept, h => by
    rw [List.nil_append, trimLoop, if_pos (.inl hs), trimLoop]
    exact numOf_snoc _ _
  | f :: fs, S, kept, h => by
    rw [List.cons_append, trimLoop] at h ⊢
    split
    · rename_i hc
      rw [if_pos hc] at h
      exact trimLoop_last L upto hs fs S _ h
    · rename_i hc
      rw [if_neg hc] at h
      split
      · rename_i hr
        rw [if_pos hr] at h
        exact absurd h hr
      · rename_i hr
        rw [if_neg hr] at h
        exact trimLoop_last L upto hs fs _ kept h
theorem trimLoop_number (L : LS) (upto : Int) (S : AS) (h : (trimLoop L upto S [] L.files).2.2 = 0) : numOf (trimLoop L upto S [] L.files).2.1 = L.number := by
  rcases List.eq_nil_or_concat L.files with hf | ⟨fs, s, hf⟩
  · rw [hf, LS.number, hf]; rfl
  · rw [List.concat_eq_append] at hf
    have hn : s.n = L.number := by rw [LS.number, hf, numOf_snoc]
    rw [hf] at h ⊢
    rw [trimLoop_last L upto hn fs S [] h, hn]
/-- The log takes other segments, that lie in a row of one's own. -/
theorem Lg.takeFiles {w : World} {X X1 : Nat → Prop} {d g N b : Nat} {S : AS} {L : LS} {kv : Value} {kept : List SegP} (h : Lg w X1 d g N S L) (hk : Grow b 102 2 segG w kv kept) (hsub : ∀ k, X k → X1 k) (lo : ∀ k, k < 4 → X k) (hX : ∀ k, X k → k < b) (hown : ∀ k, kv.ownBlock = some k → X1 k)
    (hlen : kept.length ≤ 64 + N) (hnum : 0 ≤ numOf kept ∧ numOf kept ≤ 100000000 + (N : Int)) :
    Lg (w.setCell ⟨g, 4, none⟩ kv) X d g N S { L with files := kept } ∧ Fr (fun k => ¬ X k) w (w.setCell ⟨g, 4, none⟩ kv) := by
  obtain ⟨fv, hL, hd, h3, h4⟩ := h.log
  obtain ⟨K, xs, ho, hel, hK⟩ := hk
  have hxs : xs = kept.flatMap SegP.cells := by
    have hl : xs.length = kept.length * 2 := ho.1
    have hfl : ∀ l : List SegP, (l.flatMap SegP.cells).length = l.length * 2 := fun l => by
      induction l with
      | nil => rfl
      | cons a l ih => rw [List.flatMap_cons, List.length_append, ih]; simp [SegP.cells]; omega
    have hget : ∀ (l : List SegP) (j i : Nat), i < 2 → (hj : j < l.length) → (l.flatMap SegP.cells)[j * 2 + i]? = l[j].cells[i]? := fun l => by
      induction l with
      | nil => intro j i _ hj; simp at hj
      | cons a l ih =>
        intro j i hi hj
        rcases j with _ | j
        · rw [List.flatMap_cons, List.getElem?_append_left (by simp [SegP.cells]; omega)]; simp
        · rw [List.flatMap_cons, List.getElem?_append_right (by simp [SegP.cells]; omega)]
          have : (j + 1) * 2 + i - a.cells.length = j * 2 + i := by simp [SegP.cells]; omega
          rw [this, ih j i hi (by simpa using hj)]
          simp
    refine List.ext_getElem? fun q => ?_
    by_cases hq : q < kept.length * 2
    · have hj : q / 2 < kept.length := by omega
      obtain ⟨cs, c1, c2, c3⟩ := hel (q / 2) hj
      have e1 := c2 (q % 2) (by omega)
      rw [show q / 2 * 2 + q % 2 = q by omega] at e1
      have e2 := hget kept (q / 2) (q % 2) (by omega) hj
      rw [show q / 2 * 2 + q % 2 = q by omega] at e2
      rw [e1, e2, show cs = kept[q / 2].cells from c3]
    · rw [List.getElem?_eq_none (by omega), List.getElem?_eq_none (by rw [hfl]; omega)]
  rw [hxs] at ho
  have hne : ∀ k, kv.ownBlock = some k → k ≠ g := fun k hk e => h3 (e ▸ hown k hk)
  have hf : Fr (One g) w (w.setCell ⟨g, 4, none⟩ kv) := Fr.set0 g w 4 kv
  have hg : ¬ X g := fun hx => h3 (hsub g hx)
  have hx : Fr (fun k => ¬ X k) w (w.setCell ⟨g, 4, none⟩ kv) := hf.mono fun k _ hk => by rw [show k = g from hk]; exact hg
  have hbl : ∀ k, kv.ownBlock = some k → b ≤ k := fun k hk => (ho.lt k hk).1
  refine ⟨⟨h.vr.x lo hx, lo, ⟨kv, ⟨hL.blk.set_ 4 kv, ?_⟩, ?_, hg, fun k hk hx => ?_⟩, ?_, h.big⟩, hx⟩
  · exact own_of (own_base ho (Nat.zero_le _)) fun k hk => hf.block k (ho.lt k hk).2 (hne k hk)
  · refine (hd.side (hf.mono fun k _ hk => .inr (.inl hk))).less fun k hk => ?_
    rcases hk with hk | hk | hk
    · exact .inl (hsub k hk)
    · exact .inr (.inl hk)
    · exact .inl (hown k hk)
  · have := hbl k hk; have := hX k hx; omega
  · exact ⟨h.ok.last, h.ok.firm, hnum, h.ok.size, hlen⟩
end Go.Proofs.YtccjkolcmdhliaaGreatDoor
/- Trim, walked. -/
namespace Go.Proofs.YtccjkolcmdhliaaGreatDoor
open Go.RowKit Go.Maps Go.Sort
set_option linter.unusedVariables false

theorem flat_seg_get : ∀ (l : List SegP) (j i : Nat), i < 2 → (hj : j < l.length) → (l.flatMap SegP.cells)[j * 2 + i]? = l[j].cells[i]?
  | [], j, i, _, hj => by simp at hj
  | a :: l, 0, i, hi, hj => by
    rw [List.flatMap_cons, List.getElem?_append_left (by simp [SegP.cells]; omega)]; simp
  | a :: l, j + 1, i, hi, hj => by
    rw [List.flatMap_cons, List.getElem?_append_right (by simp [SegP.cells]; omega)]
    have : (j + 1) * 2 + i - a.cells.length = j * 2 + i := by simp [SegP.cells]; omega
    rw [this, flat_seg_get l j i hi (by simpa using hj)]
    simp
/-- A log whose files' row is known. -/
structure LgF (w : World) (X : Nat → Prop) (d g N : Nat) (S : AS) (L : LS) (fv : Value) : Prop where
  vr : Vr w
  lo : ∀ k, k < 4 → X k
  at_ : LAt w d g fv L
  dk : Dk w (XL X g fv) d N S
  ng : ¬ X g
  no : ∀ k, fv.ownBlock = some k → ¬ X k
  ok : L.Ok N
  big : N ≤ 1000000000
theorem LgF.lg {w : World} {X : Nat → Prop} {d g N : Nat} {S : AS} {L : LS} {fv : Value} (h : LgF w X d g N S L fv) : Lg w X d g N S L := ⟨h.vr, h.lo, ⟨fv, h.at_, h.dk, h.ng, h.no⟩, h.ok, h.big⟩
theorem Lg.lgf {w : World} {X : Nat → Prop} {d g N : Nat} {S : AS} {L : LS} (h : Lg w X d g N S L) : ∃ fv, LgF w X d g N S L fv := by
  obtain ⟨fv, h1, h2, h3, h4⟩ := h.log
  exact ⟨fv, h.vr, h.lo, h1, h2, h3, h4, h.ok, h.big⟩
theorem LgF.keep {w w' : World} {X : Nat → Prop} {d g N : Nat} {S : AS} {L : LS} {fv : Value} (h : LgF w X d g N S L fv) (hf : Fr No w w') : LgF w' X d g N S L fv :=
  ⟨h.vr.keep hf, h.lo, h.at_.of fun k hk => hf.block k (h.at_.lt k hk) id, h.dk.keep hf, h.ng, h.no, h.ok, h.big⟩
theorem LgF.grow {w w' : World} {X Y F : Nat → Prop} {d g N : Nat} {S : AS} {L : LS} {fv : Value} (h : LgF w X d g N S L fv) (hf : Fr F w w') (hF : ∀ k, F k → X k ∧ 4 ≤ k) (hXY : ∀ k, X k → Y k) (hY : ∀ k, Y k → k < w'.heap.size ∧ (X k ∨ w.heap.size ≤ k)) : LgF w' Y d g N S L fv := by
  have hnX : ∀ k, (k = g ∨ fv.ownBlock = some k) → ¬ X k := fun k hk hx => by
    rcases hk with rfl | hk
    · exact h.ng hx
    · exact h.no k hk hx
  have hnY : ∀ k, (k = g ∨ fv.ownBlock = some k) → ¬ Y k := fun k hk hy => by
    rcases (hY k hy).2 with hx | hx
    · exact hnX k hk hx
    · have := h.at_.lt k hk; omega
  refine ⟨h.vr.of fun k hk => hf.block k (by have := h.vr.lt; omega) fun e => by have := (hF k e).2; omega, fun k hk => hXY k (h.lo k hk), h.at_.of fun k hk => hf.block k (h.at_.lt k hk) fun e => hnX k hk (hF k e).1, ?_, hnY g (.inl rfl), fun k hk => hnY k (.inr hk), h.ok, h.big⟩
  refine h.dk.grow (hf.mono fun k _ hk => .inl (hF k hk).1) fun k hk => ?_
  rcases hk with hk | hk
  · rcases hY k hk with ⟨e1, e2 | e2⟩
    · exact ⟨e1, .inl (.inl e2)⟩
    · exact ⟨e1, .inr e2⟩
  · exact ⟨Nat.lt_of_lt_of_le (h.at_.lt k hk) hf.size, .inl (.inr hk)⟩
theorem lgf_remove {w : World} {X : Nat → Prop} {d g N : Nat} {S : AS} {L : LS} {fv : Value} (h : LgF w X d g N S L fv) (hN : N + 1 ≤ 1000000000) (l : List UInt8) (hl : l.length ≤ maxLen) :
    Calls Tryz.prog 253 #[dkp d, sv l] w fun e w' => e = .returned (.int .i64 (S.remove l).2) ∧ LgF w' X d g (N + 1) (S.remove l).1 L fv ∧ Fr (fun k => ¬ X k) w w' := by
  refine (x_remove h.dk (by omega) l hl).mono ?_
  rintro e w' ⟨he, hd', hf⟩
  have hx : Fr (fun k => ¬ X k) w w' := hf.mono fun k _ hk hx => hk (.inl hx)
  refine ⟨he, ⟨h.vr.x h.lo hx, h.lo, h.at_.of fun k hk => hf.block k (h.at_.lt k hk) fun hn => hn (.inr hk), hd', h.ng, h.no, ?_, hN⟩, hx⟩
  exact ⟨h.ok.last, h.ok.firm, by have := h.ok.number; omega, by
    have := h.ok.size
    have h2 : ((N : Int) + 1) * 33554432 ≤ (((N + 1 : Nat) : Int) + 1) * 33554432 := by omega
    omega, by have := h.ok.files; omega⟩
theorem LgF.file {w : World} {X : Nat → Prop} {d g N : Nat} {S : AS} {L : LS} {fv : Value} (h : LgF w X d g N S L fv) (j : Nat) (hj : j < L.files.length) :
    ∃ gf cap, fv = .slice (some ⟨gf, 0, none⟩) L.files.length cap ∧ L.files.length ≤ cap ∧ cap ≤ maxLen ∧ w.cell? ⟨gf, j * 2, none⟩ = some (.int .i64 L.files[j].n) ∧ w.cell? ⟨gf, j * 2 + 1, none⟩ = some (.int .i64 L.files[j].last) := by
  have hr := h.at_.row
  rcases hr.2 with ⟨_, h0⟩ | ⟨gf, cap, cur, e1, hb, hh, hnc, hcm, hs, ht⟩
  · omega
  · have at_ : ∀ i, i < 2 → w.cell? ⟨gf, j * 2 + i, none⟩ = L.files[j].cells[i]? := fun i hi => by
      rw [cell_of_row w gf _ cur 102 (0, 0) hh, ← flat_seg_get L.files j i hi hj, ← ht, List.getElem?_take, if_pos (by omega)]
      simp
    exact ⟨gf, cap, e1, hnc, hcm, at_ 0 (by omega), at_ 1 (by omega)⟩
theorem LgF.slice {w : World} {X : Nat → Prop} {d g N : Nat} {S : AS} {L : LS} {fv : Value} (h : LgF w X d g N S L fv) : ∃ A c, fv = .slice A L.files.length c := by
  rcases h.at_.row.2 with ⟨e1, h0⟩ | ⟨gf, cap, cur, e1, _⟩
  · exact ⟨none, 0, by rw [h0]; exact e1⟩
  · exact ⟨_, _, e1⟩
set_option maxHeartbeats 400000 in
theorem said_none (g : Nat) (w : World) : Calls Tryz.prog 61 #[gpt g, .int .i64 0] w fun e w' => e = .returned (.int .i64 0) ∧ w = w' := by
  unfold gpt
  go_enter Tryz.func61, Tryz.ntmps61
  go_wp2
  go_ret
  exact ⟨rfl, rfl⟩
theorem Grow.keepG2 {b : Nat} {w w' : World} {v : Value} {l : List SegP} (h : Grow b 102 2 segG w v l) {F : Nat → Prop} (hf : Fr F w w') (hF : ∀ k, v.ownBlock = some k → ¬ F k) : Grow b 102 2 segG w' v l := by
  obtain ⟨K, xs, ho, hel, hK⟩ := h
  exact ⟨K, xs, own_of ho fun k hk => hf.block k (ho.lt k hk).2 (hF k hk), fun j hj => hel j hj, fun k hk => ⟨(hK k hk).1, Nat.lt_of_lt_of_le (hK k hk).2.1 hf.size, (hK k hk).2.2⟩⟩
theorem info102b : (Tryz.prog.info? 102).map (fun i => (i.zero, i.size, i.bytes)) = some (some (.agg #[.int .i64 0, .int .i64 0]), 2, 16) := by kernel_rfl
/-- The loop, in a round. -/
structure Trm (w wr : World) (X : Nat → Prop) (d g N n : Nat) (L : LS) (fv : Value) (upto : Int) (R : AS × List SegP × Int) (j : Nat) (kept : List SegP) (S1 : AS) (X1 : Nat → Prop) (kv : Value) : Prop where
  le : j ≤ n
  res : trimLoop L upto S1 kept (L.files.drop j) = R
  lgf : LgF wr X1 d g (N + j) S1 L fv
  sub : ∀ k, X k → X1 k
  own : ∀ k, kv.ownBlock = some k → X1 k
  row : Grow w.heap.size 102 2 segG wr kv kept
  cnt : kept.length ≤ j
  fr : Fr (fun k => ¬ X k) w wr
set_option maxRecDepth 100000 in
set_option maxHeartbeats 8000000 in
theorem trimL_any {w : World} {X : Nat → Prop} {d g N : Nat} {S : AS} {L : LS} (h : Lg w X d g N S L) (upto : Int) (hN : N + L.files.length ≤ 1000000000) (hfl : L.files.length ≤ 1000000) (hnums : ∀ s ∈ L.files, -9223372036854775808 ≤ s.n ∧ s.n ≤ 9223372036854775807) :
    Calls Tryz.prog 21 #[gpt g, .int .i64 upto] w fun e w' => e = .returned (.int .i64 (trimL S L upto).2.2) ∧ Lg w' X d g (N + L.files.length) (trimL S L upto).1 (trimL S L upto).2.1 ∧ Fr (fun k => ¬ X k) w w' := by
  have H := Lib.hid h
  have C0 := Lib.hid (state_any h)
  obtain ⟨fv0, hF0⟩ := h.lgf
  have HF := Lib.hid hF0
  obtain ⟨fvx, c0, c1, c2, c3, c4, c5, c6, c7, c8⟩ := h.cells
  have HBASE := Lib.hid h.base
  have HNUMS := Lib.hid hnums
  clear hnums
  unfold gpt at C0 ⊢
  clear h hF0 c0 c1 c2 c4 c5 c6 c7 c8
  by_cases hf : L.fault = 0
  · rw [hf] at C0
    by_cases hfi : L.firm < upto
    · have HV : Hid (trimL S L upto = (S, L, 1)) := Lib.hid (by unfold trimL; rw [if_neg (by simp [hf]), if_pos hfi])
      have t1 : decide (L.firm < upto) = true := by simpa using hfi
      clear hfi hf
      go_enter Tryz.func21, Tryz.ntmps21
      go_wp2_with fail
      refine C0.out.mono ?_
      rintro e w' ⟨rfl, rfl⟩
      go_wp2
      go_ret
      exact ⟨by rw [HV.out]; rfl, by rw [HV.out]; exact H.out.more (by omega) (by omega), Fr.refl _ _⟩
    · have t1 : decide (L.firm < upto) = false := by simpa using hfi
      obtain ⟨R, hR⟩ : ∃ R, trimLoop L upto S [] L.files = R := ⟨_, rfl⟩
      have HV : Hid (trimL S L upto = if R.2.2 ≠ 0 then (R.1, L.said R.2.2, R.2.2) else if R.2.1.length = L.files.length then (R.1, L, 0) else settleL R.1 { L with files := R.2.1 }) := Lib.hid (by unfold trimL; rw [if_neg (by simp [hf]), if_neg hfi, hR])
      have HRN : Hid (R.2.2 = 0 → numOf R.2.1 = L.number) := Lib.hid (by rw [← hR]; exact trimLoop_number L upto S)
      obtain ⟨A0, cp0, hfv⟩ := HF.out.slice
      obtain ⟨n, hn⟩ : ∃ n, L.files.length = n := ⟨_, rfl⟩
      have HN := Lib.hid hn
      have HR := Lib.hid hR
      have HFV := Lib.hid hfv
      have q4 : w.cell? ⟨g, 4, none⟩ = some fv0 := HF.out.at_.blk.cell 4
      rw [hfv, hn] at q4
      rw [hn] at hN hfl ⊢
      clear hfi hf hn hR hfv
      go_enter Tryz.func21, Tryz.ntmps21
      go_wp2_with fail
      refine C0.out.mono ?_
      rintro e w' ⟨rfl, rfl⟩
      obtain ⟨w0, hw0⟩ : ∃ w0, w.alloc (.cells #[] 102) = w0 := ⟨_, rfl⟩
      obtain ⟨b, hb⟩ : ∃ b, w.heap.size = b := ⟨_, rfl⟩
      have f0 : Fr No w w0 := by rw [← hw0]; exact (Fr.refl _ w).alloc _
      have hg0 : Grow w.heap.size 102 2 segG w0 (.slice (some ⟨b, 0, none⟩) 0 0) [] := by rw [← hw0, ← hb]; exact Grow.nil w.heap.size 102 2 segG w (Nat.le_refl _)
      have hlf0 : LgF w0 (fun k => X k ∨ k = b) d g N S L fv0 := HF.out.grow f0 (fun k hk => hk.elim) (fun k hk => .inl hk) fun k hk => by
        rcases hk with hk | hk
        · exact ⟨Nat.lt_of_lt_of_le (HBASE.out k hk) f0.size, .inl hk⟩
        · rw [hk, ← hb, ← hw0]; simp
      have hstart : Trm w w0 X d g N n L fv0 upto R 0 [] S (fun k => X k ∨ k = b) (.slice (some ⟨b, 0, none⟩) 0 0) :=
        ⟨Nat.zero_le _, HR.out, hlf0, fun k hk => .inl hk, fun k hk => .inr (by simpa [Value.ownBlock] using hk.symm), hg0, Nat.le_refl _, f0.any⟩
      have HST := Lib.hid hstart
      have HW0 := Lib.hid hw0
      have HB := Lib.hid hb
      have q40 : w0.cell? ⟨g, 4, none⟩ = some (.slice A0 n cp0) := by
        have := hlf0.at_.blk.cell 4
        rw [HFV.out, HN.out] at this
        exact this
      clear f0 hg0 hlf0 hstart hw0 hb
      go_upto_region 7 with fail
      rw [HW0.out, HB.out]
      clear q4 c3
      go_wp2_with fail
      go_loopw [6, 27] (fun kv iv wr => ∃ (j : Nat) (kept : List SegP) (S1 : AS) (X1 : Nat → Prop) (A1 : Option Addr) (c1 : Nat), kv = .slice A1 kept.length c1 ∧ iv = .int .i64 j ∧ Trm w wr X d g N n L fv0 upto R j kept S1 X1 (.slice A1 kept.length c1)) (fun _ iv _ => n - (intOf iv).toNat)
      case atStart => exact ⟨0, [], S, _, _, _, rfl, rfl, HST.out⟩
      case round =>
        obtain ⟨j, kept, S1, X1, A1, c1, rfl, rfl, hT⟩ := hrel
        have HT := Lib.hid hT
        by_cases hlt : j < n
        · have hjl : j < L.files.length := by rw [HN.out]; exact hlt
          obtain ⟨gf, cap, he0, hnc, hcm, x0, x1⟩ := hT.lgf.file j hjl
          have he1 : A0 = some ⟨gf, 0, none⟩ := by rw [HFV.out] at he0; injection he0
          have hres := hT.res
          rw [List.drop_eq_getElem_cons hjl] at hres
          have hnum0 := HNUMS.out _ (List.getElem_mem hjl)
          obtain ⟨s, hs⟩ : ∃ s, L.files[j] = s := ⟨_, rfl⟩
          rw [hs] at x0 x1 hres hnum0
          obtain ⟨sn, sl⟩ := s
          simp only at x0 x1 hnum0
          have HNB := Lib.hid hnum0
          clear hnum0
          have HRES := Lib.hid hres
          obtain ⟨w3, hw3⟩ : ∃ w3, wr.alloc (.cells #[.int .i64 sn, .int .i64 sl] 102) = w3 := ⟨_, rfl⟩
          obtain ⟨gs, hgs⟩ : ∃ gs, wr.heap.size = gs := ⟨_, rfl⟩
          have f3 : Fr No wr w3 := by rw [← hw3]; exact (Fr.refl _ wr).alloc _
          have hb3 : Blk w3 gs 102 #[.int .i64 sn, .int .i64 sl] := by rw [← hw3, ← hgs]; exact Blk.new wr 102 _
          obtain ⟨X3, hX3⟩ : ∃ X3 : Nat → Prop, (fun k => X1 k ∨ k = gs) = X3 := ⟨_, rfl⟩
          have hX3' : ∀ k, X3 k ↔ (X1 k ∨ k = gs) := fun k => by rw [← hX3]
          have hlf3 : LgF w3 X3 d g (N + j) S1 L fv0 := hT.lgf.grow f3 (fun k hk => hk.elim) (fun k hk => (hX3' k).2 (.inl hk)) fun k hk => by
            rcases (hX3' k).1 hk with hk | hk
            · exact ⟨Nat.lt_of_lt_of_le (hT.lgf.lg.base k hk) f3.size, .inl hk⟩
            · rw [hk]; exact ⟨hb3.lt, .inr (by omega)⟩
          have hrow3 := hT.row.keep segG_elem f3 fun k hk => hk.elim
          have HB3 := Lib.hid hb3
          have HX3 := Lib.hid hX3'
          have HLF3 := Lib.hid hlf3
          have HROW3 := Lib.hid hrow3
          have HF3 := Lib.hid (hT.fr.trans f3 fun _ _ hk => hk.elim)
          have HW3 := Lib.hid hw3
          have HGS := Lib.hid hgs
          have HD := Lib.hid (hlf3.keep ((Fr.refl No w3).drew))
          have HNUM := lnum_any HD.out.lg
          unfold gpt at HNUM
          have HNUMH := Lib.hid HNUM
          have hwge : w.heap.size ≤ gs := by rw [← hgs]; exact hT.fr.size
          have HGE := Lib.hid hwge
          subst he1
          obtain ⟨nm, hnm⟩ : ∃ nm, L.number = nm := ⟨_, rfl⟩
          rw [hnm] at HNUMH
          have HNM := Lib.hid hnm
          clear hT hjl he0 hnc hcm hres hs hw3 hgs f3 hb3 hX3 hX3' hlf3 hrow3 HNUM hwge hnm
          go_upto_region 10 with fail
          rw [HW3.out, HGS.out]
          clear x0 x1
          go_cut [41] (fun bv wx => bv = .bool (decide (sn = nm ∨ upto < sl)) ∧ Fr No w3 wx)
          case first =>
            have e0 : ∀ dd os, (grow (redrawn w3 dd) os).cell? ⟨gs, 0, none⟩ = some (.int .i64 sn) := fun dd os => (HB3.out.of ((Fr.of_below (below_regrown w3 dd os)).block gs HB3.out.lt id)).cell 0
            have e1 : ∀ dd os, (grow (redrawn w3 dd) os).cell? ⟨gs, 1, none⟩ = some (.int .i64 sl) := fun dd os => (HB3.out.of ((Fr.of_below (below_regrown w3 dd os)).block gs HB3.out.lt id)).cell 1
            have HU : Hid (∀ dd os, Calls Tryz.prog 60 #[.pointer (some ⟨g, 0, none⟩)] (grow (redrawn w3 dd) os) fun e w'' => e = .returned (.int .i64 nm) ∧ ∃ p : Regrown, w'' = grow (redrawn w3 p.d) p.os) := Lib.hid fun dd os => by
              have := lnum_any (HLF3.out.keep (Fr.of_below (below_regrown w3 dd os))).lg
              rw [HNM.out] at this
              exact Calls.regrown_of (this.mono fun e w' ⟨he, hf⟩ => ⟨he, hf.below⟩)
            by_cases h1 : sn = nm
            · have t2 : (sn == nm) = true := by simpa using h1
              have T3 := Lib.hid (show decide (sn = nm ∨ upto < sl) = true by simp [h1])
              clear h1
              refine wp_region_quiet_below mixed (by kernel_rfl) ?_
              repeat (first | go_big_quiet_step (exact HU.out _ _) | quiet_step (exact HU.out _ _))
              refine wpQuiet_nil ?_
              intro wx hp
              have hb : Fr No w3 wx := by obtain ⟨p, rfl⟩ := hp; exact Fr.of_below (below_regrown _ _ _)
              go_wp2_with fail
              go_meet
              exact ⟨by rw [T3.out], hb⟩
            · have t2 : (sn == nm) = false := by simpa using h1
              have T3 := Lib.hid (show decide (sn = nm ∨ upto < sl) = decide (upto < sl) by simp [h1])
              clear h1
              refine wp_region_quiet_below mixed (by kernel_rfl) ?_
              repeat (first | go_big_quiet_step (exact HU.out _ _) | quiet_step (exact HU.out _ _))
              refine wpQuiet_nil ?_
              intro wx hp
              have hb : Fr No w3 wx := by obtain ⟨p, rfl⟩ := hp; exact Fr.of_below (below_regrown _ _ _)
              go_wp2_with fail
              go_meet
              exact ⟨by rw [T3.out], hb⟩
          case rest =>
          obtain ⟨rfl, hfc⟩ := hcut
          have HFC := Lib.hid (HF3.out.trans hfc fun _ _ hk => hk.elim)
          have HLC := Lib.hid (HLF3.out.keep hfc)
          have HBC := Lib.hid (HB3.out.of (hfc.block gs HB3.out.lt id))
          have hrowc := HROW3.out.keep segG_elem hfc fun k hk => hk.elim
          have HRC := Lib.hid hrowc
          have z0 : wc.cell? ⟨gs, 0, none⟩ = some (.int .i64 sn) := HBC.out.cell 0
          have z1 : wc.cell? ⟨gs, 1, none⟩ = some (.int .i64 sl) := HBC.out.cell 1
          clear hfc HNUMH HD HROW3 HB3 HLF3 HF3
          by_cases hk : sn = nm ∨ upto < sl
          · have hres2 := HRES.out
            rw [trimLoop, if_pos (by rw [HNM.out]; exact hk)] at hres2
            have HR2 := Lib.hid hres2
            rw [decide_eq_true hk]
            have hkl : kept.length ≤ j := HT.out.cnt
            obtain ⟨A2, c2, w4, hap, hg4, f4, hlt4, ho4⟩ := hrowc.more2 segG_elem (w0 := wc) (Nat.le_trans HT.out.fr.size (by rw [HGS.out]; exact Nat.le_of_lt HBC.out.lt)) (Nat.le_refl _) (fun x hx => (hrowc.lt x hx).2) 69 Tryz.underlying69 (.agg #[.int .i64 0, .int .i64 0]) info102b rfl (by omega) ⟨sn, sl⟩ [.int .i64 sn, .int .i64 sl] rfl (by simp [Value.oneCell']) rfl (by omega) (by unfold maxLen; omega)
            obtain ⟨X4, hX4⟩ : ∃ X4 : Nat → Prop, (fun k => X3 k ∨ (Value.slice A2 (kept.length + 1) c2).ownBlock = some k) = X4 := ⟨_, rfl⟩
            have hX4' : ∀ k, X4 k ↔ (X3 k ∨ (Value.slice A2 (kept.length + 1) c2).ownBlock = some k) := fun k => by rw [← hX4]
            have hoX : ∀ k, (Value.slice A1 kept.length c1).ownBlock = some k → X3 k := fun k hk => (HX3.out k).2 (.inl (HT.out.own k hk))
            have hlf4 : LgF w4 X4 d g (N + j) S1 L fv0 := HLC.out.grow f4 (fun k hk => ⟨hoX k hk, by have := (hrowc.lt k hk).1; have := H.out.vr.lt; omega⟩) (fun k hk => (hX4' k).2 (.inl hk)) fun k hk => by
              rcases (hX4' k).1 hk with hk | hk
              · exact ⟨Nat.lt_of_lt_of_le (HLC.out.lg.base k hk) f4.size, .inl hk⟩
              · refine ⟨hlt4 k hk, ?_⟩
                rcases ho4 k hk with e | e
                · exact .inl (hoX k e)
                · exact .inr (by omega)
            have hdone : Trm w w4 X d g N n L fv0 upto R (j + 1) (kept ++ [⟨sn, sl⟩]) S1 X4 (.slice A2 (kept.length + 1) c2) :=
              ⟨by omega, HR2.out, ⟨hlf4.vr, hlf4.lo, hlf4.at_, hlf4.dk.more (by omega) (by omega), hlf4.ng, hlf4.no, (hlf4.lg.more (M := N + (j + 1)) (by omega) (by omega)).ok, by omega⟩, fun k hk => (hX4' k).2 (.inl ((HX3.out k).2 (.inl (HT.out.sub k hk)))), fun k hk => (hX4' k).2 (.inr hk), hg4, by simp; omega, HFC.out.trans f4 fun k hk ho hx => by have := (hrowc.lt k ho).1; have := HBASE.out k hx; omega⟩
            have HD := Lib.hid hdone
            have HAP := Lib.hid hap
            clear hres2 hap hg4 f4 hlt4 ho4 hX4 hX4' hoX hlf4 hdone hrowc hk
            go_wp2_with (at_builtin; refine wpList_add rfl _ _ _ _ rfl _ _ _ _ rfl rfl (HAP.out _) ?_)
            refine ⟨⟨j + 1, kept ++ [⟨sn, sl⟩], S1, X4, A2, c2, by simp, by go_num, by simpa using HD.out⟩, ?_⟩
            simp [intOf]; omega
          · have hres2 := HRES.out
            rw [trimLoop, if_neg (by rw [HNM.out]; exact hk)] at hres2
            rw [decide_eq_false hk]
            obtain ⟨E, hE⟩ : ∃ E, (S1.remove (nameW sn)).2 = E := ⟨_, rfl⟩
            obtain ⟨S2, hS2⟩ : ∃ S2, (S1.remove (nameW sn)).1 = S2 := ⟨_, rfl⟩
            simp only [hE, hS2] at hres2
            have HR2 := Lib.hid hres2
            have HDW := Lib.hid (HLC.out.keep ((Fr.refl No wc).drew))
            have hnum := HNB.out
            have HNA := Lib.hid (name_any sn wc.drew HDW.out.vr hnum.1 hnum.2)
            have HBD := Lib.hid (HBC.out.of (((Fr.refl No wc).drew).block gs HBC.out.lt id))
            have hm := me_remove
            clear hres2 hrowc hk hnum
            by_cases hE0 : E = 0
            · subst hE0
              go_upto_region 12 with fail
              go_cut [9] (fun ev wx => ev = .int .i64 0 ∧ LgF wx X3 d g (N + j + 1) S2 L fv0 ∧ Fr (fun k => ¬ X3 k) wc wx)
              case first =>
                go_region_held3 (fun w' => w'.cell? ⟨gs, 0, none⟩ = some (.int .i64 sn) ∧ w'.cell? ⟨g, 0, none⟩ = some (.iface 25 (.pointer (some ⟨d, 0, none⟩))))
                  (first | exact ⟨HB5.out.cell 0, HL5.out.lg.one⟩ | exact ⟨HB4.out.cell 0, HL4.out.lg.one⟩ | exact ⟨HBD.out.cell 0, HDW.out.lg.one⟩ | go_keep)
                  (first
                    | (go_at_call 28; refine HNA.out.mono ?_; rintro e w4 ⟨rfl, f4⟩; have HL4 := Lib.hid (HDW.out.keep f4); have HB4 := Lib.hid (HBD.out.of (f4.block gs HBD.out.lt id)); have HF4 := Lib.hid f4; clear f4)
                    | (go_at_call 253; refine (lgf_remove HL4.out (by omega) (nameW sn) (nameW_max _)).mono ?_; rintro e w5 ⟨rfl, h5, f5⟩; rw [hE]; have HL5 := Lib.hid (show LgF w5 X3 d g (N + j + 1) S2 L fv0 by rw [← hS2]; exact h5); have HB5 := Lib.hid (HB4.out.of (f5.block gs HB4.out.lt fun hn => hn ((HX3.out gs).2 (.inr rfl)))); have HF5 := Lib.hid f5; clear h5 f5)
                    | (go_at_call 61; refine (said_none g _).mono ?_; rintro e w6 ⟨rfl, rfl⟩))
                all_goals (go_simp; go_wp2_with fail)
                all_goals go_meet
                all_goals exact ⟨rfl, HL5.out, ((((Fr.refl (fun k => ¬ X3 k) wc).drew.trans HF4.out fun _ _ hk => hk.elim).thenX HF5.out))⟩
              case rest =>
              obtain ⟨rfl, hl5, hf5⟩ := hcut
              have hrow5 := HRC.out.keepG2 hf5 fun k hk hn => hn ((HX3.out k).2 (.inl (HT.out.own k hk)))
              have hdone : Trm w wc X d g N n L fv0 upto R (j + 1) kept S2 X3 (.slice A1 kept.length c1) :=
                ⟨by omega, by simpa using HR2.out, hl5, fun k hk => (HX3.out k).2 (.inl (HT.out.sub k hk)), fun k hk => (HX3.out k).2 (.inl (HT.out.own k hk)), hrow5, by have := HT.out.cnt; omega, HFC.out.trans hf5 fun k _ hk hx => hk ((HX3.out k).2 (.inl (HT.out.sub k hx)))⟩
              have HD := Lib.hid hdone
              clear hl5 hf5 hrow5 hdone HNA HDW HBD hm z0 z1
              go_wp2_with fail
              refine ⟨⟨j + 1, kept, S2, X3, A1, c1, rfl, by go_num, HD.out⟩, ?_⟩
              simp [intOf]; omega
            · have HRE : Hid (R = (S2, kept, E)) := Lib.hid (by have := HR2.out; rw [if_pos hE0] at this; exact this.symm)
              have hd : (E != 0) = true := by simpa using hE0
              have HVE : Hid (trimL S L upto = (S2, L.said E, E)) := Lib.hid (by rw [HV.out, HRE.out]; exact if_pos hE0)
              clear hE0
              go_upto_region 12 with fail
              go_cut [9] (fun ev wx => ev = .int .i64 E ∧ Lg wx X3 d g (N + j + 1) S2 (L.said E) ∧ Fr (fun k => ¬ X3 k) wc wx)
              case first =>
                go_region_held3 (fun w' => w'.cell? ⟨gs, 0, none⟩ = some (.int .i64 sn) ∧ w'.cell? ⟨g, 0, none⟩ = some (.iface 25 (.pointer (some ⟨d, 0, none⟩))))
                  (first | exact ⟨HB6.out.cell 0, HL6.out.one⟩ | exact ⟨HB5.out.cell 0, HL5.out.lg.one⟩ | exact ⟨HB4.out.cell 0, HL4.out.lg.one⟩ | exact ⟨HBD.out.cell 0, HDW.out.lg.one⟩ | go_keep)
                  (first
                    | (go_at_call 28; refine HNA.out.mono ?_; rintro e w4 ⟨rfl, f4⟩; have HL4 := Lib.hid (HDW.out.keep f4); have HB4 := Lib.hid (HBD.out.of (f4.block gs HBD.out.lt id)); have HF4 := Lib.hid f4; clear f4)
                    | (go_at_call 253; refine (lgf_remove HL4.out (by omega) (nameW sn) (nameW_max _)).mono ?_; rintro e w5 ⟨rfl, h5, f5⟩; rw [hE]; have HL5 := Lib.hid (show LgF w5 X3 d g (N + j + 1) S2 L fv0 by rw [← hS2]; exact h5); have HB5 := Lib.hid (HB4.out.of (f5.block gs HB4.out.lt fun hn => hn ((HX3.out gs).2 (.inr rfl)))); have HF5 := Lib.hid f5; clear h5 f5)
                    | (go_at_call 61; refine (said_any HL5.out.lg E).mono ?_; rintro e w6 ⟨rfl, h6, f6⟩; have HL6 := Lib.hid h6; have HB6 := Lib.hid (HB5.out.of (f6.block gs HB5.out.lt fun hn => hn ((HX3.out gs).2 (.inr rfl)))); have HF6 := Lib.hid f6; clear h6 f6))
                all_goals (go_simp; go_wp2_with fail)
                all_goals go_meet
                all_goals exact ⟨rfl, HL6.out, (((((Fr.refl (fun k => ¬ X3 k) wc).drew.trans HF4.out fun _ _ hk => hk.elim).thenX HF5.out)).thenX HF6.out)⟩
              case rest =>
              obtain ⟨rfl, hl6, hf6⟩ := hcut
              have HL6 := Lib.hid ((hl6.less (fun k hk => (HX3.out k).2 (.inl (HT.out.sub k hk))) H.out.lo).more (M := N + n) (by omega) (by omega))
              have HF6 := Lib.hid (HFC.out.trans hf6 fun k _ hk hx => hk ((HX3.out k).2 (.inl (HT.out.sub k hx))))
              clear hl6 hf6 HNA HDW HBD hm z0 z1
              go_wp2_with fail
              refine bodyPost_ret (v := .int .i64 E) (by simp [results, Tryz.results21, go_sem]) rfl ?_
              exact ⟨by rw [HVE.out], by rw [HVE.out]; exact HL6.out, HF6.out⟩
        · have hjn : j = n := by have := hT.le; omega
          subst hjn
          have hres := hT.res
          rw [List.drop_of_length_le (by rw [HN.out]; exact Nat.le_refl _), trimLoop] at hres
          have HRE : Hid (R = (S1, kept, 0)) := Lib.hid hres.symm
          have hkn : numOf kept = L.number := by have := HRN.out; rw [HRE.out] at this; exact this rfl
          have q41 : wr.cell? ⟨g, 4, none⟩ = some (.slice A0 j cp0) := by
            have := hT.lgf.at_.blk.cell 4
            rw [HFV.out, HN.out] at this
            exact this
          have hvv : trimL S L upto = if kept.length = L.files.length then (S1, L, 0) else settleL S1 { L with files := kept } := by rw [HV.out, HRE.out]; exact if_neg (by simp)
          rw [HN.out] at hvv
          have HVV := Lib.hid hvv
          have hkl := hT.cnt
          by_cases hke : kept.length = j
          · have HV1 := Lib.hid (hvv.trans (if_pos hke))
            have HLE := Lib.hid ((hT.lgf.lg.less hT.sub H.out.lo).more (M := N + j) (by omega) (by omega))
            rw [hke]
            clear hvv hres hkn hT
            go_wp2_with fail
            refine bodyPost_ret (v := .int .i64 0) (by simp [results, Tryz.results21, go_sem]) rfl ?_
            exact ⟨by rw [HV1.out], by rw [HV1.out]; exact HLE.out, HT.out.fr⟩
          · have HV1 := Lib.hid (hvv.trans (if_neg hke))
            have hok := hT.lgf.ok
            have htk := hT.lgf.lg.takeFiles hT.row hT.sub H.out.lo HBASE.out hT.own (by have := hok.files; rw [HN.out] at this; omega) (by rw [hkn]; exact hok.number)
            obtain ⟨w5, hw5⟩ : ∃ w5, wr.setCell ⟨g, 4, none⟩ (.slice A1 kept.length c1) = w5 := ⟨_, rfl⟩
            rw [hw5] at htk
            have HTK := Lib.hid htk
            have HW5 := Lib.hid hw5
            have HSE := settleL_any htk.1
            unfold gpt at HSE
            have HSEH := Lib.hid HSE
            have y4 := hT.lgf.lg.frozen 4
            have t5 : ((kept.length : Int) == (j : Int)) = false := by rw [beq_eq_false_iff_ne]; omega
            have t6 : decide (kept.length = j) = false := by simp; exact hke
            clear hvv hres hkn hok htk hw5 HSE hT
            go_upto_region 19 with fail
            rw [HW5.out]
            go_wp2_with fail
            refine HSEH.out.mono ?_
            rintro e w6 ⟨rfl, h6, f6⟩
            go_wp2_with fail
            refine bodyPost_ret (v := .int .i64 (settleL S1 { L with files := kept }).2.2) (by simp [results, Tryz.results21, go_sem]) rfl ?_
            exact ⟨by rw [HV1.out], by rw [HV1.out]; exact h6, (HT.out.fr.thenX HTK.out.2).thenX f6⟩
  · have HV : Hid (trimL S L upto = (S, L, L.fault)) := Lib.hid (by unfold trimL; rw [if_pos hf])
    have hd : (L.fault != 0) = true := by simpa using hf
    clear hf
    generalize hfa : L.fault = fa at *
    have HFA := Lib.hid hfa
    clear hfa
    go_enter Tryz.func21, Tryz.ntmps21
    go_wp2_with fail
    refine C0.out.mono ?_
    rintro e w' ⟨rfl, rfl⟩
    go_wp2
    go_ret
    exact ⟨by rw [HV.out]; rfl, by rw [HV.out]; exact H.out.more (by omega) (by omega), Fr.refl _ _⟩
end Go.Proofs.YtccjkolcmdhliaaGreatDoor
/- Trim of a log that is whole; what WalKeeps needs besides (plain). -/
namespace Go.Proofs.YtccjkolcmdhliaaGreatDoor
open Go.RowKit Go.Maps Go.Sort
set_option linter.unusedVariables false

/-- All that is firm was let go. -/
theorem J.raise {S : AS} {all : List (List UInt8)} {F o A B : Nat} {fn : Nat → Int} {st : Nat → Nat} {t : List UInt8} (h : J S all F o A B fn st t) : J S all F F A B fn st t :=
  ⟨h.lo, h.ab, h.hi, h.held, h.firmW, h.firmL, h.inj, fun j hj => by
    obtain ⟨a, b, v1, v2, v3, v4, v5, v6, v7⟩ := h.views j hj
    exact ⟨a, b, v1, v2, v3, v4, Nat.le_trans v5 h.of, v6, v7⟩, Nat.le_refl _⟩
theorem H.raise {S : AS} {L : LS} {all : List (List UInt8)} {F o A B c : Nat} {fn : Nat → Int} {st : Nat → Nat} (h : H S L all F o A B c fn st) : H S L all F F A B c fn st :=
  ⟨h.j.raise, h.on, h.fault, h.last, h.len, h.firm, h.ac, h.cb, h.view, Nat.le_trans h.so h.j.of, h.em, h.files, h.size, h.synced, h.some_, h.names⟩
theorem J.arm {S : AS} {all : List (List UInt8)} {F o A B : Nat} {fn : Nat → Int} {st : Nat → Nat} {t : List UInt8} {N : Nat} (h : J S all F o A B fn st t) (hi : Inv N S) (n : Int) : J (S.arm n) all F o A B fn st t :=
  h.file rfl rfl fun k r _ _ hr => ⟨r, hr, rfl, Nat.le_refl _, (hi.file _ _ hr).2.2.1⟩
theorem H.arm {S : AS} {L : LS} {all : List (List UInt8)} {F o A B c : Nat} {fn : Nat → Int} {st : Nat → Nat} {N : Nat} (h : H S L all F o A B c fn st) (hi : Inv N S) (n : Int) : H (S.arm n) L all F o A B c fn st :=
  ⟨h.j.arm hi n, h.on, h.fault, h.last, h.len, h.firm, h.ac, h.cb, h.view, h.so, h.em, h.files, h.size, h.synced, h.some_, h.names⟩
/-- The first segment goes. -/
theorem J.removed {S : AS} {all : List (List UInt8)} {F o A B k : Nat} {fn : Nat → Int} {st : Nat → Nat} {N : Nat} (h : J S all F o A B fn st []) (hi : Inv N S) (hk : A ≤ k) (hkB : k + 1 < B) (hv : View S.names k B fn) (hst : st (k + 1) ≤ o) :
    J (S.removed (nm k)) all F o A B fn st [] ∧ View (S.removed (nm k)).names (k + 1) B fn := by
  have hlo := h.lo
  have hhi := h.hi
  have hvn : View (S.removed (nm k)).names (k + 1) B fn := by
    have e0 : (S.removed (nm k)).names = S.names.del (.string (nm k)) := by
      show (Ch.mk (nm k) [] 0).app S.names = _
      unfold Ch.app; simp
    refine ⟨by omega, hv.hi, fun s n => ?_⟩
    rw [e0]
    by_cases es : s = nm k
    · subst es
      rw [look_del_same]
      constructor
      · intro hh; cases hh
      · rintro ⟨q, q1, q2, q3, _⟩
        have := nm_inj (show 1 ≤ k by omega) (by omega) (by omega) (by omega) q3
        omega
    · rw [look_del_other es, hv.get s n]
      constructor
      · rintro ⟨q, q1, q2, q3, q4⟩
        have : q ≠ k := fun e => es (by rw [← e]; exact q3)
        exact ⟨q, by omega, q2, q3, q4⟩
      · rintro ⟨q, q1, q2, q3, q4⟩
        exact ⟨q, by omega, q2, q3, q4⟩
  refine ⟨⟨h.lo, h.ab, h.hi, h.held, h.firmW, h.firmL, h.inj, fun j hj => ?_, h.of⟩, hvn⟩
  have hll : (S.removed (nm k)).loose.length = S.loose.length + 1 := by show (S.loose ++ [_]).length = _; simp
  rw [hll] at hj
  by_cases e : j = S.loose.length + 1
  · have ep : past (S.removed (nm k)) j = (S.removed (nm k)).names := by
      have e2 : (S.removed (nm k)).loose.length = j := by omega
      rw [← e2]
      show past (S.altered _) (S.altered _).loose.length = _
      rw [past_app_last, ← hi.now]
      rfl
    rw [ep]
    exact ⟨k + 1, B, by omega, by omega, Nat.le_refl _, hvn, hst, h.F_le, fun e => by omega⟩
  · have ep : past (S.removed (nm k)) j = past S j := past_app S _ j (by omega)
    rw [ep]
    exact h.views j (by omega)
theorem trimLoop_all (L : LS) (upto : Int) : ∀ (fs : List SegP) (S : AS) (kept : List SegP), (∀ s ∈ fs, s.n = L.number ∨ upto < s.last) → trimLoop L upto S kept fs = (S, kept ++ fs, 0)
  | [], S, kept, h => by simp [trimLoop]
  | f :: fs, S, kept, h => by
    rw [trimLoop, if_pos (h f (by simp)), trimLoop_all L upto fs S _ fun s hs => h s (by simp [hs])]
    simp
/-- The loop of a trim: up to where it goes. -/
theorem trim_view {L : LS} {all : List (List UInt8)} {F A B : Nat} {fn : Nat → Int} {st : Nat → Nat} {N : Nat} (hnum : L.number = ((B - 1 : Nat) : Int)) : ∀ (n k : Nat) (S : AS), k + n = B → A ≤ k → J S all F F A B fn st [] → Inv (N + (B - k)) S → S.on = true → View S.names k B fn → st k ≤ F → 0 < n →
    (∃ k' S', trimLoop L (F : Int) S [] ((List.range' k n).map (segL st)) = (S', (List.range' k' (B - k')).map (segL st), 0) ∧ k ≤ k' ∧ k' < B ∧ J S' all F F A B fn st [] ∧ S'.on = true ∧ View S'.names k' B fn ∧ st k' ≤ F ∧ S'.file = S.file ∧ (k' = k → S' = S) ∧ ∃ M, Inv M S') ∨
    ((trimLoop L (F : Int) S [] ((List.range' k n).map (segL st))).2.2 = 13 ∧ J (trimLoop L (F : Int) S [] ((List.range' k n).map (segL st))).1 all F F A B fn st [])
  | 0, k, S, hn, hA, hj, hi, hon, hv, hst, h0 => absurd h0 (Nat.lt_irrefl _)
  | n + 1, k, S, hn, hA, hj, hi, hon, hv, hst, h0 => by
    have hlo := hj.lo
    have hhi := hj.hi
    by_cases hkeep : ∀ s ∈ (List.range' k (n + 1)).map (segL st), s.n = L.number ∨ (F : Int) < s.last
    · left
      refine ⟨k, S, ?_, Nat.le_refl _, by omega, hj, hon, hv, hst, rfl, fun _ => rfl, _, hi⟩
      rw [trimLoop_all L _ _ S [] hkeep, List.nil_append, show n + 1 = B - k by omega]
    · have hk1 : ¬ ((segL st k).n = L.number ∨ (F : Int) < (segL st k).last) := by
        intro hc
        refine hkeep fun s hs => ?_
        obtain ⟨q, hq, rfl⟩ := List.mem_map.1 hs
        rw [List.mem_range'_1] at hq
        by_cases hqB : q + 1 = B
        · left; unfold segL; rw [hnum]; simp only; omega
        · right
          have hkB : k + 1 < B := by
            refine Decidable.byContradiction fun hx => ?_
            omega
          rcases hc with hc | hc
          · exfalso
            have hc' : ((k : Nat) : Int) = L.number := hc
            rw [hnum] at hc'
            omega
          · obtain ⟨_, _, _, r1⟩ := hj.held.whole k hA hkB
            obtain ⟨_, _, _, r2⟩ := hj.held.whole q (by omega) (by omega)
            have e1 : (segL st k).last = (st (k + 1) : Int) := by unfold segL; simp only; rw [if_pos r1]
            have e2 : (segL st q).last = (st (q + 1) : Int) := by unfold segL; simp only; rw [if_pos r2]
            rw [e1] at hc
            rw [e2]
            have := hj.held.rise (j := k + 1) (k := q + 1) (by omega) (by omega) (by omega)
            omega
      have hkB : k + 1 < B := by
        refine Decidable.byContradiction fun hx => hk1 (.inl ?_)
        unfold segL; rw [hnum]; simp only; omega
      obtain ⟨_, _, _, r1⟩ := hj.held.whole k hA hkB
      have hst1 : st (k + 1) ≤ F := by
        have e1 : (segL st k).last = (st (k + 1) : Int) := by unfold segL; simp only; rw [if_pos r1]
        rw [e1] at hk1
        omega
      obtain ⟨hj2, hv2⟩ := hj.removed hi hA hkB hv hst1
      have hck : checkOf S.on [nm k] = 0 := by unfold checkOf; rw [hon]; simp [nm_ok (show 1 ≤ k by omega) (by omega)]
      have hrem : S.remove (nameW (segL st k).n) = ((S.removed (nm k)).step, S.stepE) := by
        show S.remove (nm k) = _
        unfold AS.remove
        rw [if_pos hck, hv.at (Nat.le_refl _) (by omega)]
      have hi2 : Inv (N + (B - k) + 1) (S.removed (nm k)) := hi.removed (nm_ok (by omega) (by omega))
      have hse : (S.removed (nm k)).stepE = S.stepE := rfl
      rw [List.range'_succ, List.map_cons, trimLoop, if_neg hk1, hrem]
      simp only
      rcases stepE_01 S with he | he
      · rw [if_neg (by rw [he]; simp)]
        obtain ⟨g1, g2, g3, g4, g5, g6⟩ := step_same (S.removed (nm k))
        rcases trim_view (N := N + (B - k) + 1) hnum n (k + 1) (S.removed (nm k)).step (by omega) (by omega) (hj2.step hi2) (hi2.step.mono (by omega)) (by rw [step_on (by rw [hse]; exact he)]; exact hon) (by rw [g1]; exact hv2) hst1 (by omega) with ⟨k', S', t1, t2, t3, t4, t5, t6, t7, t8, t9, t10⟩ | ⟨t1, t2⟩
        · exact .inl ⟨k', S', t1, by omega, t3, t4, t5, t6, t7, by rw [t8, g4]; rfl, fun e => by omega, t10⟩
        · exact .inr ⟨t1, t2⟩
      · rw [if_pos (by rw [he]; simp)]
        exact .inr ⟨he, hj2.step hi2⟩
/-- What Trim, up to what is firm, comes to. -/
theorem H.trim_cases {S : AS} {L : LS} {all : List (List UInt8)} {F o A B c : Nat} {fn : Nat → Int} {st : Nat → Nat} {N : Nat} (h0 : H S L all F o A B c fn st) (hi : Inv N S) :
    (∃ A' c', H (trimL S L (F : Int)).1 (trimL S L (F : Int)).2.1 all F F A' B c' fn st) ∨ ((trimL S L (F : Int)).2.1.fault = 13 ∧ J (trimL S L (F : Int)).1 all F F A B fn st []) := by
  have h := h0.raise
  have hlo := h.j.lo
  have hac := h.ac
  have hcb := h.cb
  have hfl : L.files.length = B - c := by rw [h.files]; simp
  unfold trimL
  rw [if_neg (by rw [h.fault]; simp), if_neg (by rw [h.firm]; omega)]
  by_cases hcB : c = B
  · have e : L.files = [] := by rw [h.files, show B - c = 0 by omega]; rfl
    rw [e, trimLoop]
    simp only
    rw [if_neg (by simp), if_pos trivial]
    exact .inl ⟨A, c, h⟩
  · rw [h.files]
    rcases trim_view (N := N) h.number (B - c) c S (by omega) hac h.j (hi.mono (by omega)) h.on h.view h.so (by omega) with ⟨k', S', t1, t2, t3, t4, t5, t6, t7, t8, t9, M, t10⟩ | ⟨t1, t2⟩
    · rw [t1]
      simp only
      rw [if_neg (by simp)]
      by_cases hkc : k' = c
      · rw [if_pos (by simp; omega), t9 hkc]
        exact .inl ⟨A, c, h⟩
      · rw [if_neg (by simp; omega)]
        have hse : S'.settle = if S'.stepE = 0 then (S'.step.settled, 0) else (S'.step, 13) := by unfold AS.settle; rw [if_pos t5]
        obtain ⟨e1, e2, e3, e4, e5, e6⟩ := step_same S'
        rcases stepE_01 S' with he | he
        · rw [if_pos he] at hse
          have hsl : settleL S' { L with files := (List.range' k' (B - k')).map (segL st) } = (S'.step.settled, { L with files := (List.range' k' (B - k')).map (segL st), names := false }, 0) := by unfold settleL; rw [hse]; rfl
          rw [hsl]
          have hj1 := (t4.step t10).settled t10.step (c := k') (by omega) (by omega) (by rw [e1]; exact t6) t7 (fun e => by omega)
          left
          refine ⟨k', k', hj1, by show S'.step.on = true; rw [step_on he]; exact t5, h.fault, h.last, h.len, h.firm, Nat.le_refl _, by omega, by show View S'.step.names k' B fn; rw [e1]; exact t6, t7, fun e => by omega, rfl, fun _ => h.size (by omega), fun hb _ r hr => ?_, fun _ => t3, fun _ => rfl⟩
          have hr' : (if keeps S'.step.names (fn (B - 1)) = true then S'.step.file (fn (B - 1)) else none) = some r := hr
          split at hr'
          · rw [e4, t8] at hr'
            exact h.synced hb (by omega) r hr'
          · cases hr'
        · rw [if_neg (by rw [he]; decide)] at hse
          have hsl : settleL S' { L with files := (List.range' k' (B - k')).map (segL st) } = (S'.step, LS.said { L with files := (List.range' k' (B - k')).map (segL st) } 13, 13) := by unfold settleL; rw [hse]; rfl
          rw [hsl]
          refine .inr ⟨?_, t4.step t10⟩
          unfold LS.said
          rw [if_pos (by decide)]
    · rw [if_pos (by rw [t1]; simp)]
      refine .inr ⟨?_, t2⟩
      simp only
      rw [t1]
      unfold LS.said
      rw [if_pos (by decide)]
end Go.Proofs.YtccjkolcmdhliaaGreatDoor
/- What WalKeeps asks of a step: its data; an arm, a crash; a dead log's Trim. -/
namespace Go.Proofs.YtccjkolcmdhliaaGreatDoor
open Go.RowKit Go.Maps Go.Sort
set_option linter.unusedVariables false

/-- A step of a script, plain; its picks by their slice. -/
structure OpK where
  kind : Int
  n : Int
  size : Int
  data : List UInt8
  pv : Value
  picks : List Int
def OpK.cells (o : OpK) : List Value := [.int .i64 o.kind, .int .i64 o.n, .int .i64 o.size, sv o.data, o.pv]
def OpK.val (o : OpK) : Value := .agg #[.int .i64 o.kind, .int .i64 o.n, .int .i64 o.size, sv o.data, o.pv]
theorem tmod_small (x m : Int) (hm : 0 < m) : -m < x.tmod m ∧ x.tmod m < m := by
  have h1 := Int.tmod_lt_of_pos x hm
  have h2 := Int.tmod_lt_of_pos (-x) hm
  rw [Int.neg_tmod] at h2
  omega
def inI (n : Int) : Prop := -9223372036854775808 ≤ n ∧ n ≤ 9223372036854775807
def OpK.dataW (o : OpK) : List UInt8 := o.data ++ List.replicate (o.size.tmod 3000).toNat 0
theorem OpK.dataW_len (o : OpK) : o.dataW.length ≤ o.data.length + 2999 := by
  unfold OpK.dataW
  rw [List.length_append, List.length_replicate]
  have := (tmod_small o.size 3000 (by omega)).2
  omega
set_option maxRecDepth 100000 in
set_option maxHeartbeats 1000000 in
theorem data_any (w : World) (o : OpK) (hs : inI o.size) (hd : o.data.length ≤ 1000000000000) :
    Calls Tryz.prog 25 #[o.val] w fun e w' => e = .returned (sv o.dataW) ∧ Fr No w w' := by
  obtain ⟨kd, nn, sz, dt, pv, pk⟩ := o
  obtain ⟨b1, b2⟩ := tmod_small sz 3000 (by omega)
  obtain ⟨m, hm⟩ : ∃ m : Nat, (sz.tmod 3000).toNat = m := ⟨_, rfl⟩
  have hm3 : m < 3000 := by omega
  have hdw : OpK.dataW ⟨kd, nn, sz, dt, pv, pk⟩ = dt ++ List.replicate m 0 := by unfold OpK.dataW; rw [hm]
  rw [hdw]
  unfold OpK.val
  simp only at hs hd
  clear hdw hs
  unfold sv
  by_cases h0 : 0 < sz.tmod 3000
  · have hmz : sz.tmod 3000 = (m : Int) := by omega
    have hgt : decide ((0 : Int) < (m : Int)) = true := by simp; omega
    have hmp : 0 < m := by omega
    obtain ⟨i0, hi, hz0, hz1, hz2⟩ := info_parts info5
    have hmk : Hid (∀ wx : World, ∃ w', (Instr.makeSlice 63 (.int .i64 (m : Nat)) (.int .i64 (m : Nat))).run Tryz.prog wx = .ok (.slice (some ⟨wx.heap.size, 0, none⟩) m m) w' ∧ Fr No wx w' ∧ (convert 63 9 (.slice (some ⟨wx.heap.size, 0, none⟩) m m)).run Tryz.prog w' = .ok (.string ⟨(List.replicate m 0).toArray⟩) w') := Lib.hid fun wx => by
      obtain ⟨w', h1, h2, h3⟩ := run_make_full (P := Tryz.prog) wx wx.heap.size 63 5 i0 (.int .u8 0) 1 Tryz.underlying63 hi hz0 hz1 .i64 .i64 m (by rw [hz2]; omega) (by unfold maxLen; omega) (Nat.le_refl _)
      refine ⟨w', h1, (Fr.refl No wx).grown h3 (fun k hk => by cases hk), ?_⟩
      refine run_text (l := List.replicate m 0) (base := wx.heap.size) ?_
      rw [List.length_replicate, List.map_replicate]
      have : (madeCells (Value.int .u8 0).cells (m * 1)).toList = List.replicate m (byteV 0) := by
        rw [Nat.mul_one]
        exact toList_madeCells_one _ _
      rw [this] at h2
      exact h2
    have hcat : Hid (∀ wx : World, (Op.stringOp .add ⟨dt.toArray⟩ ⟨(List.replicate m 0).toArray⟩).run Tryz.prog wx = .ok (.string ⟨(dt ++ List.replicate m 0).toArray⟩) wx) := Lib.hid fun wx => run_cat dt (List.replicate m 0) (by rw [List.length_replicate]; omega) wx
    obtain ⟨da, hda⟩ : ∃ x : ByteArray, (⟨dt.toArray⟩ : ByteArray) = x := ⟨_, rfl⟩
    obtain ⟨ra, hra⟩ : ∃ x : ByteArray, (⟨(List.replicate m 0).toArray⟩ : ByteArray) = x := ⟨_, rfl⟩
    obtain ⟨ca, hca⟩ : ∃ x : ByteArray, (⟨(dt ++ List.replicate m 0).toArray⟩ : ByteArray) = x := ⟨_, rfl⟩
    rw [hda, hra, hca] at hcat
    rw [hra] at hmk
    rw [hda, hca]
    clear h0 hm hi hz0 hz1 hz2 b1 b2 hd hda hra hca i0
    go_enter Tryz.func25, Tryz.ntmps25
    go_wp2_with fail
    have hfa : Fr No w (w.alloc (Obj.cells #[.int .i64 kd, .int .i64 nn, .int .i64 sz, .string da, pv] 36)) := (Fr.refl No w).alloc _
    obtain ⟨wq, hwq⟩ : ∃ wq, w.alloc (Obj.cells #[.int .i64 kd, .int .i64 nn, .int .i64 sz, .string da, pv] 36) = wq := ⟨_, rfl⟩
    rw [hwq] at hfa ⊢
    have HFA := Lib.hid hfa
    obtain ⟨w', h1, h2, h3⟩ := hmk.out wq
    have H2 := Lib.hid (hfa.trans h2 fun _ _ h => h)
    rw [h1]
    have hc := hcat.out w'
    clear hwq hfa h1 h2
    go_wp2_with fail
    go_ret
    exact ⟨rfl, H2.out⟩
  · have hm0 : m = 0 := by omega
    subst hm0
    have hgt : decide ((0 : Int) < sz.tmod 3000) = false := by simp; omega
    rw [List.replicate_zero, List.append_nil]
    obtain ⟨da, hda⟩ : ∃ x : ByteArray, (⟨dt.toArray⟩ : ByteArray) = x := ⟨_, rfl⟩
    rw [hda]
    clear h0 hm b1 b2 hd hda hm3
    go_enter Tryz.func25, Tryz.ntmps25
    go_wp2_with fail
    go_ret
    exact ⟨rfl, (Fr.refl _ _).alloc _⟩
end Go.Proofs.YtccjkolcmdhliaaGreatDoor
/- What WalKeeps's loop keeps, plain. -/
namespace Go.Proofs.YtccjkolcmdhliaaGreatDoor
open Go.RowKit Go.Maps Go.Sort
set_option linter.unusedVariables false

/-- A log that may have lost its power. -/
def Al (S : AS) (L : LS) (all : List (List UInt8)) (F o b : Nat) : Prop :=
  (∃ A B c fn st, H S L all F o A B c fn st ∧ B ≤ b) ∨ (L.fault = 13 ∧ ∃ A B fn st t, J S all F o A B fn st t ∧ B ≤ b)
/-- A disk whose power came back. -/
def Cr (S : AS) (all : List (List UInt8)) (F o b : Nat) : Prop :=
  ∃ A B fn st t, J S all F o A B fn st t ∧ B ≤ b ∧ View S.names A B fn ∧ st A ≤ o ∧ (A = B → A = 1) ∧ S.on = true ∧ S.loose = []
theorem Al.mono {S : AS} {L : LS} {all : List (List UInt8)} {F o b b' : Nat} (h : Al S L all F o b) (hb : b ≤ b') : Al S L all F o b' := by
  rcases h with ⟨A, B, c, fn, st, h1, h2⟩ | ⟨h0, A, B, fn, st, t, h1, h2⟩
  · exact .inl ⟨A, B, c, fn, st, h1, by omega⟩
  · exact .inr ⟨h0, A, B, fn, st, t, h1, by omega⟩
theorem Al.j {S : AS} {L : LS} {all : List (List UInt8)} {F o b : Nat} (h : Al S L all F o b) : ∃ A B fn st t, J S all F o A B fn st t ∧ B ≤ b := by
  rcases h with ⟨A, B, c, fn, st, h1, h2⟩ | ⟨h0, h1⟩
  · exact ⟨A, B, fn, st, [], h1.j, h2⟩
  · exact h1
theorem Al.bounds {S : AS} {L : LS} {all : List (List UInt8)} {F o b : Nat} (h : Al S L all F o b) : o ≤ F ∧ F ≤ all.length := by
  obtain ⟨A, B, fn, st, t, h1, h2⟩ := h.j
  exact ⟨h1.of, Nat.le_trans h1.F_le (h1.held.le B h1.ab (Nat.le_refl _))⟩
theorem al_sync {S : AS} {L : LS} {all : List (List UInt8)} {F o b N : Nat} (h : Al S L all F o b) (hi : Inv N S) :
    ((syncL S L).2.2 = 0 ∧ Al (syncL S L).1 (syncL S L).2.1 all all.length o b) ∨ ((syncL S L).2.2 = 13 ∧ Al (syncL S L).1 (syncL S L).2.1 all F o b) := by
  rcases h with ⟨A, B, c, fn, st, h1, h2⟩ | ⟨h0, A, B, fn, st, t, h1, h2⟩
  · rcases h1.sync_cases hi with ⟨e, A', k⟩ | ⟨e, f, k⟩
    · exact .inl ⟨e, .inl ⟨A', B, c, fn, st, k, h2⟩⟩
    · exact .inr ⟨e, .inr ⟨f, A, B, fn, st, [], k, h2⟩⟩
  · right
    have e : syncL S L = (S, L, L.fault) := by unfold syncL; rw [if_pos (by rw [h0]; omega)]
    rw [e]
    exact ⟨h0, .inr ⟨h0, A, B, fn, st, t, h1, h2⟩⟩
theorem al_trim {S : AS} {L : LS} {all : List (List UInt8)} {F o b N : Nat} (h : Al S L all F o b) (hi : Inv N S) : Al (trimL S L (F : Int)).1 (trimL S L (F : Int)).2.1 all F F b := by
  rcases h with ⟨A, B, c, fn, st, h1, h2⟩ | ⟨h0, A, B, fn, st, t, h1, h2⟩
  · rcases h1.trim_cases hi with ⟨A', c', k⟩ | ⟨f, k⟩
    · exact .inl ⟨A', B, c', fn, st, k, h2⟩
    · exact .inr ⟨f, A, B, fn, st, [], k, h2⟩
  · have e : trimL S L (F : Int) = (S, L, L.fault) := by unfold trimL; rw [if_pos (by rw [h0]; omega)]
    rw [e]
    exact .inr ⟨h0, A, B, fn, st, t, h1.raise, h2⟩
theorem al_append {S : AS} {L : LS} {all : List (List UInt8)} {F o b N : Nat} (h : Al S L all F o b) (hi : Inv N S) (hb : b < 190) (hfin : all.length < 1000000) (d : List UInt8) :
    ((appendL S L d).2.2.1 = ((all.length + 1 : Nat) : Int) ∧ (appendL S L d).2.2.2 = 0 ∧ Al (appendL S L d).1 (appendL S L d).2.1 (all ++ [d]) F o (b + 1)) ∨
    ((appendL S L d).2.2.1 = 0 ∧ (appendL S L d).2.2.2 = 13 ∧ L.fault = 0 ∧ Al (appendL S L d).1 (appendL S L d).2.1 (all ++ [d]) F o (b + 1)) ∨
    ((appendL S L d).2.2.1 = 0 ∧ ((appendL S L d).2.2.2 = 12 ∨ (appendL S L d).2.2.2 = 23) ∧ Al (appendL S L d).1 (appendL S L d).2.1 all F o (b + 1)) ∨
    ((appendL S L d).2.2.1 = 0 ∧ (appendL S L d).2.2.2 = 13 ∧ L.fault = 13 ∧ Al (appendL S L d).1 (appendL S L d).2.1 all F o (b + 1)) := by
  rcases h with ⟨A, B, c, fn, st, h1, h2⟩ | ⟨h0, A, B, fn, st, t, h1, h2⟩
  · rcases h1.append_cases hi (by omega) hfin d with ⟨a1, a2, a3, B', fn', st', a4, a5⟩ | ⟨a1, a2, a4⟩ | ⟨a1, a2, a3, a4, B', fn', st', a5, a6⟩
    · exact .inl ⟨a1, a2, .inl ⟨A, B', c, fn', st', a4, by omega⟩⟩
    · refine .inr (.inr (.inl ⟨a1, ?_, .inl ⟨A, B, c, fn, st, a4, by omega⟩⟩))
      rcases a2 with ⟨a2, _⟩ | ⟨a2, _⟩
      · exact .inl a2
      · exact .inr a2
    · exact .inr (.inl ⟨a1, a2, h1.fault, .inr ⟨a4, A, B', fn', st', [], a5, by omega⟩⟩)
  · have e : appendL S L d = (S, L, 0, L.fault) := by unfold appendL; rw [if_pos (by rw [h0]; omega)]
    rw [e]
    exact .inr (.inr (.inr ⟨rfl, h0, h0, .inr ⟨h0, A, B, fn, st, t, h1, by omega⟩⟩))
theorem al_arm {S : AS} {L : LS} {all : List (List UInt8)} {F o b N : Nat} (h : Al S L all F o b) (hi : Inv N S) (n : Int) : Al (S.arm n) L all F o b := by
  rcases h with ⟨A, B, c, fn, st, h1, h2⟩ | ⟨h0, A, B, fn, st, t, h1, h2⟩
  · exact .inl ⟨A, B, c, fn, st, h1.arm hi n, h2⟩
  · exact .inr ⟨h0, A, B, fn, st, t, h1.arm hi n, h2⟩
theorem cr_of {S : AS} {all : List (List UInt8)} {F o b N : Nat} (h : ∃ A B fn st t, J S all F o A B fn st t ∧ B ≤ b) (hi : Inv N S) (ps : List Int) : Cr (S.crashed ps) all F o b := by
  obtain ⟨A, B, fn, st, t, h1, h2⟩ := h
  obtain ⟨a, b', st', t', j1, j2, j3, j4, j5, j6, j7⟩ := h1.crash hi ps
  exact ⟨a, b', fn, st', t', j1, by omega, j3, j4, j5, j6, j7⟩
theorem cr_arm {S : AS} {all : List (List UInt8)} {F o b N : Nat} (h : Cr S all F o b) (hi : Inv N S) (n : Int) : Cr (S.arm n) all F o b := by
  obtain ⟨A, B, fn, st, t, h1, h2, h3, h4, h5, h6, h7⟩ := h
  exact ⟨A, B, fn, st, t, h1.arm hi n, h2, h3, h4, h5, h6, h7⟩
theorem Cr.on {S : AS} {all : List (List UInt8)} {F o b : Nat} (h : Cr S all F o b) : S.on = true := by
  obtain ⟨A, B, fn, st, t, h1, h2, h3, h4, h5, h6, h7⟩ := h
  exact h6
/-- What Open comes to behind a crash. -/
theorem cr_open {S : AS} {all : List (List UInt8)} {F o b N : Nat} (h : Cr S all F o b) (hi : Inv N S) :
    (∃ S' L' e, openW S o = .ok (S', L', recsOf (sl all o e) o) ∧ o ≤ F ∧ F ≤ e ∧ e ≤ all.length ∧ Al S' L' (all.take e) e o b ∧ L'.last = (e : Nat) ∧ L'.firm = (e : Nat) ∧ (S'.armed = true → S'.armed = true)) ∨
    (openW S o = .error 13 ∧ S.armed = true ∧ ∃ A B fn st t, J (openS S o) all F o A B fn st t ∧ B ≤ b) := by
  obtain ⟨A, B, fn, st, t, h1, h2, h3, h4, h5, h6, h7⟩ := h
  have he := h1.held.le B h1.ab (Nat.le_refl _)
  rcases h1.open_cases hi h6 h7 h3 h4 h5 with ⟨S', L', o1, o2, o3⟩ | ⟨t', o1, o2, o3⟩
  · left
    refine ⟨S', L', st B, o1, h1.of, h1.F_le, he, .inl ⟨A, B, A, fn, st, o2, h2⟩, ?_, o2.firm, id⟩
    have := o2.last
    rw [List.length_take, Nat.min_eq_left he] at this
    exact this
  · exact .inr ⟨o1, o3, A, B, fn, st, t', o2, h2⟩
/-- A beginning of a row of one's own. -/
theorem Grow.takeS {b : Nat} {w : World} {A : Option Addr} {n c : Nat} {l : List (List UInt8)} (h : Grow b 9 1 strG w (.slice A n c) l) (e : Nat) (he : e ≤ l.length) : Grow b 9 1 strG w (.slice A e c) (l.take e) ∧ n = l.length ∧ n ≤ c ∧ (c ≠ 0 → ∃ g, A = some ⟨g, 0, none⟩) ∧ (A = none → c = 0) := by
  obtain ⟨K, xs, ho, hel, hK⟩ := h
  have hl : (l.take e).length = e := by rw [List.length_take]; omega
  have hel' : ∀ j (h : j < (l.take e).length), ∃ cs : List Value, cs.length = 1 ∧ (∀ i, i < 1 → (xs.take (e * 1))[j * 1 + i]? = cs[i]?) ∧ strG K w (l.take e)[j] cs := fun j hj => by
    rw [hl] at hj
    obtain ⟨cs, h1, h2, h3⟩ := hel j (by omega)
    refine ⟨cs, h1, fun i hi => ?_, by rw [List.getElem_take]; exact h3⟩
    rw [List.getElem?_take, if_pos (by omega)]
    exact h2 i hi
  rcases ho.2 with ⟨e1, h0⟩ | ⟨g, cap, cur, e1, hg, hh, hn, hcm, hcs, htk⟩
  · injection e1 with e2 e3 e4
    subst e2; subst e4; subst e3
    have h0' : l.length = 0 := h0
    obtain rfl : e = 0 := by omega
    exact ⟨⟨K, xs.take (0 * 1), ⟨by simp, .inl ⟨rfl, by simp⟩⟩, hel', fun k hk => ⟨(hK k hk).1, (hK k hk).2.1, by simp [Value.ownBlock]⟩⟩, h0'.symm, Nat.le_refl _, fun h => absurd rfl h, fun _ => rfl⟩
  · injection e1 with e2 e3 e4
    subst e2; subst e4; subst e3
    refine ⟨⟨K, xs.take (e * 1), ⟨by rw [List.length_take, ho.1, hl]; omega, .inr ⟨g, c, cur, by rw [hl], hg, hh, by omega, hcm, hcs, ?_⟩⟩, hel', fun k hk => ⟨(hK k hk).1, (hK k hk).2.1, ?_⟩⟩, rfl, hn, fun _ => ⟨g, rfl⟩, fun h => by cases h⟩
    · rw [hl, ← htk, List.take_take]; congr 1; omega
    · have := (hK k hk).2.2
      simpa [Value.ownBlock] using this
theorem al_start {room : Int} : Al (AS.new room) L0 [] 0 0 1 := .inl ⟨1, 1, 1, _, _, H.new 0 rfl, Nat.le_refl _⟩
theorem lg_arm {w : World} {X : Nat → Prop} {d g N : Nat} {S : AS} {L : LS} (h : Lg w X d g N S L) (n : Int) (hn : n ≤ 9223372036854775807) :
    Calls Tryz.prog 22 #[dkp d, .int .i64 n] w fun e w' => e = .returned (.tuple #[]) ∧ Lg w' X d g N (S.arm n) L ∧ Fr (fun k => ¬ X k) w w' := by
  obtain ⟨fv, hL, hd, h3, h4⟩ := h.log
  refine (x_arm hd n hn).mono ?_
  rintro e w' ⟨he, hd', hf⟩
  exact ⟨he, h.disk (Nat.le_refl _) h.big hL h3 h4 hd' hf⟩
theorem trim_dead {w : World} {X : Nat → Prop} {d g N : Nat} {S : AS} {L : LS} (h : Lg w X d g N S L) (h0 : L.fault = 13) (n : Value) : Calls Tryz.prog 21 #[gpt g, n] w fun e w' => e = .returned (.int .i64 13) ∧ w = w' := by
  have hC := state_any h
  rw [h0] at hC
  have HC := Lib.hid hC
  clear h h0 hC
  go_enter Tryz.func21, Tryz.ntmps21
  go_wp2_with fail
  refine HC.out.mono ?_
  rintro e w' ⟨rfl, rfl⟩
  go_wp2
  go_ret
  exact ⟨rfl, rfl⟩
/-- Trim on a log that may have lost its power. -/
theorem al_trim_any {w : World} {X : Nat → Prop} {d g N : Nat} {S : AS} {L : LS} {all : List (List UInt8)} {F o b : Nat} (h : Lg w X d g N S L) (ha : Al S L all F o b) (hb : b ≤ 190) (hN : N + 190 ≤ 1000000000) :
    Calls Tryz.prog 21 #[gpt g, .int .i64 (F : Nat)] w fun e w' => (∃ n : Int, e = .returned (.int .i64 n)) ∧ Lg w' X d g (N + 190) (trimL S L (F : Int)).1 (trimL S L (F : Int)).2.1 ∧ Fr (fun k => ¬ X k) w w' := by
  rcases ha with ⟨A, B, c, fn, st, h1, h2⟩ | ⟨h0, _⟩
  · have hfl : L.files.length = B - c := by rw [h1.files]; simp
    refine (trimL_any h (F : Int) (by omega) (by omega) fun s hs => ?_).mono ?_
    · rw [h1.files] at hs
      obtain ⟨k, hk, rfl⟩ := List.mem_map.1 hs
      have := List.mem_range'_1.1 hk
      unfold segL
      simp only
      omega
    · rintro e w' ⟨he, hl, hf⟩
      exact ⟨⟨_, he⟩, hl.more (by omega) (by omega), hf⟩
  · refine (trim_dead h h0 _).mono ?_
    rintro e w' ⟨he, rfl⟩
    have e : trimL S L (F : Int) = (S, L, L.fault) := by unfold trimL; rw [if_pos (by rw [h0]; omega)]
    rw [e]
    exact ⟨⟨_, he⟩, h.more (by omega) (by omega), Fr.refl _ _⟩
end Go.Proofs.YtccjkolcmdhliaaGreatDoor
/- What WalKeeps's loop does, by its world. -/
namespace Go.Proofs.YtccjkolcmdhliaaGreatDoor
open Go.RowKit Go.Maps Go.Sort
set_option linter.unusedVariables false

/-- What a good Open leaves. -/
def Opd (w' : World) (X : Nat → Prop) (d N : Nat) (all : List (List UInt8)) (F o b : Nat) (lv rv : Value) : Prop :=
  ∃ (g : Nat) (A : Option Addr) (c : Nat) (X2 : Nat → Prop) (S' : AS) (L' : LS) (ne : Nat), lv = gpt g ∧ rv = .slice A ne c ∧ (∀ k, X k → X2 k) ∧ Lg w' X2 d g N S' L' ∧ (∃ bb, Grow bb 52 2 recG w' (.slice A ne c) (recsOf (sl all o (o + ne)) o)) ∧ (∀ k, (Value.slice A ne c).ownBlock = some k → X2 k) ∧
    o ≤ F ∧ F ≤ o + ne ∧ o + ne ≤ all.length ∧ Al S' L' (all.take (o + ne)) (o + ne) o b ∧ L'.last = ((o + ne : Nat) : Int) ∧ L'.firm = ((o + ne : Nat) : Int)
/-- What an Open whose power went out leaves. -/
def Opf (w' : World) (X : Nat → Prop) (d N : Nat) (all : List (List UInt8)) (F o b : Nat) : Prop :=
  ∃ S', Dk w' X d N S' ∧ ∃ A B fn st t, J S' all F o A B fn st t ∧ B ≤ b
theorem open_cr {w : World} {X : Nat → Prop} {d N : Nat} {S : AS} {all : List (List UInt8)} {F o b : Nat} (h : Dk w X d N S) (hc : Cr S all F o b) (hv : Vr w) (lo : ∀ k, k < 4 → X k) (hN : N ≤ 1000000000) (ho : o ≤ 1000000) :
    Calls Tryz.prog 19 #[dkp d, .int .i64 (o : Nat)] w fun e w' => ∃ lv rv en, e = .returned (.tuple #[lv, rv, .int .i64 en]) ∧ Fr (fun k => ¬ X k) w w' ∧ Vr w' ∧ ((en = 0 ∧ Opd w' X d N all F o b lv rv) ∨ (en = 13 ∧ S.armed = true ∧ Opf w' X d N all F o b)) := by
  refine (open_on (o : Int) h hv lo hN hc.on (by omega) (by omega)).mono ?_
  rintro e w' ⟨h1, h2, h3, h4⟩
  rcases cr_open hc h.inv with ⟨S', L', e1, o1, o2, o3, o4, o5, o6, o7, _⟩ | ⟨o1, o2, o3⟩
  · obtain ⟨g, A, c, X1, he, hx, hl, hg, hown, _⟩ := h1 _ o1
    obtain ⟨ne, rfl⟩ : ∃ ne, e1 = o + ne := ⟨e1 - o, by omega⟩
    have hlen : (recsOf (sl all o (o + ne)) o).length = ne := by rw [recsOf_len, sl_len o4]; omega
    simp only [hlen] at he hg hown
    exact ⟨_, _, 0, he, h4, h3, .inl ⟨rfl, g, A, c, X1, S', L', ne, rfl, rfl, hx, hl, ⟨_, hg⟩, hown, o2, o3, o4, o5, o6, o7⟩⟩
  · obtain ⟨he, hd⟩ := h2 _ o1
    exact ⟨_, _, 13, he, h4, h3, .inr ⟨rfl, o2, _, hd, o3⟩⟩
theorem run_takeS {w : World} {b : Nat} {A : Option Addr} {n c : Nat} {l : List (List UInt8)} (h : Grow b 9 1 strG w (.slice A n c) l) (e : Nat) (he : e ≤ l.length) (w0 : World) :
    (Instr.slice 46 (.slice A l.length c) none (some (.int .i64 (e : Nat))) none).run Tryz.prog w0 = .ok (.slice A e c) w0 := by
  obtain ⟨_, h1, h2, h3, h4⟩ := h.takeS e he
  obtain ⟨i0, hi, hz0, hz1, hz2⟩ := info_parts info9
  have hel : Tryz.prog.underlying 46 = some (.slice (Tryz.prog.elem 46)) := by kernel_rfl
  have hsz : (sizeOf (Tryz.prog.elem 46)).run Tryz.prog w0 = .ok 1 w0 := by
    have e : Tryz.prog.elem 46 = 9 := by kernel_rfl
    rw [e]
    simp [sizeOf, typeInfo, hi, hz1]
  have hr := run_slice_h (P := Tryz.prog) w0 46 A l.length c hel .i64 (e : Nat) (by omega) (by omega)
  rw [hsz] at hr
  rw [hr]
  cases A with
  | none =>
    have hc := h4 rfl
    subst hc
    obtain rfl : e = 0 := by omega
    rfl
  | some a =>
    by_cases hc : c = 0
    · subst hc
      obtain rfl : e = 0 := by omega
      rfl
    · obtain ⟨g, hg⟩ := h3 hc
      obtain rfl : a = ⟨g, 0, none⟩ := Option.some.inj hg
      have ea : (if c = 0 then (some ⟨g, 0, none⟩ : Option Addr) else (some (⟨g, 0, none⟩ : Addr)).map (·.add (0 * 1))) = some ⟨g, 0, none⟩ := by
        split
        · rfl
        · simp [Addr.add_lit]
      simp only [sliced, Result.andThen, ea, Int.toNat_natCast, Nat.sub_zero]
/-- A step as it lies in memory. -/
def opE (w : World) (o : OpK) (cs : List Value) : Prop :=
  cs = o.cells ∧ inI o.kind ∧ inI o.n ∧ inI o.size ∧ ∃ A n c g, o.pv = .slice A n c ∧ PicksAt w g A n c o.picks
/-- The loop, in a round. -/
structure Kp (w0 w1 wr : World) (X : Nat → Prop) (d g i : Nat) (all : List (List UInt8)) (F o : Nat) (S : AS) (L : LS) (X1 : Nat → Prop) (av : Value) : Prop where
  lg : Lg wr X1 d g (200 * i) S L
  sub : ∀ k, X k → X1 k
  own : ∀ k, av.ownBlock = some k → X1 k ∧ w0.heap.size ≤ k
  row : Grow w0.heap.size 9 1 strG wr av all
  al : Al S L all F o (i + 1)
  cnt : all.length ≤ i
  fr : Fr (fun k => ¬ X k) w1 wr
theorem inv_of_dk {w : World} {X : Nat → Prop} {d N : Nat} {S : AS} (h : Dk w X d N S) : Inv N S := h.inv
/-- A crash by the law's picks. -/
theorem crash_by {w w' : World} {X X1 : Nat → Prop} {d N : Nat} {S : AS} {o : OpK} {all : List (List UInt8)} {F f b : Nat} (h : Dk w' X1 d N S) (hX : ∀ k, X k ↔ k < w.heap.size) (hs : ∀ k, X k → X1 k) {A : Option Addr} {n c g : Nat} (hp : PicksAt w g A n c o.picks) (hf : Fr (fun k => ¬ X k) w w') (hj : ∃ A B fn st t, J S all F f A B fn st t ∧ B ≤ b) :
    Calls Tryz.prog 23 #[dkp d, .slice A n c] w' fun e wx => e = .returned (.tuple #[]) ∧ Fr (fun k => ¬ X1 k) w' wx ∧ ∃ S', Dk wx X1 d N S' ∧ Cr S' all F f b ∧ S'.armed = false := by
  refine (x_crash h g A n c o.picks (hp.fr hf fun hn hk => hk ((hX g).2 (hp.lt hn))) fun hn => .inl (hs g ((hX g).2 (hp.lt hn)))).mono ?_
  rintro e wx ⟨he, hd, hf2⟩
  exact ⟨he, hf2, _, hd, cr_of hj h.inv _, rfl⟩
end Go.Proofs.YtccjkolcmdhliaaGreatDoor
/- WalKeeps's loop: its body, and what a round keeps. -/
namespace Go.Proofs.YtccjkolcmdhliaaGreatDoor
open Go.RowKit Go.Maps Go.Sort
set_option linter.unusedVariables false

def firstLoop : Code → Option Code
  | .loop c => some c
  | .seq a b => match firstLoop a with
    | some c => some c
    | none => firstLoop b
  | .block _ c => firstLoop c
  | .scope c => firstLoop c
  | .cond _ a b => match firstLoop a with
    | some c => some c
    | none => firstLoop b
  | _ => none
noncomputable def keepsBody : Code := ((Tryz.f4.body.bind firstLoop).getD .skip)
def kindOf (o : OpK) : Int := if o.kind.tmod 9 < 0 then o.kind.tmod 9 + 9 else o.kind.tmod 9
set_option maxRecDepth 1000000 in
/-- What a round leaves. -/
def KI (w w1 : World) (X : Nat → Prop) (d n : Nat) (V0 c1 c6 c7 c21 c22 c23 c24 c25 c26 c27 c28 c29 c30 c31 c32 c33 c34 c35 c36 c37 c38 c231 : Value) (a : Act) (w' : World) : Prop :=
  ∃ u2 u5 u8 u9 u10 u11 u12 u13 u14 u15 u16 u17 u18 u19 u20 u39 u40 u41 u42 u43 u44 u45 u46 u47 u48 u49 u50 u51 u52 u53 u54 u55 u56 u57 u58 u59 u60 u61 u62 u63 u64 u65 u66 u67 u68 u69 u70 u71 u72 u73 u74 u75 u76 u77 u78 u79 u80 u81 u82 u83 u84 u85 u86 u87 u88 u89 u90 u91 u92 u93 u94 u95 u96 u97 u98 u99 u100 u101 u102 u103 u104 u105 u106 u107 u108 u109 u110 u111 u112 u113 u114 u115 u116 u117 u118 u119 u120 u121 u122 u123 u124 u125 u126 u127 u128 u129 u130 u131 u132 u133 u134 u135 u136 u137 u138 u139 u140 u141 u142 u143 u144 u145 u146 u147 u148 u149 u150 u151 u152 u153 u154 u155 u156 u157 u158 u159 u160 u161 u162 u163 u164 u165 u166 u167 u168 u169 u170 u171 u172 u173 u174 u175 u176 u177 u178 u179 u180 u181 u182 u183 u184 u185 u186 u187 u188 u189 u190 u191 u192 u193 u194 u195 u196 u197 u198 u199 u200 u201 u202 u203 u204 u205 u206 u207 u208 u209 u210 u211 u212 u213 u214 u215 u216 u217 u218 u219 u220 u221 u222 u223 u224 u225 u226 u227 u228 u229 u230 : Value, (∃ (g i : Nat) (all : List (List UInt8)) (F o : Nat) (S : AS) (L : LS) (X1 : Nat → Prop) (Aa : Option Addr) (ca : Nat), i ≤ n ∧ i ≤ 80 ∧ u5 = .pointer (some ⟨g, 0, none⟩) ∧ u8 = .slice Aa all.length ca ∧ u9 = .int .i64 (F : Nat) ∧ u10 = .int .i64 (o : Nat) ∧ u11 = .int .i64 (i : Nat) ∧
    Kp w w1 w' X d g i all F o S L X1 (.slice Aa all.length ca)) ∧ a = ⟨#[V0, c1, u2, .bool true, .pointer (some ⟨d, 0, none⟩), u5, c6, c7, u8, u9, u10, u11, u12, u13, u14, u15, u16, u17, u18, u19, u20, c21, c22, c23, c24, c25, c26, c27, c28, c29, c30, c31, c32, c33, c34, c35, c36, c37, c38, u39, u40, u41, u42, u43, u44, u45, u46, u47, u48, u49, u50, u51, u52, u53, u54, u55, u56, u57, u58, u59, u60, u61, u62, u63, u64, u65, u66, u67, u68, u69, u70, u71, u72, u73, u74, u75, u76, u77, u78, u79, u80, u81, u82, u83, u84, u85, u86, u87, u88, u89, u90, u91, u92, u93, u94, u95, u96, u97, u98, u99, u100, u101, u102, u103, u104, u105, u106, u107, u108, u109, u110, u111, u112, u113, u114, u115, u116, u117, u118, u119, u120, u121, u122, u123, u124, u125, u126, u127, u128, u129, u130, u131, u132, u133, u134, u135, u136, u137, u138, u139, u140, u141, u142, u143, u144, u145, u146, u147, u148, u149, u150, u151, u152, u153, u154, u155, u156, u157, u158, u159, u160, u161, u162, u163, u164, u165, u166, u167, u168, u169, u170, u171, u172, u173, u174, u175, u176, u177, u178, u179, u180, u181, u182, u183, u184, u185, u186, u187, u188, u189, u190, u191, u192, u193, u194, u195, u196, u197, u198, u199, u200, u201, u202, u203, u204, u205, u206, u207, u208, u209, u210, u211, u212, u213, u214, u215, u216, u217, u218, u219, u220, u221, u222, u223, u224, u225, u226, u227, u228, u229, u230, c231], []⟩
end Go.Proofs.YtccjkolcmdhliaaGreatDoor
